/- Are objects alike? As the document says it. -/
import Derived.Test.YtcbhnpjaaaefiaaObjSame
namespace Go.Proofs.Ytcbhnpjaaaefiaa
open Go.ChangeShapes Go.WideShapes Go.ChangeAt Go.RowKit
set_option linter.unusedVariables false
set_option linter.unusedSimpArgs false
theorem rbytes_any {A A' : Nat → Prop} {w : World} {v v' : Value} {l m : Bs} (h1 : IsBytes A w v l) (h2 : IsBytes A' w v' m) :
    Calls Try.prog 13 #[v, v'] w fun e w' => Says e (l = m) ∧ Below w.heap.size w w' := by
  obtain ⟨a, c, rfl, ⟨hh, hc⟩, hb, -⟩ := h1.row
  obtain ⟨b, d, rfl, ⟨gh, gc⟩, gb, -⟩ := h2.row
  have l1 : l.length ≤ 9223372036854775807 := by have := hh.1; unfold maxLen at hc; omega
  have l2 : m.length ≤ 9223372036854775807 := by have := gh.1; unfold maxLen at gc; omega
  refine (bytes_eq w a b l.length m.length c d _ _ l1 l2 hb gb).mono ?_
  rintro e w' ⟨rfl, bel⟩
  refine ⟨says_of ?_, bel⟩
  unfold eqB
  rw [decide_eq_true_iff]
  constructor
  · rintro ⟨h1, h2⟩
    refine list_upto rfl h1.symm fun j hj => ?_
    rw [gF_get hj, gF_get (by omega : j < m.length), h2 j hj]
  · rintro rfl; exact ⟨rfl, fun _ _ => rfl⟩
theorem neq_note (w : World) (r q : NoteM) : (binOp .neq 46 (.agg #[.string r.name, .int .i64 r.kind]) (.agg #[.string q.name, .int .i64 q.kind])).run Try.prog w = .ok (.bool (!((r.name.toList == q.name.toList) && r.kind == q.kind))) w := by
  rw [run_neq_struct]
  simp [go_sem, Try.underlying46, Try.underlying3, Try.underlying9]
  by_cases h0 : r.kind = q.kind <;> by_cases h2 : r.name.toList = q.name.toList <;> simp [h0, h2]
theorem neq_note_is (r q : NoteM) (b : Bool) (h : b = true ↔ ¬ r = q) (w : World) : (binOp .neq 46 (.agg #[.string r.name, .int .i64 r.kind]) (.agg #[.string q.name, .int .i64 q.kind])).run Try.prog w = .ok (.bool b) w := by
  rw [neq_note]
  congr 2
  have hb : ((r.name.toList == q.name.toList) && r.kind == q.kind) = true ↔ r = q := by
    cases r; cases q
    rw [Bool.and_eq_true, str_beq]
    simp
  rw [Bool.eq_iff_iff, h, Bool.not_eq_true', ← Bool.not_eq_true, hb]
set_option maxRecDepth 100000 in
set_option maxHeartbeats 4000000 in
theorem rsame9_any {A A' : Nat → Prop} {w : World} {v v' : Value} {p q : ObjM} (h1 : IsObj A w v p) (h2 : IsObj A' w v' q) :
    Calls Try.prog 17 #[v, v'] w fun e w' => Says e (p = q) ∧ Below w.heap.size w w' := by
  obtain ⟨vf, vd, vn, rfl, hf, hd, hn⟩ := h1
  obtain ⟨uf, ud, un, rfl, kf, kd, kn⟩ := h2
  obtain ⟨pf, pd, pn⟩ := p
  obtain ⟨qf, qd, qn⟩ := q
  obtain ⟨fa, fc, rfl, fm, -, fx⟩ := LstA.open hf
  obtain ⟨da, dc, rfl, dm, -, dx⟩ := LstA.open hd
  obtain ⟨na, nc, rfl, nm, -, nx⟩ := LstA.open hn
  obtain ⟨ga, gc, rfl, gm, -, gx⟩ := LstA.open kf
  obtain ⟨ea, ec, rfl, em, -, ex⟩ := LstA.open kd
  obtain ⟨oa, oc, rfl, om, -, ox⟩ := LstA.open kn
  dsimp only at *
  have FX : Hid (∀ k, k < pf.length → ∃ b off x, fa = some ⟨b, off, none⟩ ∧ A b ∧ pf[k]? = some x ∧ FuncAt A w b (off + k * 4) x) := fx
  have DX : Hid (∀ k, k < pd.length → ∃ b off x, da = some ⟨b, off, none⟩ ∧ A b ∧ pd[k]? = some x ∧ DataAt A w b (off + k * 7) x) := dx
  have NX : Hid (∀ k, k < pn.length → ∃ b off x, na = some ⟨b, off, none⟩ ∧ A b ∧ pn[k]? = some x ∧ NoteAt w b (off + k * 2) x) := nx
  have GX : Hid (∀ k, k < qf.length → ∃ b off x, ga = some ⟨b, off, none⟩ ∧ A' b ∧ qf[k]? = some x ∧ FuncAt A' w b (off + k * 4) x) := gx
  have EX : Hid (∀ k, k < qd.length → ∃ b off x, ea = some ⟨b, off, none⟩ ∧ A' b ∧ qd[k]? = some x ∧ DataAt A' w b (off + k * 7) x) := ex
  have OX : Hid (∀ k, k < qn.length → ∃ b off x, oa = some ⟨b, off, none⟩ ∧ A' b ∧ qn[k]? = some x ∧ NoteAt w b (off + k * 2) x) := ox
  have hfl : (pf.length : Int) ≤ 9223372036854775807 := by unfold maxLen at fm; omega
  have hdl : (pd.length : Int) ≤ 9223372036854775807 := by unfold maxLen at dm; omega
  have hnl : (pn.length : Int) ≤ 9223372036854775807 := by unfold maxLen at nm; omega
  clear hf hd hn kf kd kn fx dx nx gx ex ox fm dm nm gm em om
  obtain ⟨C0, e0⟩ : ∃ C : Array Value, #[Value.slice fa pf.length fc, .slice da pd.length dc, .slice na pn.length nc] = C := ⟨_, rfl⟩
  obtain ⟨C1, e1⟩ : ∃ C : Array Value, #[Value.slice ga qf.length gc, .slice ea qd.length ec, .slice oa qn.length oc] = C := ⟨_, rfl⟩
  have UP : Hid (Below w.heap.size w ((w.alloc (.cells #[.slice fa pf.length fc, .slice da pd.length dc, .slice na pn.length nc] 26)).alloc (.cells #[.slice ga qf.length gc, .slice ea qd.length ec, .slice oa qn.length oc] 26))) := keep_alloc8 (keep_alloc8 (Below.refl _ _) _) _
  have X1 : Hid (XAt ((w.alloc (.cells #[.slice fa pf.length fc, .slice da pd.length dc, .slice na pn.length nc] 26)).alloc (.cells #[.slice ga qf.length gc, .slice ea qd.length ec, .slice oa qn.length oc] 26)) w.heap.size [.slice fa pf.length fc, .slice da pd.length dc, .slice na pn.length nc]) := (XAt.new _ _ _).later (by simp) ((Below.refl _ _).alloc (Nat.le_refl _) _)
  have X2 : Hid (XAt ((w.alloc (.cells #[.slice fa pf.length fc, .slice da pd.length dc, .slice na pn.length nc] 26)).alloc (.cells #[.slice ga qf.length gc, .slice ea qd.length ec, .slice oa qn.length oc] 26)) (w.heap.size + 1) [.slice ga qf.length gc, .slice ea qd.length ec, .slice oa qn.length oc]) := by
    have h := XAt.new (w.alloc (.cells #[.slice fa pf.length fc, .slice da pd.length dc, .slice na pn.length nc] 26)) #[.slice ga qf.length gc, .slice ea qd.length ec, .slice oa qn.length oc] 26
    rwa [show (w.alloc (.cells #[.slice fa pf.length fc, .slice da pd.length dc, .slice na pn.length nc] 26)).heap.size = w.heap.size + 1 from by simp] at h
  clear e0 e1 C0 C1
  go_enter Try.func17, Try.ntmps17
  go_upto_region 1 with fail
  generalize (w.alloc (.cells #[.slice fa pf.length fc, .slice da pd.length dc, .slice na pn.length nc] 26)).alloc (.cells #[.slice ga qf.length gc, .slice ea qd.length ec, .slice oa qn.length oc] 26) = w0 at UP X1 X2 ⊢
  have hX : Hid (w.heap.size < w0.heap.size ∧ w.heap.size + 1 < w0.heap.size) := ⟨X1.out.lt (by simp), X2.out.lt (by simp)⟩
  generalize w.heap.size + 1 = Y at X2 hX ⊢
  have cells := fun (W : World) (h : Below w0.heap.size w0 W) => (⟨(X1.out.later hX.out.1 h).1 0 _ rfl, (X1.out.later hX.out.1 h).1 1 _ rfl, (X1.out.later hX.out.1 h).1 2 _ rfl, (X2.out.later hX.out.2 h).1 0 _ rfl, (X2.out.later hX.out.2 h).1 1 _ rfl, (X2.out.later hX.out.2 h).1 2 _ rfl⟩ :
    W.cell? ⟨w.heap.size, 0, none⟩ = some (.slice fa pf.length fc) ∧ W.cell? ⟨w.heap.size, 1, none⟩ = some (.slice da pd.length dc) ∧ W.cell? ⟨w.heap.size, 2, none⟩ = some (.slice na pn.length nc) ∧ W.cell? ⟨Y, 0, none⟩ = some (.slice ga qf.length gc) ∧ W.cell? ⟨Y, 1, none⟩ = some (.slice ea qd.length ec) ∧ W.cell? ⟨Y, 2, none⟩ = some (.slice oa qn.length oc))
  have CELLS : Hid (∀ W, Below w0.heap.size w0 W → W.cell? ⟨w.heap.size, 0, none⟩ = some (.slice fa pf.length fc) ∧ W.cell? ⟨w.heap.size, 1, none⟩ = some (.slice da pd.length dc) ∧ W.cell? ⟨w.heap.size, 2, none⟩ = some (.slice na pn.length nc) ∧ W.cell? ⟨Y, 0, none⟩ = some (.slice ga qf.length gc) ∧ W.cell? ⟨Y, 1, none⟩ = some (.slice ea qd.length ec) ∧ W.cell? ⟨Y, 2, none⟩ = some (.slice oa qn.length oc)) := cells
  clear cells
  obtain ⟨c0, c1, c2, d0, d1, d2⟩ := CELLS.out w0 (Below.refl _ _)
  by_cases lf : pf.length = qf.length
  rotate_left
  · have ne : ((pf.length : Int) != (qf.length : Int)) = true := by simp; omega
    have E : Hid (¬ (⟨pf, pd, pn⟩ : ObjM) = ⟨qf, qd, qn⟩) := fun e => lf (by injection e with e _ _; rw [e])
    go_wp2
    go_ret
    exact ⟨says_of (iff_no E.out), UP.out⟩
  by_cases ld : pd.length = qd.length
  rotate_left
  · have n1 : ((pf.length : Int) != (qf.length : Int)) = false := by simp; omega
    have ne : ((pd.length : Int) != (qd.length : Int)) = true := by simp; omega
    have E : Hid (¬ (⟨pf, pd, pn⟩ : ObjM) = ⟨qf, qd, qn⟩) := fun e => ld (by injection e with _ e _; rw [e])
    go_wp2
    go_ret
    exact ⟨says_of (iff_no E.out), UP.out⟩
  by_cases ln : pn.length = qn.length
  rotate_left
  · have n1 : ((pf.length : Int) != (qf.length : Int)) = false := by simp; omega
    have n2 : ((pd.length : Int) != (qd.length : Int)) = false := by simp; omega
    have ne : ((pn.length : Int) != (qn.length : Int)) = true := by simp; omega
    have E : Hid (¬ (⟨pf, pd, pn⟩ : ObjM) = ⟨qf, qd, qn⟩) := fun e => ln (by injection e with _ _ e; rw [e])
    go_wp2
    go_ret
    exact ⟨says_of (iff_no E.out), UP.out⟩
  have n1 : ((pf.length : Int) != (qf.length : Int)) = false := by simp; omega
  have n2 : ((pd.length : Int) != (qd.length : Int)) = false := by simp; omega
  have n3 : ((pn.length : Int) != (qn.length : Int)) = false := by simp; omega
  have LEN : Hid (pf.length = qf.length ∧ pd.length = qd.length ∧ pn.length = qn.length) := ⟨lf, ld, ln⟩
  clear lf ld ln
  go_wp2
  clear n1 n2 n3 c0 c1 c2 d0 d1 d2
  go_loopw [5] (fun i wr => ∃ k : Nat, k ≤ pf.length ∧ i = .int .i64 k ∧ (∀ j, j < k → pf[j]? = qf[j]?) ∧ Below w0.heap.size w0 wr) (fun i _ => pf.length - (intOf i).toNat)
  case atStart => exact ⟨0, Nat.zero_le _, rfl, (fun j hj => by omega), Below.refl _ _⟩
  case round =>
    obtain ⟨k, hk, rfl, hs, hbel⟩ := hrel
    have HB : Hid (Below w0.heap.size w0 wr) := hbel
    have HS : Hid (∀ j, j < k → pf[j]? = qf[j]?) := hs
    obtain ⟨c0, c1, c2, d0, d1, d2⟩ := CELLS.out wr hbel
    have BW : Hid (Below w.heap.size w wr) := bnext UP.out hbel
    clear hbel hs
    by_cases hlt : k < pf.length
    · have hlt' : (k : Int) < pf.length := by omega
      have hlt2 : (k : Int) < qf.length := by have := LEN.out; omega
      obtain ⟨b, off, ⟨xn, xb, xc, xr⟩, rfl, -, hx, vc, vr, x0, x1, x2, x3, hc, hr, -⟩ := FX.out k hlt
      obtain ⟨b', off', ⟨yn, yb, yc, yr⟩, rfl, -, hy, uc, ur, y0, y1, y2, y3, kc, kr, -⟩ := GX.out k (by have := LEN.out; omega)
      dsimp only at x0 x1 x2 x3 y0 y1 y2 y3 hc kc hr kr
      have HX : Hid (pf[k]? = some ⟨xn, xb, xc, xr⟩ ∧ qf[k]? = some ⟨yn, yb, yc, yr⟩) := ⟨hx, hy⟩
      have NO : Hid (¬ (⟨xn, xb, xc, xr⟩ : FuncM) = ⟨yn, yb, yc, yr⟩ → ¬ (⟨pf, pd, pn⟩ : ObjM) = ⟨qf, qd, qn⟩) := fun h1 h => list_at_ne hx hy h1 (by injection h)
      replace x0 := cell_any x0 BW.out
      replace y0 := cell_any y0 BW.out
      replace x1 := cell_any x1 BW.out
      replace y1 := cell_any y1 BW.out
      replace x2 := cell_any x2 BW.out
      replace y2 := cell_any y2 BW.out
      replace x3 := cell_any x3 BW.out
      replace y3 := cell_any y3 BW.out
      have Qc : Hid (∀ W, Below wr.heap.size wr W → Calls Try.prog 41 #[vc, uc] W fun e w' => Says e (xc = yc) ∧ Below W.heap.size W w') := fun W hW => rwords_any ((hc.keep (Stay.of_below BW.out)).keep (Stay.of_below hW)) ((kc.keep (Stay.of_below BW.out)).keep (Stay.of_below hW))
      have Qr : Hid (∀ W, Below wr.heap.size wr W → Calls Try.prog 42 #[vr, ur] W fun e w' => Says e (xr = yr) ∧ Below W.heap.size W w') := fun W hW => rsamerels_any ((hr.keep (Stay.of_below BW.out)).keep (Stay.of_below hW)) ((kr.keep (Stay.of_below BW.out)).keep (Stay.of_below hW))
      obtain ⟨ac, cc, rfl, -, -, -⟩ := LstA.open hc.1
      obtain ⟨a'c, c'c, rfl, -, -, -⟩ := LstA.open kc.1
      obtain ⟨ar, cr, rfl, -, -, -⟩ := LstA.open hr
      obtain ⟨a'r, c'r, rfl, -, -, -⟩ := LstA.open kr
      clear hx hy hc kc hr kr
      go_upto_region 7 with fail
      have B1 : Hid (Below wr.heap.size wr (wr.alloc (.cells #[.string xn, .int .i64 xb, .slice ac xc.length cc, .slice ar xr.length cr] 49))) := keep_alloc8 (Below.refl _ _) _
      have X3 : Hid (XAt (wr.alloc (.cells #[.string xn, .int .i64 xb, .slice ac xc.length cc, .slice ar xr.length cr] 49)) wr.heap.size [.string xn, .int .i64 xb, .slice ac xc.length cc, .slice ar xr.length cr]) := XAt.new _ _ _
      generalize wr.alloc (.cells #[.string xn, .int .i64 xb, .slice ac xc.length cc, .slice ar xr.length cr] 49) = w1 at B1 X3 ⊢
      clear c0 c1 c2 d0 d1 d2
      obtain ⟨c0, c1, c2, d0, d1, d2⟩ := CELLS.out w1 (bnext HB.out B1.out)
      replace y0 := cell_later' y0 B1.out
      replace y1 := cell_later' y1 B1.out
      replace y2 := cell_later' y2 B1.out
      replace y3 := cell_later' y3 B1.out
      have lx1 : Hid (wr.heap.size < w1.heap.size) := X3.out.lt (by simp)
      go_upto_region 8 with fail
      have B2 : Hid (Below wr.heap.size wr (w1.alloc (.cells #[.string yn, .int .i64 yb, .slice a'c yc.length c'c, .slice a'r yr.length c'r] 49))) := keep_alloc8 B1.out _
      replace X3 : Hid (XAt (w1.alloc (.cells #[.string yn, .int .i64 yb, .slice a'c yc.length c'c, .slice a'r yr.length c'r] 49)) wr.heap.size [.string xn, .int .i64 xb, .slice ac xc.length cc, .slice ar xr.length cr]) := X3.out.later lx1.out (keep_alloc8 (Below.refl _ _) _)
      have X4 : Hid (XAt (w1.alloc (.cells #[.string yn, .int .i64 yb, .slice a'c yc.length c'c, .slice a'r yr.length c'r] 49)) w1.heap.size [.string yn, .int .i64 yb, .slice a'c yc.length c'c, .slice a'r yr.length c'r]) := XAt.new _ _ _
      generalize w1.alloc (.cells #[.string yn, .int .i64 yb, .slice a'c yc.length c'c, .slice a'r yr.length c'r] 49) = w2 at B2 X3 X4 ⊢
      have lx3 : Hid (wr.heap.size < w2.heap.size ∧ w1.heap.size < w2.heap.size) := ⟨X3.out.lt (by simp), X4.out.lt (by simp)⟩
      clear c0 c1 c2 d0 d1 d2 x0 x1 x2 x3 y0 y1 y2 y3
      have x0 := X3.out.1 0 _ rfl
      have y0 := X4.out.1 0 _ rfl
      have x1 := X3.out.1 1 _ rfl
      have y1 := X4.out.1 1 _ rfl
      have x2 := X3.out.1 2 _ rfl
      have y2 := X4.out.1 2 _ rfl
      have x3 := X3.out.1 3 _ rfl
      have y3 := X4.out.1 3 _ rfl
      by_cases en : xn = yn
      rotate_left
      · have E : Hid (¬ (⟨pf, pd, pn⟩ : ObjM) = ⟨qf, qd, qn⟩) := NO.out fun h => en (by injection h)
        have ne := str_ne en
        clear en
        go_wp2
        go_ret
        exact ⟨says_of (iff_no E.out), bnext BW.out B2.out⟩
      subst en
      by_cases eb : xb = yb
      rotate_left
      · have E : Hid (¬ (⟨pf, pd, pn⟩ : ObjM) = ⟨qf, qd, qn⟩) := NO.out fun h => eb (by injection h)
        have ne : (xb != yb) = true := by simpa using eb
        clear eb
        go_wp2
        go_ret
        exact ⟨says_of (iff_no E.out), bnext BW.out B2.out⟩
      subst eb
      by_cases ec : xc = yc
      rotate_left
      · have E : Hid (¬ (⟨pf, pd, pn⟩ : ObjM) = ⟨qf, qd, qn⟩) := NO.out fun h => ec (by injection h)
        go_wp2_with (first
          | (go_at_call 41; refine (Qc.out _ B2.out).mono ?_; rintro e w5 ⟨hsay, b5⟩; obtain rfl := hsay.no ec; have x0 := cell_later' x0 b5; have y0 := cell_later' y0 b5; have x1 := cell_later' x1 b5; have y1 := cell_later' y1 b5; have x2 := cell_later' x2 b5; have y2 := cell_later' y2 b5; have x3 := cell_later' x3 b5; have y3 := cell_later' y3 b5; clear hsay))
        go_ret
        exact ⟨says_of (iff_no E.out), bnext BW.out (bnext B2.out b5)⟩
      replace ec : Hid (xc = yc) := ec
      by_cases er : xr = yr
      rotate_left
      · have E : Hid (¬ (⟨pf, pd, pn⟩ : ObjM) = ⟨qf, qd, qn⟩) := NO.out fun h => er (by injection h)
        go_wp2_with (first
          | (go_at_call 41; refine (Qc.out _ B2.out).mono ?_; rintro e w5 ⟨hsay, b5⟩; obtain rfl := hsay.yes ec.out; have x0 := cell_later' x0 b5; have y0 := cell_later' y0 b5; have x1 := cell_later' x1 b5; have y1 := cell_later' y1 b5; have x2 := cell_later' x2 b5; have y2 := cell_later' y2 b5; have x3 := cell_later' x3 b5; have y3 := cell_later' y3 b5; clear hsay)
          | (go_at_call 42; refine (Qr.out _ (bnext B2.out b5)).mono ?_; rintro e w6 ⟨hsay, b6⟩; obtain rfl := hsay.no er; have x0 := cell_later' x0 b6; have y0 := cell_later' y0 b6; have x1 := cell_later' x1 b6; have y1 := cell_later' y1 b6; have x2 := cell_later' x2 b6; have y2 := cell_later' y2 b6; have x3 := cell_later' x3 b6; have y3 := cell_later' y3 b6; clear hsay))
        go_ret
        exact ⟨says_of (iff_no E.out), bnext BW.out (bnext (bnext B2.out b5) b6)⟩
      replace er : Hid (xr = yr) := er
      go_wp2_with (first
        | (go_at_call 41; refine (Qc.out _ B2.out).mono ?_; rintro e w5 ⟨hsay, b5⟩; obtain rfl := hsay.yes ec.out; have x0 := cell_later' x0 b5; have y0 := cell_later' y0 b5; have x1 := cell_later' x1 b5; have y1 := cell_later' y1 b5; have x2 := cell_later' x2 b5; have y2 := cell_later' y2 b5; have x3 := cell_later' x3 b5; have y3 := cell_later' y3 b5; clear hsay)
        | (go_at_call 42; refine (Qr.out _ (bnext B2.out b5)).mono ?_; rintro e w6 ⟨hsay, b6⟩; obtain rfl := hsay.yes er.out; have x0 := cell_later' x0 b6; have y0 := cell_later' y0 b6; have x1 := cell_later' x1 b6; have y1 := cell_later' y1 b6; have x2 := cell_later' x2 b6; have y2 := cell_later' y2 b6; have x3 := cell_later' x3 b6; have y3 := cell_later' y3 b6; clear hsay))
      go_roundw
      case rel => exact ⟨k + 1, by omega, by go_num, same_next HS.out HX.out.1 HX.out.2 (by rw [ec.out, er.out]), bnext HB.out (bnext (bnext B2.out b5) b6)⟩
      case measure => simp [intOf]; omega
    · obtain rfl : k = pf.length := by omega
      have EF : Hid (pf = qf) := list_upto rfl LEN.out.1.symm HS.out
      clear HS hk
      go_wp2
      go_loopw [8] (fun i wr => ∃ k : Nat, k ≤ pd.length ∧ i = .int .i64 k ∧ (∀ j, j < k → pd[j]? = qd[j]?) ∧ Below w0.heap.size w0 wr) (fun i _ => pd.length - (intOf i).toNat)
      case atStart => exact ⟨0, Nat.zero_le _, rfl, (fun j hj => by omega), HB.out⟩
      case round =>
        obtain ⟨k, hk, rfl, hs, hbel⟩ := hrel
        have HB : Hid (Below w0.heap.size w0 wr) := hbel
        have HS : Hid (∀ j, j < k → pd[j]? = qd[j]?) := hs
        obtain ⟨c0, c1, c2, d0, d1, d2⟩ := CELLS.out wr hbel
        have BW : Hid (Below w.heap.size w wr) := bnext UP.out hbel
        clear hbel hs
        by_cases hlt : k < pd.length
        · have hlt' : (k : Int) < pd.length := by omega
          have hlt2 : (k : Int) < qd.length := by have := LEN.out; omega
          obtain ⟨b, off, ⟨xn, xb, xg, xx, xz, xc, xr⟩, rfl, -, hx, vc, vr, x0, x1, x2, x3, x4, x5, x6, hc, hr, -⟩ := DX.out k hlt
          obtain ⟨b', off', ⟨yn, yb, yg, yx, yz, yc, yr⟩, rfl, -, hy, uc, ur, y0, y1, y2, y3, y4, y5, y6, kc, kr, -⟩ := EX.out k (by have := LEN.out; omega)
          dsimp only at x0 x1 x2 x3 x4 x5 x6 y0 y1 y2 y3 y4 y5 y6 hc kc hr kr
          have HX : Hid (pd[k]? = some ⟨xn, xb, xg, xx, xz, xc, xr⟩ ∧ qd[k]? = some ⟨yn, yb, yg, yx, yz, yc, yr⟩) := ⟨hx, hy⟩
          have NO : Hid (¬ (⟨xn, xb, xg, xx, xz, xc, xr⟩ : DataM) = ⟨yn, yb, yg, yx, yz, yc, yr⟩ → ¬ (⟨pf, pd, pn⟩ : ObjM) = ⟨qf, qd, qn⟩) := fun h1 h => list_at_ne hx hy h1 (by injection h)
          replace x0 := cell_any x0 BW.out
          replace y0 := cell_any y0 BW.out
          replace x1 := cell_any x1 BW.out
          replace y1 := cell_any y1 BW.out
          replace x2 := cell_any x2 BW.out
          replace y2 := cell_any y2 BW.out
          replace x3 := cell_any x3 BW.out
          replace y3 := cell_any y3 BW.out
          replace x4 := cell_any x4 BW.out
          replace y4 := cell_any y4 BW.out
          replace x5 := cell_any x5 BW.out
          replace y5 := cell_any y5 BW.out
          replace x6 := cell_any x6 BW.out
          replace y6 := cell_any y6 BW.out
          have Qc : Hid (∀ W, Below wr.heap.size wr W → Calls Try.prog 13 #[vc, uc] W fun e w' => Says e (xc = yc) ∧ Below W.heap.size W w') := fun W hW => rbytes_any ((hc.keep (Stay.of_below BW.out)).keep (Stay.of_below hW)) ((kc.keep (Stay.of_below BW.out)).keep (Stay.of_below hW))
          have Qr : Hid (∀ W, Below wr.heap.size wr W → Calls Try.prog 42 #[vr, ur] W fun e w' => Says e (xr = yr) ∧ Below W.heap.size W w') := fun W hW => rsamerels_any ((hr.keep (Stay.of_below BW.out)).keep (Stay.of_below hW)) ((kr.keep (Stay.of_below BW.out)).keep (Stay.of_below hW))
          obtain ⟨ac, cc, rfl, -, -, -⟩ := LstA.open hc.1
          obtain ⟨a'c, c'c, rfl, -, -, -⟩ := LstA.open kc.1
          obtain ⟨ar, cr, rfl, -, -, -⟩ := LstA.open hr
          obtain ⟨a'r, c'r, rfl, -, -, -⟩ := LstA.open kr
          clear hx hy hc kc hr kr
          go_upto_region 14 with fail
          have B1 : Hid (Below wr.heap.size wr (wr.alloc (.cells #[.string xn, .int .i64 xb, .int .i64 xg, .bool xx, .int .i64 xz, .slice ac xc.length cc, .slice ar xr.length cr] 44))) := keep_alloc8 (Below.refl _ _) _
          have X3 : Hid (XAt (wr.alloc (.cells #[.string xn, .int .i64 xb, .int .i64 xg, .bool xx, .int .i64 xz, .slice ac xc.length cc, .slice ar xr.length cr] 44)) wr.heap.size [.string xn, .int .i64 xb, .int .i64 xg, .bool xx, .int .i64 xz, .slice ac xc.length cc, .slice ar xr.length cr]) := XAt.new _ _ _
          generalize wr.alloc (.cells #[.string xn, .int .i64 xb, .int .i64 xg, .bool xx, .int .i64 xz, .slice ac xc.length cc, .slice ar xr.length cr] 44) = w1 at B1 X3 ⊢
          clear c0 c1 c2 d0 d1 d2
          obtain ⟨c0, c1, c2, d0, d1, d2⟩ := CELLS.out w1 (bnext HB.out B1.out)
          replace y0 := cell_later' y0 B1.out
          replace y1 := cell_later' y1 B1.out
          replace y2 := cell_later' y2 B1.out
          replace y3 := cell_later' y3 B1.out
          replace y4 := cell_later' y4 B1.out
          replace y5 := cell_later' y5 B1.out
          replace y6 := cell_later' y6 B1.out
          have lx1 : Hid (wr.heap.size < w1.heap.size) := X3.out.lt (by simp)
          go_upto_region 15 with fail
          have B2 : Hid (Below wr.heap.size wr (w1.alloc (.cells #[.string yn, .int .i64 yb, .int .i64 yg, .bool yx, .int .i64 yz, .slice a'c yc.length c'c, .slice a'r yr.length c'r] 44))) := keep_alloc8 B1.out _
          replace X3 : Hid (XAt (w1.alloc (.cells #[.string yn, .int .i64 yb, .int .i64 yg, .bool yx, .int .i64 yz, .slice a'c yc.length c'c, .slice a'r yr.length c'r] 44)) wr.heap.size [.string xn, .int .i64 xb, .int .i64 xg, .bool xx, .int .i64 xz, .slice ac xc.length cc, .slice ar xr.length cr]) := X3.out.later lx1.out (keep_alloc8 (Below.refl _ _) _)
          have X4 : Hid (XAt (w1.alloc (.cells #[.string yn, .int .i64 yb, .int .i64 yg, .bool yx, .int .i64 yz, .slice a'c yc.length c'c, .slice a'r yr.length c'r] 44)) w1.heap.size [.string yn, .int .i64 yb, .int .i64 yg, .bool yx, .int .i64 yz, .slice a'c yc.length c'c, .slice a'r yr.length c'r]) := XAt.new _ _ _
          generalize w1.alloc (.cells #[.string yn, .int .i64 yb, .int .i64 yg, .bool yx, .int .i64 yz, .slice a'c yc.length c'c, .slice a'r yr.length c'r] 44) = w2 at B2 X3 X4 ⊢
          have lx3 : Hid (wr.heap.size < w2.heap.size ∧ w1.heap.size < w2.heap.size) := ⟨X3.out.lt (by simp), X4.out.lt (by simp)⟩
          clear c0 c1 c2 d0 d1 d2 x0 x1 x2 x3 x4 x5 x6 y0 y1 y2 y3 y4 y5 y6
          have x0 := X3.out.1 0 _ rfl
          have y0 := X4.out.1 0 _ rfl
          have x1 := X3.out.1 1 _ rfl
          have y1 := X4.out.1 1 _ rfl
          have x2 := X3.out.1 2 _ rfl
          have y2 := X4.out.1 2 _ rfl
          have x3 := X3.out.1 3 _ rfl
          have y3 := X4.out.1 3 _ rfl
          have x4 := X3.out.1 4 _ rfl
          have y4 := X4.out.1 4 _ rfl
          have x5 := X3.out.1 5 _ rfl
          have y5 := X4.out.1 5 _ rfl
          have x6 := X3.out.1 6 _ rfl
          have y6 := X4.out.1 6 _ rfl
          by_cases en : xn = yn
          rotate_left
          · have E : Hid (¬ (⟨pf, pd, pn⟩ : ObjM) = ⟨qf, qd, qn⟩) := NO.out fun h => en (by injection h)
            have ne := str_ne en
            clear en
            go_wp2
            go_ret
            exact ⟨says_of (iff_no E.out), bnext BW.out B2.out⟩
          subst en
          by_cases eb : xb = yb
          rotate_left
          · have E : Hid (¬ (⟨pf, pd, pn⟩ : ObjM) = ⟨qf, qd, qn⟩) := NO.out fun h => eb (by injection h)
            have ne : (xb != yb) = true := by simpa using eb
            clear eb
            go_wp2
            go_ret
            exact ⟨says_of (iff_no E.out), bnext BW.out B2.out⟩
          subst eb
          by_cases eg : xg = yg
          rotate_left
          · have E : Hid (¬ (⟨pf, pd, pn⟩ : ObjM) = ⟨qf, qd, qn⟩) := NO.out fun h => eg (by injection h)
            have ne : (xg != yg) = true := by simpa using eg
            clear eg
            go_wp2
            go_ret
            exact ⟨says_of (iff_no E.out), bnext BW.out B2.out⟩
          subst eg
          by_cases ex : xx = yx
          rotate_left
          · have E : Hid (¬ (⟨pf, pd, pn⟩ : ObjM) = ⟨qf, qd, qn⟩) := NO.out fun h => ex (by injection h)
            have bb : (xx = true ∧ yx = false) ∨ (xx = false ∧ yx = true) := by revert ex; cases xx <;> cases yx <;> simp
            clear ex
            rcases bb with ⟨rfl, rfl⟩ | ⟨rfl, rfl⟩
            · go_wp2
              go_ret
              exact ⟨says_of (iff_no E.out), bnext BW.out B2.out⟩
            · go_wp2
              go_ret
              exact ⟨says_of (iff_no E.out), bnext BW.out B2.out⟩
          subst ex
          by_cases ez : xz = yz
          rotate_left
          · have E : Hid (¬ (⟨pf, pd, pn⟩ : ObjM) = ⟨qf, qd, qn⟩) := NO.out fun h => ez (by injection h)
            have ne : (xz != yz) = true := by simpa using ez
            clear ez
            go_wp2
            go_ret
            exact ⟨says_of (iff_no E.out), bnext BW.out B2.out⟩
          subst ez
          by_cases ec : xc = yc
          rotate_left
          · have E : Hid (¬ (⟨pf, pd, pn⟩ : ObjM) = ⟨qf, qd, qn⟩) := NO.out fun h => ec (by injection h)
            go_wp2_with (first
              | (go_at_call 13; refine (Qc.out _ B2.out).mono ?_; rintro e w5 ⟨hsay, b5⟩; obtain rfl := hsay.no ec; have x0 := cell_later' x0 b5; have y0 := cell_later' y0 b5; have x1 := cell_later' x1 b5; have y1 := cell_later' y1 b5; have x2 := cell_later' x2 b5; have y2 := cell_later' y2 b5; have x3 := cell_later' x3 b5; have y3 := cell_later' y3 b5; have x4 := cell_later' x4 b5; have y4 := cell_later' y4 b5; have x5 := cell_later' x5 b5; have y5 := cell_later' y5 b5; have x6 := cell_later' x6 b5; have y6 := cell_later' y6 b5; clear hsay))
            go_ret
            exact ⟨says_of (iff_no E.out), bnext BW.out (bnext B2.out b5)⟩
          replace ec : Hid (xc = yc) := ec
          by_cases er : xr = yr
          rotate_left
          · have E : Hid (¬ (⟨pf, pd, pn⟩ : ObjM) = ⟨qf, qd, qn⟩) := NO.out fun h => er (by injection h)
            go_wp2_with (first
              | (go_at_call 13; refine (Qc.out _ B2.out).mono ?_; rintro e w5 ⟨hsay, b5⟩; obtain rfl := hsay.yes ec.out; have x0 := cell_later' x0 b5; have y0 := cell_later' y0 b5; have x1 := cell_later' x1 b5; have y1 := cell_later' y1 b5; have x2 := cell_later' x2 b5; have y2 := cell_later' y2 b5; have x3 := cell_later' x3 b5; have y3 := cell_later' y3 b5; have x4 := cell_later' x4 b5; have y4 := cell_later' y4 b5; have x5 := cell_later' x5 b5; have y5 := cell_later' y5 b5; have x6 := cell_later' x6 b5; have y6 := cell_later' y6 b5; clear hsay)
              | (go_at_call 42; refine (Qr.out _ (bnext B2.out b5)).mono ?_; rintro e w6 ⟨hsay, b6⟩; obtain rfl := hsay.no er; have x0 := cell_later' x0 b6; have y0 := cell_later' y0 b6; have x1 := cell_later' x1 b6; have y1 := cell_later' y1 b6; have x2 := cell_later' x2 b6; have y2 := cell_later' y2 b6; have x3 := cell_later' x3 b6; have y3 := cell_later' y3 b6; have x4 := cell_later' x4 b6; have y4 := cell_later' y4 b6; have x5 := cell_later' x5 b6; have y5 := cell_later' y5 b6; have x6 := cell_later' x6 b6; have y6 := cell_later' y6 b6; clear hsay))
            go_ret
            exact ⟨says_of (iff_no E.out), bnext BW.out (bnext (bnext B2.out b5) b6)⟩
          replace er : Hid (xr = yr) := er
          go_wp2_with (first
            | (go_at_call 13; refine (Qc.out _ B2.out).mono ?_; rintro e w5 ⟨hsay, b5⟩; obtain rfl := hsay.yes ec.out; have x0 := cell_later' x0 b5; have y0 := cell_later' y0 b5; have x1 := cell_later' x1 b5; have y1 := cell_later' y1 b5; have x2 := cell_later' x2 b5; have y2 := cell_later' y2 b5; have x3 := cell_later' x3 b5; have y3 := cell_later' y3 b5; have x4 := cell_later' x4 b5; have y4 := cell_later' y4 b5; have x5 := cell_later' x5 b5; have y5 := cell_later' y5 b5; have x6 := cell_later' x6 b5; have y6 := cell_later' y6 b5; clear hsay)
            | (go_at_call 42; refine (Qr.out _ (bnext B2.out b5)).mono ?_; rintro e w6 ⟨hsay, b6⟩; obtain rfl := hsay.yes er.out; have x0 := cell_later' x0 b6; have y0 := cell_later' y0 b6; have x1 := cell_later' x1 b6; have y1 := cell_later' y1 b6; have x2 := cell_later' x2 b6; have y2 := cell_later' y2 b6; have x3 := cell_later' x3 b6; have y3 := cell_later' y3 b6; have x4 := cell_later' x4 b6; have y4 := cell_later' y4 b6; have x5 := cell_later' x5 b6; have y5 := cell_later' y5 b6; have x6 := cell_later' x6 b6; have y6 := cell_later' y6 b6; clear hsay))
          go_roundw
          case rel => exact ⟨k + 1, by omega, by go_num, same_next HS.out HX.out.1 HX.out.2 (by rw [ec.out, er.out]), bnext HB.out (bnext (bnext B2.out b5) b6)⟩
          case measure => simp [intOf]; omega
        · obtain rfl : k = pd.length := by omega
          have ED : Hid (pd = qd) := list_upto rfl LEN.out.2.1.symm HS.out
          clear HS hk
          go_wp2
          go_loopw [11] (fun i wr => ∃ k : Nat, k ≤ pn.length ∧ i = .int .i64 k ∧ (∀ j, j < k → pn[j]? = qn[j]?) ∧ Below w0.heap.size w0 wr) (fun i _ => pn.length - (intOf i).toNat)
          case atStart => exact ⟨0, Nat.zero_le _, rfl, (fun j hj => by omega), HB.out⟩
          case round =>
            obtain ⟨k, hk, rfl, hs, hbel⟩ := hrel
            have HB : Hid (Below w0.heap.size w0 wr) := hbel
            have HS : Hid (∀ j, j < k → pn[j]? = qn[j]?) := hs
            obtain ⟨c0, c1, c2, d0, d1, d2⟩ := CELLS.out wr hbel
            have BW : Hid (Below w.heap.size w wr) := bnext UP.out hbel
            clear hbel hs
            by_cases hlt : k < pn.length
            · have hlt' : (k : Int) < pn.length := by omega
              have hlt2 : (k : Int) < qn.length := by have := LEN.out; omega
              obtain ⟨b, off, x, rfl, -, hx, x0, x1, -⟩ := NX.out k hlt
              obtain ⟨b', off', y, rfl, -, hy, y0, y1, -⟩ := OX.out k (by have := LEN.out; omega)
              replace x0 := cell_any x0 BW.out
              replace x1 := cell_any x1 BW.out
              replace y0 := cell_any y0 BW.out
              replace y1 := cell_any y1 BW.out
              have HX : Hid (pn[k]? = some x ∧ qn[k]? = some y) := ⟨hx, hy⟩
              clear hx hy
              by_cases e : x = y
              · have ne := neq_note_is x y false (iff_no (fun h => h e))
                have E : Hid (x = y) := e
                clear e
                go_wp2
                go_quiet (fail)
                go_wp2
                go_roundw
                case rel => exact ⟨k + 1, by omega, by go_num, same_next HS.out HX.out.1 HX.out.2 E.out, below_drewN HB.out _⟩
                case measure => simp [intOf]; omega
              · have ne := neq_note_is x y true (iff_yes e)
                have E : Hid (¬ (⟨pf, pd, pn⟩ : ObjM) = ⟨qf, qd, qn⟩) := fun h => list_at_ne HX.out.1 HX.out.2 e (by injection h)
                clear e
                go_wp2
                go_quiet (fail)
                go_wp2
                go_ret
                exact ⟨says_of (iff_no E.out), below_drewN BW.out _⟩
            · obtain rfl : k = pn.length := by omega
              have EN : Hid (pn = qn) := list_upto rfl LEN.out.2.2.symm HS.out
              go_wp2
              go_ret
              exact ⟨says_of (iff_yes (by rw [EF.out, ED.out, EN.out])), BW.out⟩
end Go.Proofs.Ytcbhnpjaaaefiaa
