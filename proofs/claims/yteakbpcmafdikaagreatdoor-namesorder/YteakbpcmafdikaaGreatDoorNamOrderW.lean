/- NamesOrder's walk. -/
import Derived.Test.YteakbpcmafdikaaGreatDoorNamPlacesW
import Derived.Test.YteakbpcmafdikaaGreatDoorNamOrderM
namespace Go.Proofs.YteakbpcmafdikaaGreatDoor
open Go.ChangeShapes Go.WideShapes Go.ChangeAt Go.RowKit
set_option linter.unusedVariables false
set_option linter.unusedSimpArgs false
theorem objs_one {X : World} {b : Nat} {vf vd vn : Value} {o : ObjM} (h : IsObj (fun _ => True) X (.agg #[vf, vd, vn]) o) (hx : XAt X b [vf, vd, vn]) : IsObjs (fun _ => True) X (.slice (some ⟨b, 0, none⟩) 1 1) [o] := by
  obtain ⟨vf', vd', vn', e, hf, hd, hn⟩ := h
  simp only [Value.agg.injEq, Array.mk.injEq, List.cons.injEq, and_true] at e
  obtain ⟨rfl, rfl, rfl⟩ := e
  refine ⟨_, _, rfl, ⟨⟨Nat.le_refl _, fun e => by cases e⟩, by decide⟩, fun _ _ => trivial, .inr ⟨b, 0, rfl, fun i y hi => ?_⟩⟩
  cases i with
  | zero => simp at hi; subst hi; exact ⟨_, _, _, hx.1 0 _ rfl, hx.1 1 _ rfl, hx.1 2 _ rfl, hf, hd, hn⟩
  | succ i => simp at hi
set_option maxRecDepth 100000
set_option maxHeartbeats 4000000 in
theorem order_walk (w : World) (v : Value) (o : ObjM) (h : IsObj (fun _ => True) w v o) (hT : Tab w) : Calls Tryz.prog 8 #[v] w fun e w' => e = .returned (.bool true) ∧ Below w.heap.size w w' := by
  obtain ⟨oa, oc, da', dc', na, nc, rfl⟩ := h.open
  obtain ⟨F, eF⟩ : ∃ F, o.funcs.length = F := ⟨_, rfl⟩
  obtain ⟨D, eD⟩ : ∃ D, o.datas.length = D := ⟨_, rfl⟩
  rw [eF, eD] at h ⊢
  generalize o.notes.length = N at h ⊢
  have HV : Hid (IsObj (fun _ => True) w (.agg #[.slice oa F oc, .slice da' D dc', .slice na N nc]) o) := h
  have HT : Hid (Tab w) := hT
  have EF : Hid (o.funcs.length = F ∧ o.datas.length = D) := ⟨eF, eD⟩
  have UP : Hid (Below w.heap.size w (w.alloc (.cells #[.slice oa F oc, .slice da' D dc', .slice na N nc] 46))) := keep_alloc8 (Below.refl _ _) _
  have X1 : Hid (XAt (w.alloc (.cells #[.slice oa F oc, .slice da' D dc', .slice na N nc] 46)) w.heap.size [.slice oa F oc, .slice da' D dc', .slice na N nc]) := XAt.new _ _ _
  have AW : Hid (∀ X, Below w.heap.size w X → Calls Tryz.prog 9 #[] X fun e w' => e = .returned (.bool true) ∧ Below X.heap.size X w') := fun X hX => awake11 X (HT.out.later hX)
  have FW : Hid (∀ X, Below w.heap.size w X → Calls Tryz.prog 17 #[.agg #[.slice oa F oc, .slice da' D dc', .slice na N nc]] X fun e w' => Says e (fewO o) ∧ Below X.heap.size X w') := fun X hX => few_any (HV.out.keep (Stay.of_below hX))
  have RS : Hid (∀ X b, Below w.heap.size w X → XAt X b [.slice oa F oc, .slice da' D dc', .slice na N nc] → fewO o → Calls Tryz.prog 11 #[.slice (some ⟨b, 0, none⟩) 1 1] X fun e w' => ResPost2 [o] e w' ∧ Below X.heap.size X w') := fun X b hX hx hf => resolve_two (objs_one (HV.out.keep (Stay.of_below hX)) hx) (HT.out.later hX) (by simp) (fun y hy => by simp at hy; subst hy; exact hf)
  have OX : Hid ((∀ k, k < F → ∃ b off x, oa = some ⟨b, off, none⟩ ∧ True ∧ o.funcs[k]? = some x ∧ FuncAt (fun _ => True) w b (off + k * 4) x) ∧ (∀ k, k < D → ∃ b off x, da' = some ⟨b, off, none⟩ ∧ True ∧ o.datas[k]? = some x ∧ DataAt (fun _ => True) w b (off + k * 7) x)) := by
    obtain ⟨vf, vd, vn, e, hf, hd, -⟩ := HV.out
    simp only [Value.agg.injEq, Array.mk.injEq, List.cons.injEq, and_true] at e
    obtain ⟨rfl, rfl, rfl⟩ := e
    obtain ⟨a1, c1, e1, -, -, x1⟩ := LstA.open hf
    obtain ⟨a2, c2, e2, -, -, x2⟩ := LstA.open hd
    rw [EF.out.1] at e1 x1
    rw [EF.out.2] at e2 x2
    simp only [Value.slice.injEq, true_and] at e1 e2
    obtain ⟨rfl, rfl⟩ := e1
    obtain ⟨rfl, rfl⟩ := e2
    exact ⟨x1, x2⟩
  clear h hT HV HT eF eD
  go_enter Tryz.func8, Tryz.ntmps8
  go_upto_region 1 with fail
  generalize w.alloc (.cells #[.slice oa F oc, .slice da' D dc', .slice na N nc] 46) = w0 at UP X1 ⊢
  have hX : Hid (w.heap.size < w0.heap.size) := X1.out.lt (by simp)
  have BC : Hid (∀ W, Below w0.heap.size w0 W → XAt W w.heap.size [.slice oa F oc, .slice da' D dc', .slice na N nc]) := fun W hW => X1.out.later hX.out hW
  by_cases hf : fewO o
  rotate_left
  · have HF : Hid (¬ fewO o) := hf
    clear hf
    go_upto_region 2 with (first
      | (go_at_call 9; refine (AW.out _ UP.out).mono ?_; rintro e w1 ⟨rfl, b1⟩; have K1 := Hid.mk0 b1; have x0 := (BC.out w1 b1).1 0 _ rfl; have x1 := (BC.out w1 b1).1 1 _ rfl; have x2 := (BC.out w1 b1).1 2 _ rfl)
      | (go_at_call 17; refine (FW.out _ (bnext UP.out K1.out)).mono ?_; rintro e w2 ⟨hs, b2⟩; have K2 := Hid.mk0 (bnext K1.out b2); obtain rfl := hs.no HF.out; clear hs))
    go_wp2_with (go_at_call 9; refine (AW.out _ (bnext UP.out K2.out)).mono ?_; rintro e w3 ⟨rfl, b3⟩)
    go_ret
    exact ⟨rfl, bnext UP.out (bnext K2.out b3)⟩
  have HF : Hid (fewO o) := hf
  clear hf
  go_upto_region 3 with (first
    | (go_at_call 9; refine (AW.out _ UP.out).mono ?_; rintro e w1 ⟨rfl, b1⟩; have K1 := Hid.mk0 b1; have x0 := (BC.out w1 b1).1 0 _ rfl; have x1 := (BC.out w1 b1).1 1 _ rfl; have x2 := (BC.out w1 b1).1 2 _ rfl)
    | (go_at_call 17; refine (FW.out _ (bnext UP.out K1.out)).mono ?_; rintro e w2 ⟨hs, b2⟩; have K2 := Hid.mk0 (bnext K1.out b2); obtain rfl := hs.yes HF.out; clear hs))
  clear x0 x1 x2 b1 b2 K1
  have x0 := (BC.out w2 K2.out).1 0 _ rfl
  have x1 := (BC.out w2 K2.out).1 1 _ rfl
  have x2 := (BC.out w2 K2.out).1 2 _ rfl
  go_upto_region 4 with (go_at_call 11; refine (RS.out _ _ (keep_alloc8 (bnext UP.out K2.out) _) (XAt.new _ _ _) HF.out).mono ?_; rintro e w3 ⟨⟨p, fa, nf, fc, da, nd, dc, hr, rfl, hpf, hpd, hnf, hnd⟩ | ⟨x, hr, hx, rfl⟩, b3⟩; all_goals have K3 := Hid.mk0 (bnext K2.out (bnext (keep_alloc8 (Below.refl _ w2) _) b3)))
  rotate_left
  · have hx' : (x != 0) = true := by simpa using hx
    go_wp2
    go_ret
    exact ⟨rfl, bnext UP.out (keep_alloc8 K3.out _)⟩
  have G : Hid (GoodZ [o] p) := res_good hr
  obtain ⟨ek, ef, he, hef, hen⟩ := good_entry G.out
  obtain ⟨l1, l2⟩ := one_lens G.out
  obtain rfl : nf = F := by rw [← hnf, l1, EF.out.1]
  obtain rfl : nd = D := by rw [← hnd, l2, EF.out.2]
  have F4 : Hid (∃ w4, w4 = w3.alloc (.cells #[.slice fa nf fc, .slice da nd dc, .int .i64 p.entry] 28) ∧ (XAt w4 w3.heap.size [.slice fa nf fc, .slice da nd dc, .int .i64 p.entry] ∧ w3.heap.size < w4.heap.size) ∧ Below w0.heap.size w0 w4 ∧ IsPFs (fun _ => True) w4 (.slice fa nf fc) p.funcs) :=
    ⟨_, rfl, ⟨XAt.new _ _ _, by simp⟩, keep_alloc8 K3.out _, hpf.keep (Stay.of_below (keep_alloc8 (Below.refl _ _) _))⟩
  obtain ⟨w4, e4, hxp, hb4, hpf4⟩ := F4.out
  rw [← e4]
  obtain ⟨a1, c1, hv1, lm1, -, FX0⟩ := LstA.open hpf4
  rw [hnf] at hv1 FX0 lm1
  unfold maxLen at lm1
  have bf : (nf : Int) ≤ 9223372036854775807 := by omega
  clear lm1
  simp only [Value.slice.injEq, true_and] at hv1
  obtain ⟨rfl, rfl⟩ := hv1
  have FX : Hid (∀ k, k < nf → ∃ b off x, fa = some ⟨b, off, none⟩ ∧ True ∧ p.funcs[k]? = some x ∧ PFAt (fun _ => True) w4 b (off + k * 5) x) := FX0
  rw [he] at hxp ⊢
  have XP : Hid (XAt w4 w3.heap.size [.slice fa nf fc, .slice da nd dc, .int .i64 ek] ∧ w3.heap.size < w4.heap.size) := hxp
  have XO : Hid (XAt w4 w.heap.size [.slice oa nf oc, .slice da' nd dc', .slice na N nc] ∧ w.heap.size < w4.heap.size) := ⟨BC.out _ hb4, Nat.lt_of_lt_of_le hX.out hb4.size⟩
  have B4 : Hid (Below w.heap.size w w4) := bnext UP.out hb4
  have hek : (ek : Int) < nf := by have := (List.getElem?_eq_some_iff.1 hef).1; omega
  obtain ⟨eb, eo, ex, hfa, -, hex, evc, evr, ecell, -⟩ := FX.out ek (by omega)
  rw [hef] at hex
  cases hex
  rw [hen] at ecell
  obtain ⟨ob, oo, -, hoa, -⟩ := OX.out.1 ek (by omega)
  have EC : Hid (w4.cell? ⟨eb, eo + ek * 5, none⟩ = some (.string ⟨#[109, 97, 105, 110]⟩)) := ecell
  clear e4 F4 FX0 hxp hb4 hpf4 hpf hpd hr he hef hen ecell K3 b3 AW FW RS K2 hnf hnd x0 x1 x2 UP X1 BC l1 l2
  subst hfa
  subst hoa
  generalize w3.heap.size = g at XP ⊢
  have p0 := XP.out.1.1 0 _ rfl
  have p1 := XP.out.1.1 1 _ rfl
  have o0 := XO.out.1.1 0 _ rfl
  have o1 := XO.out.1.1 1 _ rfl
  go_upto_region 8 with fail
  clear p0 p1 o0 o1
  go_wp2
  go_loopw [5] (fun i wr => ∃ k : Nat, k ≤ nf ∧ i = .int .i64 k ∧ Below w4.heap.size w4 wr) (fun i _ => nf - (intOf i).toNat)
  case atStart => exact ⟨0, Nat.zero_le _, rfl, Below.refl _ _⟩
  case round =>
    obtain ⟨k, hk, rfl, hbel⟩ := hrel
    have HB : Hid (Below w4.heap.size w4 wr) := hbel
    have xp := XP.out.1.later XP.out.2 hbel
    have p0 := xp.1 0 _ rfl
    have p1 := xp.1 1 _ rfl
    have p2 := xp.1 2 _ rfl
    have xo := XO.out.1.later XO.out.2 hbel
    have o0 := xo.1 0 _ rfl
    have o1 := xo.1 1 _ rfl
    clear hbel xp xo
    by_cases hlt : k < nf
    · have hlt' : (k : Int) < nf := by omega
      obtain ⟨b, off, f, hfa, -, hx, vc, vr, x0, -, -, -, x4, -, wr4⟩ := FX.out k hlt
      obtain ⟨rfl, rfl⟩ : eb = b ∧ eo = off := by simpa using hfa
      obtain ⟨f0, hf0, hn0, hl0, hq0⟩ := one_func G.out hx
      obtain ⟨b', off', f1, hoa, -, hf1, vc', vr', y0, -, -, y3, -, wr5, -⟩ := OX.out.1 k hlt
      obtain ⟨rfl, rfl⟩ : ob = b' ∧ oo = off' := by simpa using hoa
      rw [hf0] at hf1
      cases hf1
      obtain ⟨ra, rc, rfl, lm3, -, RX0⟩ := LstA.open wr4
      obtain ⟨sa, sc, rfl, -, -, SX0⟩ := LstA.open wr5
      obtain ⟨nr, enr⟩ : ∃ nr, f0.rels.length = nr := ⟨_, rfl⟩
      rw [hl0] at lm3 RX0 x4
      rw [enr] at lm3 RX0 x4 SX0 y3
      unfold maxLen at lm3
      have br : (nr : Int) ≤ 9223372036854775807 := by omega
      clear lm3
      rw [hn0] at x0
      generalize f0.name = s at x0 y0
      have RX : Hid (∀ j, j < nr → ∃ b o x, ra = some ⟨b, o, none⟩ ∧ True ∧ f.rels[j]? = some x ∧ PRelAt w4 b (o + j * 4) x) := RX0
      have SX : Hid (∀ j, j < nr → ∃ b o x, sa = some ⟨b, o, none⟩ ∧ True ∧ f0.rels[j]? = some x ∧ RelAt w b (o + j * 4) x) := SX0
      have QX : Hid (∀ (k : Nat) (q : PRelM), f.rels[k]? = some q → ∃ (r : RelM) (j : Nat), f0.rels[k]? = some r ∧ q.add = r.add ∧ q.at_ = r.at_ ∧ q.kind = r.kind ∧ q.to = j ∧ (r.kind = 1 → ∃ g, o.funcs[j]? = some g ∧ g.name = r.name) ∧ (r.kind ≠ 1 → ∃ g, o.datas[j]? = some g ∧ g.name = r.name)) := hq0
      have X4 : Hid (w4.cell? ⟨eb, eo + k * 5 + 4, none⟩ = some (.slice ra nr rc) ∧ w4.cell? ⟨ob, oo + k * 4 + 3, none⟩ = some (.slice sa nr sc)) := ⟨x4, cell_any y3 B4.out⟩
      replace x0 := cell_any x0 HB.out
      replace y0 := cell_any (cell_any y0 B4.out) HB.out
      have x4 := cell_any X4.out.1 HB.out
      have y3 := cell_any X4.out.2 HB.out
      have ss : (s.toList == s.toList) = true := by simp
      have ss2 : (s.toList != s.toList) = false := by simp
      have nn : ((nr : Int) != nr) = false := by simp
      clear hfa hoa hx hf0 hn0 hl0 hq0 wr4 wr5 RX0 SX0 enr
      go_upto_region 11 with fail
      go_quiet (fail)
      clear p0 p1 p2 o0 o1 x0 y0 x4 y3
      go_upto_region 13 with fail
      go_wp2
      go_loopw [6] (fun i wr => ∃ j : Nat, j ≤ nr ∧ i = .int .i64 j ∧ Below w4.heap.size w4 wr) (fun i _ => nr - (intOf i).toNat)
      case atStart => exact ⟨0, Nat.zero_le _, rfl, (by first | exact below_drewN HB.out _ | exact HB.out)⟩
      case round =>
        obtain ⟨j, hj, rfl, hbs⟩ := hrel
        have HBS : Hid (Below w4.heap.size w4 wr) := hbs
        have xp := XP.out.1.later XP.out.2 hbs
        have p0 := xp.1 0 _ rfl
        have p1 := xp.1 1 _ rfl
        have xo := XO.out.1.later XO.out.2 hbs
        have o0 := xo.1 0 _ rfl
        have o1 := xo.1 1 _ rfl
        have x4 := cell_any X4.out.1 hbs
        have y3 := cell_any X4.out.2 hbs
        clear hbs xp xo
        by_cases hjl : j < nr
        · have hjl' : (j : Int) < nr := by omega
          obtain ⟨rb, ro, q, rfl, -, hq, r0, r1, r2, r3⟩ := RX.out j hjl
          obtain ⟨sb, so, r', rfl, -, hr', s0, s1, s2, s3, -⟩ := SX.out j hjl
          obtain ⟨r, t, hr1, hadd, hat, hkd, hto, hc1, hc2⟩ := QX.out j q hq
          rw [hr1] at hr'
          cases hr'
          rw [hat] at r0
          rw [hkd] at r1
          rw [hto] at r2
          rw [hadd] at r3
          obtain ⟨ka, kk, kn, kd⟩ := r'
          dsimp only at *
          replace r0 := cell_any r0 HBS.out
          replace r1 := cell_any r1 HBS.out
          replace r2 := cell_any r2 HBS.out
          replace r3 := cell_any r3 HBS.out
          replace s0 := cell_any (cell_any s0 B4.out) HBS.out
          replace s1 := cell_any (cell_any s1 B4.out) HBS.out
          replace s2 := cell_any (cell_any s2 B4.out) HBS.out
          replace s3 := cell_any (cell_any s3 B4.out) HBS.out
          have F5 : Hid (∃ we, we = wr.alloc (.cells #[.int .i64 ka, .int .i64 kk, .string kn, .int .i64 kd] 55) ∧ XAt we wr.heap.size [.int .i64 ka, .int .i64 kk, .string kn, .int .i64 kd] ∧ wr.heap.size < we.heap.size ∧ Below w4.heap.size w4 we ∧ ∀ a v, wr.cell? a = some v → we.cell? a = some v) :=
            ⟨_, rfl, XAt.new _ _ _, by simp, keep_alloc8 HBS.out _, fun a v h => cell_any h (keep_alloc8 (Below.refl _ _) _)⟩
          have TN : Hid ((kk = 1 → t < nf ∧ w4.cell? ⟨ob, oo + t * 4, none⟩ = some (.string kn)) ∧ (kk ≠ 1 → t < nd ∧ ∃ db dof, da' = some ⟨db, dof, none⟩ ∧ w4.cell? ⟨db, dof + t * 7, none⟩ = some (.string kn))) := by
            refine ⟨fun e => ?_, fun e => ?_⟩
            · obtain ⟨gf, h1, h2⟩ := hc1 e
              have ht : t < nf := by have := (List.getElem?_eq_some_iff.1 h1).1; have := EF.out.1; omega
              obtain ⟨b2, off2, f2, hoa, -, hf2, vc2, vr2, z0, -⟩ := OX.out.1 t ht
              obtain ⟨rfl, rfl⟩ : ob = b2 ∧ oo = off2 := by simpa using hoa
              rw [h1] at hf2
              cases hf2
              rw [h2] at z0
              exact ⟨ht, cell_any z0 B4.out⟩
            · obtain ⟨gd, h1, h2⟩ := hc2 e
              have ht : t < nd := by have := (List.getElem?_eq_some_iff.1 h1).1; have := EF.out.2; omega
              obtain ⟨b2, off2, f2, hoa, -, hf2, vc2, vr2, z0, -⟩ := OX.out.2 t ht
              rw [h1] at hf2
              cases hf2
              rw [h2] at z0
              exact ⟨ht, b2, off2, hoa, cell_any z0 B4.out⟩
          clear hq hr1 hc1 hc2
          go_upto_region 17 with fail
          obtain ⟨we, ee, hxe, hle, hbe, hce⟩ := F5.out
          rw [← ee]
          clear o0 o1 y3 s0 s1 s2 s3 ee F5
          replace p0 := hce _ _ p0
          replace p1 := hce _ _ p1
          replace x4 := hce _ _ x4
          replace r0 := hce _ _ r0
          replace r1 := hce _ _ r1
          replace r2 := hce _ _ r2
          replace r3 := hce _ _ r3
          have F6 : Hid (∃ w5, w5 = we.alloc (.cells #[.int .i64 ka, .int .i64 kk, .int .i64 t, .int .i64 kd] 38) ∧ XAt w5 wr.heap.size [.int .i64 ka, .int .i64 kk, .string kn, .int .i64 kd] ∧ XAt w5 we.heap.size [.int .i64 ka, .int .i64 kk, .int .i64 t, .int .i64 kd] ∧ Below w4.heap.size w4 w5) :=
            ⟨_, rfl, hxe.later hle (keep_alloc8 (Below.refl _ _) _), XAt.new _ _ _, keep_alloc8 hbe _⟩
          clear hce hxe hle hbe
          go_upto_region 18 with fail
          obtain ⟨w5, e5, hx5, hy5, hb5⟩ := F6.out
          rw [← e5]
          have HB5 : Hid (Below w4.heap.size w4 w5) := hb5
          clear p0 p1 x4 r0 r1 r2 r3
          have xo := XO.out.1.later XO.out.2 hb5
          have o0 := xo.1 0 _ rfl
          have o1 := xo.1 1 _ rfl
          have r0 := hx5.1 0 _ rfl
          have r1 := hx5.1 1 _ rfl
          have r2 := hx5.1 2 _ rfl
          have r3 := hx5.1 3 _ rfl
          have q0 := hy5.1 0 _ rfl
          have q1 := hy5.1 1 _ rfl
          have q2 := hy5.1 2 _ rfl
          have q3 := hy5.1 3 _ rfl
          clear xo hb5 hx5 hy5 e5 F6
          generalize we.heap.size = qg at q0 q1 q2 q3 ⊢
          generalize wr.heap.size = rg at r0 r1 r2 r3 ⊢
          have tn : (kn.toList == kn.toList) = true := by simp
          have tn2 : (kn.toList != kn.toList) = false := by simp
          have ta : (ka != ka) = false := by simp
          have td : (kd != kd) = false := by simp
          by_cases hk1 : kk = 1
          · obtain ⟨ht, z0⟩ := TN.out.1 hk1
            have ht' : (t : Int) < nf := by omega
            replace z0 := cell_any z0 HB5.out
            subst hk1
            go_quiet (fail)
            go_wp2
            go_roundw
            case rel => exact ⟨j + 1, by omega, by go_num, (by first | exact below_drewN HB5.out _ | exact HB5.out | exact HB5.out.drew)⟩
            case measure => simp [intOf]; omega
          · obtain ⟨ht, db, dof, rfl, z0⟩ := TN.out.2 hk1
            have ht' : (t : Int) < nd := by omega
            replace z0 := cell_any z0 HB5.out
            have hkk : (kk == 1) = false := by simpa using hk1
            have hkn : (kk != 1) = true := by simpa using hk1
            have tk : (kk != kk) = false := by simp
            go_quiet (fail)
            go_wp2
            go_roundw
            case rel => exact ⟨j + 1, by omega, by go_num, (by first | exact below_drewN HB5.out _ | exact HB5.out | exact HB5.out.drew)⟩
            case measure => simp [intOf]; omega
        · obtain rfl : j = nr := by omega
          go_wp2
          go_roundw
          case rel => exact ⟨k + 1, by omega, by go_num, HBS.out⟩
          case measure => simp [intOf]; omega
    · obtain rfl : k = nf := by omega
      have ec := cell_any EC.out HB.out
      go_wp2
      go_ret
      exact ⟨rfl, bnext B4.out HB.out⟩
end Go.Proofs.YteakbpcmafdikaaGreatDoor
