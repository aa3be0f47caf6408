/- May an object be written? As the document says it. -/
import Derived.Test.YteakbpcmafdikaaGreatDoorNmOwn
import Derived.Test.YteakbpcmafdikaaGreatDoorNmObj
namespace Go.Proofs.YteakbpcmafdikaaGreatDoor
open Go.ChangeShapes Go.WideShapes Go.ChangeAt Go.RowKit
set_option linter.unusedVariables false
set_option linter.unusedSimpArgs false
def relsOk (l : List RelM) : Prop := l.length ≤ 64 ∧ ∀ r ∈ l, relOk r
theorem Says.yes' {e : Ending} {P : Prop} (h : Says e P) (hp : P) : e = .returned (.bool true) := by
  obtain ⟨b, rfl, hb⟩ := h
  rw [hb.mpr hp]
theorem Says.no' {e : Ending} {P : Prop} (h : Says e P) (hp : ¬ P) : e = .returned (.bool false) := by
  obtain ⟨b, rfl, hb⟩ := h
  cases b
  · rfl
  · exact absurd (hb.mp rfl) hp
theorem not_all {α : Type} {P : α → Prop} {l : List α} {k : Nat} {x : α} (hx : l[k]? = some x) (h : ¬ P x) : ¬ ∀ y ∈ l, P y := fun e => h (e x (List.mem_of_getElem? hx))
set_option maxRecDepth 100000 in
set_option maxHeartbeats 4000000 in
theorem rrels_any {A : Nat → Prop} {w : World} {v : Value} {l : List RelM} (h : IsRels A w v l) :
    Calls Tryz.prog 51 #[v] w fun e w' => Says e (relsOk l) ∧ Below w.heap.size w w' := by
  obtain ⟨a, c, rfl, lm, -, lx⟩ := LstA.open h
  obtain ⟨n, en⟩ : ∃ n, l.length = n := ⟨_, rfl⟩
  rw [en] at lm lx ⊢
  have LX : Hid (∀ k, k < n → ∃ b off x, a = some ⟨b, off, none⟩ ∧ A b ∧ l[k]? = some x ∧ RelAt w b (off + k * 4) x) := lx
  have HN : Hid (l.length = n) := en
  have hn : (n : Int) ≤ 9223372036854775807 := by unfold maxLen at lm; omega
  clear h lx en lm
  go_enter Tryz.func51, Tryz.ntmps51
  go_wp2
  go_loopw [3] (fun i wr => ∃ k : Nat, k ≤ n ∧ k ≤ 65 ∧ i = .int .i64 k ∧ (∀ j y, j < k → l[j]? = some y → relOk y) ∧ Below w.heap.size w wr) (fun i _ => n - (intOf i).toNat)
  case atStart => exact ⟨0, Nat.zero_le _, Nat.zero_le _, rfl, (fun j y hj => by omega), Below.refl _ _⟩
  case round =>
    obtain ⟨k, hk, hk2, rfl, hs, hbel⟩ := hrel
    have HB : Hid (Below w.heap.size w wr) := hbel
    have HS : Hid (∀ j y, j < k → l[j]? = some y → relOk y) := hs
    clear hbel hs
    by_cases hlt : k < n ∧ k < 65
    · obtain ⟨h1, h2⟩ := hlt
      have h1' : (k : Int) < n := by omega
      have h2' : (k : Int) < 65 := by omega
      obtain ⟨q, off, ⟨xa, xk, xn, xd⟩, rfl, -, hx, x0, x1, x2, x3, hsz⟩ := LX.out k h1
      dsimp only at x0 x1 x2 x3 hsz
      have HX : Hid (l[k]? = some ⟨xa, xk, xn, xd⟩) := hx
      have NO : Hid (¬ relOk ⟨xa, xk, xn, xd⟩ → ¬ relsOk l) := fun h1 h2 => not_all hx h1 h2.2
      replace x0 := cell_any x0 HB.out
      replace x1 := cell_any x1 HB.out
      replace x2 := cell_any x2 HB.out
      replace x3 := cell_any x3 HB.out
      have ND : Hid (∀ W, Calls Tryz.prog 50 #[.string xn] W fun e w' => e = .returned (.bool (namedB xn)) ∧ w' = W) := fun W => rnamed9_any xn W (by unfold maxLen at hsz; omega)
      clear hx hsz
      go_upto_region 5 with fail
      have B2 : Hid (Below w.heap.size w (wr.alloc (.cells #[.int .i64 xa, .int .i64 xk, .string xn, .int .i64 xd] 55))) := keep_alloc8 HB.out _
      have X3 : Hid (XAt (wr.alloc (.cells #[.int .i64 xa, .int .i64 xk, .string xn, .int .i64 xd] 55)) wr.heap.size [.int .i64 xa, .int .i64 xk, .string xn, .int .i64 xd]) := XAt.new _ _ _
      generalize wr.alloc (.cells #[.int .i64 xa, .int .i64 xk, .string xn, .int .i64 xd] 55) = w2 at B2 X3 ⊢
      clear x0 x1 x2 x3
      have x0 := X3.out.1 0 _ rfl
      have x1 := X3.out.1 1 _ rfl
      have x2 := X3.out.1 2 _ rfl
      have x3 := X3.out.1 3 _ rfl
      by_cases ha : xa < 0
      · go_wp2
        go_ret
        exact ⟨⟨false, rfl, iff_no (NO.out fun e => by have := e.1.1; dsimp only at this; omega)⟩, B2.out⟩
      replace ha : 0 ≤ xa := by omega
      by_cases hb : 65535 < xa
      · go_wp2
        go_ret
        exact ⟨⟨false, rfl, iff_no (NO.out fun e => by have := e.1.2; dsimp only at this; omega)⟩, B2.out⟩
      replace hb : xa ≤ 65535 := by omega
      by_cases hc : xk < 0
      · go_wp2
        go_ret
        exact ⟨⟨false, rfl, iff_no (NO.out fun e => by have := e.2.1.1; dsimp only at this; omega)⟩, B2.out⟩
      replace hc : 0 ≤ xk := by omega
      by_cases hd : 255 < xk
      · go_wp2
        go_ret
        exact ⟨⟨false, rfl, iff_no (NO.out fun e => by have := e.2.1.2; dsimp only at this; omega)⟩, B2.out⟩
      replace hd : xk ≤ 255 := by omega
      cases hnb : namedB xn
      · rw [hnb] at ND
        go_wp2_with (go_at_call 50; refine (ND.out _).mono ?_; rintro e w3 ⟨rfl, rfl⟩)
        go_ret
        exact ⟨⟨false, rfl, iff_no (NO.out fun e => by have := e.2.2.1; dsimp only at this; rw [hnb] at this; cases this)⟩, B2.out⟩
      rw [hnb] at ND
      by_cases hf : xd < -1048576
      · go_wp2_with (go_at_call 50; refine (ND.out _).mono ?_; rintro e w3 ⟨rfl, rfl⟩)
        go_ret
        exact ⟨⟨false, rfl, iff_no (NO.out fun e => by have := e.2.2.2.1; dsimp only at this; omega)⟩, B2.out⟩
      replace hf : -1048576 ≤ xd := by omega
      by_cases hg : 1048576 < xd
      · go_wp2_with (go_at_call 50; refine (ND.out _).mono ?_; rintro e w3 ⟨rfl, rfl⟩)
        go_ret
        exact ⟨⟨false, rfl, iff_no (NO.out fun e => by have := e.2.2.2.2; dsimp only at this; omega)⟩, B2.out⟩
      replace hg : xd ≤ 1048576 := by omega
      go_wp2_with (go_at_call 50; refine (ND.out _).mono ?_; rintro e w3 ⟨rfl, rfl⟩)
      go_roundw
      case rel => exact ⟨k + 1, by omega, by omega, by go_num, upto_next HS.out HX.out ⟨⟨ha, hb⟩, ⟨hc, hd⟩, hnb, hf, hg⟩, B2.out⟩
      case measure => simp [intOf]; omega
    · by_cases hkn : k = n
      · subst hkn
        by_cases h64 : (k : Int) ≤ 64
        · go_wp2
          go_ret
          exact ⟨⟨true, rfl, iff_yes ⟨by have := HN.out; omega, upto_all (by rw [HN.out]; exact HS.out)⟩⟩, HB.out⟩
        · have h64' : (64 : Int) < k := by omega
          go_wp2
          go_ret
          exact ⟨⟨false, rfl, iff_no fun e => by have := e.1; have := HN.out; omega⟩, HB.out⟩
      · obtain rfl : k = 65 := by omega
        have h1' : ((65 : Nat) : Int) < n := by omega
        have h2' : (64 : Int) < n := by omega
        go_wp2
        go_ret
        refine ⟨⟨decide ((n : Int) ≤ 64), rfl, ?_⟩, HB.out⟩
        rw [decide_eq_true_eq]
        exact ⟨fun e => by omega, fun e => by have := e.1; have := HN.out; omega⟩
set_option maxRecDepth 100000 in
set_option maxHeartbeats 8000000 in
theorem may_any {A : Nat → Prop} {w : World} {v : Value} {o : ObjM} (h : IsObj A w v o) :
    Calls Tryz.prog 34 #[v] w fun e w' => Says e (objOk o) ∧ Below w.heap.size w w' := by
  obtain ⟨vf, vd, vn, rfl, hf, hd, hn⟩ := h
  obtain ⟨fa, fc, rfl, fm, -, fx⟩ := LstA.open hf
  obtain ⟨da, dc, rfl, dm, -, dx⟩ := LstA.open hd
  obtain ⟨na, nc, rfl, nm, -, nx⟩ := LstA.open hn
  obtain ⟨F, eF⟩ : ∃ F, o.funcs.length = F := ⟨_, rfl⟩
  obtain ⟨D, eD⟩ : ∃ D, o.datas.length = D := ⟨_, rfl⟩
  obtain ⟨N, eN⟩ : ∃ N, o.notes.length = N := ⟨_, rfl⟩
  rw [eF] at fm fx ⊢
  rw [eD] at dm dx ⊢
  rw [eN] at nm nx ⊢
  have EF : Hid (o.funcs.length = F ∧ o.datas.length = D ∧ o.notes.length = N) := ⟨eF, eD, eN⟩
  have FX : Hid (∀ k, k < F → ∃ b off x, fa = some ⟨b, off, none⟩ ∧ A b ∧ o.funcs[k]? = some x ∧ FuncAt A w b (off + k * 4) x) := fx
  have DX : Hid (∀ k, k < D → ∃ b off x, da = some ⟨b, off, none⟩ ∧ A b ∧ o.datas[k]? = some x ∧ DataAt A w b (off + k * 7) x) := dx
  have NX : Hid (∀ k, k < N → ∃ b off x, na = some ⟨b, off, none⟩ ∧ A b ∧ o.notes[k]? = some x ∧ NoteAt w b (off + k * 2) x) := nx
  have UP : Hid (Below w.heap.size w (w.alloc (.cells #[.slice fa F fc, .slice da D dc, .slice na N nc] 46))) := keep_alloc8 (Below.refl _ _) _
  have X1 : Hid (XAt (w.alloc (.cells #[.slice fa F fc, .slice da D dc, .slice na N nc] 46)) w.heap.size [.slice fa F fc, .slice da D dc, .slice na N nc]) := XAt.new _ _ _
  clear hf hd hn eF eD eN fx dx nx fm dm nm
  go_enter Tryz.func34, Tryz.ntmps34
  go_upto_region 1 with fail
  generalize w.alloc (.cells #[.slice fa F fc, .slice da D dc, .slice na N nc] 46) = w0 at UP X1 ⊢
  have hX : Hid (w.heap.size < w0.heap.size) := X1.out.lt (by simp)
  have CELLS : Hid (∀ W, Below w0.heap.size w0 W → W.cell? ⟨w.heap.size, 0, none⟩ = some (.slice fa F fc) ∧ W.cell? ⟨w.heap.size, 1, none⟩ = some (.slice da D dc) ∧ W.cell? ⟨w.heap.size, 2, none⟩ = some (.slice na N nc)) :=
    fun W h => ⟨(X1.out.later hX.out h).1 0 _ rfl, (X1.out.later hX.out h).1 1 _ rfl, (X1.out.later hX.out h).1 2 _ rfl⟩
  obtain ⟨c0, c1, c2⟩ := CELLS.out w0 (Below.refl _ _)
  rcases (by omega : 64 < (F : Int) ∨ ((F : Int) ≤ 64 ∧ 64 < (D : Int)) ∨ ((F : Int) ≤ 64 ∧ (D : Int) ≤ 64 ∧ 64 < (N : Int)) ∨ ((F : Int) ≤ 64 ∧ (D : Int) ≤ 64 ∧ (N : Int) ≤ 64)) with h1 | ⟨h1, h2⟩ | ⟨h1, h2, h3⟩ | ⟨h1, h2, h3⟩
  · go_wp2
    go_ret
    exact ⟨⟨false, rfl, iff_no fun e => by have := e.1.1; have := EF.out; omega⟩, UP.out⟩
  · go_wp2
    go_ret
    exact ⟨⟨false, rfl, iff_no fun e => by have := e.2.1.1; have := EF.out; omega⟩, UP.out⟩
  · go_wp2
    go_ret
    exact ⟨⟨false, rfl, iff_no fun e => by have := e.2.2.1; have := EF.out; omega⟩, UP.out⟩
  go_wp2
  clear c0 c1 c2
  go_loopw [3] (fun i wr => ∃ k : Nat, k ≤ F ∧ i = .int .i64 k ∧ (∀ j y, j < k → o.funcs[j]? = some y → funcOk y) ∧ Below w0.heap.size w0 wr) (fun i _ => F - (intOf i).toNat)
  case atStart => exact ⟨0, Nat.zero_le _, rfl, (fun j y hj => by omega), Below.refl _ _⟩
  case round =>
    obtain ⟨k, hk, rfl, hs, hbel⟩ := hrel
    have HB : Hid (Below w0.heap.size w0 wr) := hbel
    have HS : Hid (∀ j y, j < k → o.funcs[j]? = some y → funcOk y) := hs
    obtain ⟨c0, c1, c2⟩ := CELLS.out wr hbel
    have BW : Hid (Below w.heap.size w wr) := bnext UP.out hbel
    clear hbel hs
    by_cases hlt : k < F
    · have hlt' : (k : Int) < F := by omega
      obtain ⟨q, off, ⟨xn, xb, xc, xr⟩, rfl, -, hx, vc, vr, x0, x1, x2, x3, hc, hr, hsz⟩ := FX.out k hlt
      dsimp only at x0 x1 x2 x3 hsz hc hr
      have HX : Hid (o.funcs[k]? = some ⟨xn, xb, xc, xr⟩) := hx
      have NO : Hid (¬ funcOk ⟨xn, xb, xc, xr⟩ → ¬ objOk o) := fun h1 h2 => not_all hx h1 h2.1.2
      replace x0 := cell_any x0 BW.out
      replace x1 := cell_any x1 BW.out
      replace x2 := cell_any x2 BW.out
      replace x3 := cell_any x3 BW.out
      have ND : Hid (∀ W, Calls Tryz.prog 50 #[.string xn] W fun e w' => e = .returned (.bool (namedB xn)) ∧ w' = W) := fun W => rnamed9_any xn W (by unfold maxLen at hsz; omega)
      have Qr : Hid (∀ W, Below wr.heap.size wr W → Calls Tryz.prog 51 #[vr] W fun e w' => Says e (relsOk xr) ∧ Below W.heap.size W w') := fun W hW => rrels_any ((hr.keep (Stay.of_below BW.out)).keep (Stay.of_below hW))
      have Zc : Hid (Wrd xc) := hc.2
      obtain ⟨ac, cc, rfl, -, -, -⟩ := LstA.open hc.1
      obtain ⟨ar, cr, rfl, -, -, -⟩ := LstA.open hr
      clear hx hsz hc hr
      go_upto_region 7 with fail
      have B2 : Hid (Below wr.heap.size wr (wr.alloc (.cells #[.string xn, .int .i64 xb, .slice ac xc.length cc, .slice ar xr.length cr] 50))) := keep_alloc8 (Below.refl _ _) _
      have X3 : Hid (XAt (wr.alloc (.cells #[.string xn, .int .i64 xb, .slice ac xc.length cc, .slice ar xr.length cr] 50)) wr.heap.size [.string xn, .int .i64 xb, .slice ac xc.length cc, .slice ar xr.length cr]) := XAt.new _ _ _
      generalize wr.alloc (.cells #[.string xn, .int .i64 xb, .slice ac xc.length cc, .slice ar xr.length cr] 50) = w2 at B2 X3 ⊢
      clear c0 c1 c2 x0 x1 x2 x3
      have x0 := X3.out.1 0 _ rfl
      have x1 := X3.out.1 1 _ rfl
      have x2 := X3.out.1 2 _ rfl
      have x3 := X3.out.1 3 _ rfl
      cases hnb : namedB xn
      · rw [hnb] at ND
        go_wp2_with (go_at_call 50; refine (ND.out _).mono ?_; rintro e w3 ⟨rfl, rfl⟩)
        go_ret
        exact ⟨⟨false, rfl, iff_no (NO.out fun e => by have := e.1; dsimp only at this; rw [hnb] at this; cases this)⟩, bnext BW.out B2.out⟩
      rw [hnb] at ND
      by_cases hb1 : xb < 1
      · go_wp2_with (go_at_call 50; refine (ND.out _).mono ?_; rintro e w3 ⟨rfl, rfl⟩)
        go_ret
        exact ⟨⟨false, rfl, iff_no (NO.out fun e => by have := e.2.1.1; dsimp only at this; omega)⟩, bnext BW.out B2.out⟩
      replace hb1 : 1 ≤ xb := by omega
      by_cases hb2 : 255 < xb
      · go_wp2_with (go_at_call 50; refine (ND.out _).mono ?_; rintro e w3 ⟨rfl, rfl⟩)
        go_ret
        exact ⟨⟨false, rfl, iff_no (NO.out fun e => by have := e.2.1.2; dsimp only at this; omega)⟩, bnext BW.out B2.out⟩
      replace hb2 : xb ≤ 255 := by omega
      by_cases hc : 2000 < (xc.length : Int)
      · go_wp2_with (go_at_call 50; refine (ND.out _).mono ?_; rintro e w3 ⟨rfl, rfl⟩)
        go_ret
        exact ⟨⟨false, rfl, iff_no (NO.out fun e => by have := e.2.2.1.1; dsimp only at this; omega)⟩, bnext BW.out B2.out⟩
      replace hc : (xc.length : Int) ≤ 2000 := by omega
      by_cases er : relsOk xr
      rotate_left
      · go_wp2_with (first
          | (go_at_call 50; refine (ND.out _).mono ?_; rintro e w3 ⟨rfl, rfl⟩)
          | (go_at_call 51; refine (Qr.out _ B2.out).mono ?_; rintro e w4 ⟨hsay, b4⟩; obtain rfl := hsay.no' er; clear hsay))
        go_ret
        exact ⟨⟨false, rfl, iff_no (NO.out fun e => er e.2.2.2)⟩, bnext BW.out (bnext B2.out b4)⟩
      have ER : Hid (relsOk xr) := er
      clear er
      go_wp2_with (first
          | (go_at_call 50; refine (ND.out _).mono ?_; rintro e w3 ⟨rfl, rfl⟩)
          | (go_at_call 51; refine (Qr.out _ B2.out).mono ?_; rintro e w4 ⟨hsay, b4⟩; obtain rfl := hsay.yes' ER.out; clear hsay))
      go_roundw
      case rel => exact ⟨k + 1, by omega, by go_num, upto_next HS.out HX.out ⟨hnb, ⟨hb1, hb2⟩, ⟨by show xc.length ≤ 2000; omega, Zc.out⟩, ER.out⟩, bnext HB.out (bnext B2.out b4)⟩
      case measure => simp [intOf]; omega
    · obtain rfl : k = F := by omega
      have Hfuncs : Hid (∀ f ∈ o.funcs, funcOk f) := upto_all (by rw [EF.out.1]; exact HS.out)
      clear HS hk
      go_wp2
      go_loopw [5] (fun i wr => ∃ k : Nat, k ≤ D ∧ i = .int .i64 k ∧ (∀ j y, j < k → o.datas[j]? = some y → dataOk y) ∧ Below w0.heap.size w0 wr) (fun i _ => D - (intOf i).toNat)
      case atStart => exact ⟨0, Nat.zero_le _, rfl, (fun j y hj => by omega), HB.out⟩
      case round =>
        obtain ⟨k, hk, rfl, hs, hbel⟩ := hrel
        have HB : Hid (Below w0.heap.size w0 wr) := hbel
        have HS : Hid (∀ j y, j < k → o.datas[j]? = some y → dataOk y) := hs
        obtain ⟨c0, c1, c2⟩ := CELLS.out wr hbel
        have BW : Hid (Below w.heap.size w wr) := bnext UP.out hbel
        clear hbel hs
        by_cases hlt : k < D
        · have hlt' : (k : Int) < D := by omega
          obtain ⟨q, off, ⟨xn, xb, xg, xx, xz, xc, xr⟩, rfl, -, hx, vc, vr, x0, x1, x2, x3, x4, x5, x6, hc, hr, hsz⟩ := DX.out k hlt
          dsimp only at x0 x1 x2 x3 x4 x5 x6 hsz hc hr
          have HX : Hid (o.datas[k]? = some ⟨xn, xb, xg, xx, xz, xc, xr⟩) := hx
          have NO : Hid (¬ dataOk ⟨xn, xb, xg, xx, xz, xc, xr⟩ → ¬ objOk o) := fun h1 h2 => not_all hx h1 h2.2.1.2
          replace x0 := cell_any x0 BW.out
          replace x1 := cell_any x1 BW.out
          replace x2 := cell_any x2 BW.out
          replace x3 := cell_any x3 BW.out
          replace x4 := cell_any x4 BW.out
          replace x5 := cell_any x5 BW.out
          replace x6 := cell_any x6 BW.out
          have ND : Hid (∀ W, Calls Tryz.prog 50 #[.string xn] W fun e w' => e = .returned (.bool (namedB xn)) ∧ w' = W) := fun W => rnamed9_any xn W (by unfold maxLen at hsz; omega)
          have Qr : Hid (∀ W, Below wr.heap.size wr W → Calls Tryz.prog 51 #[vr] W fun e w' => Says e (relsOk xr) ∧ Below W.heap.size W w') := fun W hW => rrels_any ((hr.keep (Stay.of_below BW.out)).keep (Stay.of_below hW))
          have Zc : Hid (Byt xc) := hc.2
          obtain ⟨ac, cc, rfl, -, -, -⟩ := LstA.open hc.1
          obtain ⟨ar, cr, rfl, -, -, -⟩ := LstA.open hr
          clear hx hsz hc hr
          go_upto_region 13 with fail
          have B2 : Hid (Below wr.heap.size wr (wr.alloc (.cells #[.string xn, .int .i64 xb, .int .i64 xg, .bool xx, .int .i64 xz, .slice ac xc.length cc, .slice ar xr.length cr] 52))) := keep_alloc8 (Below.refl _ _) _
          have X3 : Hid (XAt (wr.alloc (.cells #[.string xn, .int .i64 xb, .int .i64 xg, .bool xx, .int .i64 xz, .slice ac xc.length cc, .slice ar xr.length cr] 52)) wr.heap.size [.string xn, .int .i64 xb, .int .i64 xg, .bool xx, .int .i64 xz, .slice ac xc.length cc, .slice ar xr.length cr]) := XAt.new _ _ _
          generalize wr.alloc (.cells #[.string xn, .int .i64 xb, .int .i64 xg, .bool xx, .int .i64 xz, .slice ac xc.length cc, .slice ar xr.length cr] 52) = w2 at B2 X3 ⊢
          clear c0 c1 c2 x0 x1 x2 x3 x4 x5 x6
          have x0 := X3.out.1 0 _ rfl
          have x1 := X3.out.1 1 _ rfl
          have x2 := X3.out.1 2 _ rfl
          have x3 := X3.out.1 3 _ rfl
          have x4 := X3.out.1 4 _ rfl
          have x5 := X3.out.1 5 _ rfl
          have x6 := X3.out.1 6 _ rfl
          cases hnb : namedB xn
          · rw [hnb] at ND
            go_wp2_with (go_at_call 50; refine (ND.out _).mono ?_; rintro e w3 ⟨rfl, rfl⟩)
            go_ret
            exact ⟨⟨false, rfl, iff_no (NO.out fun e => by have := e.1; dsimp only at this; rw [hnb] at this; cases this)⟩, bnext BW.out B2.out⟩
          rw [hnb] at ND
          by_cases hb1 : xb < 1
          · go_wp2_with (go_at_call 50; refine (ND.out _).mono ?_; rintro e w3 ⟨rfl, rfl⟩)
            go_ret
            exact ⟨⟨false, rfl, iff_no (NO.out fun e => by have := e.2.1.1; dsimp only at this; omega)⟩, bnext BW.out B2.out⟩
          replace hb1 : 1 ≤ xb := by omega
          by_cases hb2 : 255 < xb
          · go_wp2_with (go_at_call 50; refine (ND.out _).mono ?_; rintro e w3 ⟨rfl, rfl⟩)
            go_ret
            exact ⟨⟨false, rfl, iff_no (NO.out fun e => by have := e.2.1.2; dsimp only at this; omega)⟩, bnext BW.out B2.out⟩
          replace hb2 : xb ≤ 255 := by omega
          by_cases hg1 : xg < 0
          · go_wp2_with (go_at_call 50; refine (ND.out _).mono ?_; rintro e w3 ⟨rfl, rfl⟩)
            go_ret
            exact ⟨⟨false, rfl, iff_no (NO.out fun e => by have := e.2.2.1.1; dsimp only at this; omega)⟩, bnext BW.out B2.out⟩
          replace hg1 : 0 ≤ xg := by omega
          by_cases hg2 : 255 < xg
          · go_wp2_with (go_at_call 50; refine (ND.out _).mono ?_; rintro e w3 ⟨rfl, rfl⟩)
            go_ret
            exact ⟨⟨false, rfl, iff_no (NO.out fun e => by have := e.2.2.1.2; dsimp only at this; omega)⟩, bnext BW.out B2.out⟩
          replace hg2 : xg ≤ 255 := by omega
          by_cases hz1 : xz < 0
          · go_wp2_with (go_at_call 50; refine (ND.out _).mono ?_; rintro e w3 ⟨rfl, rfl⟩)
            go_ret
            exact ⟨⟨false, rfl, iff_no (NO.out fun e => by have := e.2.2.2.1.1; dsimp only at this; omega)⟩, bnext BW.out B2.out⟩
          replace hz1 : 0 ≤ xz := by omega
          by_cases hz2 : 65535 < xz
          · go_wp2_with (go_at_call 50; refine (ND.out _).mono ?_; rintro e w3 ⟨rfl, rfl⟩)
            go_ret
            exact ⟨⟨false, rfl, iff_no (NO.out fun e => by have := e.2.2.2.1.2; dsimp only at this; omega)⟩, bnext BW.out B2.out⟩
          replace hz2 : xz ≤ 65535 := by omega
          by_cases hc : 4096 < (xc.length : Int)
          · go_wp2_with (go_at_call 50; refine (ND.out _).mono ?_; rintro e w3 ⟨rfl, rfl⟩)
            go_ret
            exact ⟨⟨false, rfl, iff_no (NO.out fun e => by have := e.2.2.2.2.1.1; dsimp only at this; omega)⟩, bnext BW.out B2.out⟩
          replace hc : (xc.length : Int) ≤ 4096 := by omega
          by_cases er : relsOk xr
          rotate_left
          · go_wp2_with (first
              | (go_at_call 50; refine (ND.out _).mono ?_; rintro e w3 ⟨rfl, rfl⟩)
              | (go_at_call 51; refine (Qr.out _ B2.out).mono ?_; rintro e w4 ⟨hsay, b4⟩; obtain rfl := hsay.no' er; clear hsay))
            go_ret
            exact ⟨⟨false, rfl, iff_no (NO.out fun e => er e.2.2.2.2.2)⟩, bnext BW.out (bnext B2.out b4)⟩
          have ER : Hid (relsOk xr) := er
          clear er
          go_wp2_with (first
              | (go_at_call 50; refine (ND.out _).mono ?_; rintro e w3 ⟨rfl, rfl⟩)
              | (go_at_call 51; refine (Qr.out _ B2.out).mono ?_; rintro e w4 ⟨hsay, b4⟩; obtain rfl := hsay.yes' ER.out; clear hsay))
          go_roundw
          case rel => exact ⟨k + 1, by omega, by go_num, upto_next HS.out HX.out ⟨hnb, ⟨hb1, hb2⟩, ⟨hg1, hg2⟩, ⟨hz1, hz2⟩, ⟨by show xc.length ≤ 4096; omega, Zc.out⟩, ER.out⟩, bnext HB.out (bnext B2.out b4)⟩
          case measure => simp [intOf]; omega
        · obtain rfl : k = D := by omega
          have Hdatas : Hid (∀ f ∈ o.datas, dataOk f) := upto_all (by rw [EF.out.2.1]; exact HS.out)
          clear HS hk
          go_wp2
          go_loopw [7] (fun i wr => ∃ k : Nat, k ≤ N ∧ i = .int .i64 k ∧ (∀ j y, j < k → o.notes[j]? = some y → noteOk y) ∧ Below w0.heap.size w0 wr) (fun i _ => N - (intOf i).toNat)
          case atStart => exact ⟨0, Nat.zero_le _, rfl, (fun j y hj => by omega), HB.out⟩
          case round =>
            obtain ⟨k, hk, rfl, hs, hbel⟩ := hrel
            have HB : Hid (Below w0.heap.size w0 wr) := hbel
            have HS : Hid (∀ j y, j < k → o.notes[j]? = some y → noteOk y) := hs
            obtain ⟨c0, c1, c2⟩ := CELLS.out wr hbel
            have BW : Hid (Below w.heap.size w wr) := bnext UP.out hbel
            clear hbel hs
            by_cases hlt : k < N
            · have hlt' : (k : Int) < N := by omega
              obtain ⟨q, off, ⟨xn, xk⟩, rfl, -, hx, x0, x1, hsz⟩ := NX.out k hlt
              dsimp only at x0 x1 hsz 
              have HX : Hid (o.notes[k]? = some ⟨xn, xk⟩) := hx
              have NO : Hid (¬ noteOk ⟨xn, xk⟩ → ¬ objOk o) := fun h1 h2 => not_all hx h1 h2.2.2.2
              replace x0 := cell_any x0 BW.out
              replace x1 := cell_any x1 BW.out
              have ND : Hid (∀ W, Calls Tryz.prog 50 #[.string xn] W fun e w' => e = .returned (.bool (namedB xn)) ∧ w' = W) := fun W => rnamed9_any xn W (by unfold maxLen at hsz; omega)
              clear hx hsz 
              have B2 : Hid (Below wr.heap.size wr wr) := Below.refl _ _
              cases hnb : namedB xn
              · rw [hnb] at ND
                go_wp2_with (go_at_call 50; refine (ND.out _).mono ?_; rintro e w3 ⟨rfl, rfl⟩)
                go_ret
                exact ⟨⟨false, rfl, iff_no (NO.out fun e => by have := e.1; dsimp only at this; rw [hnb] at this; cases this)⟩, bnext BW.out B2.out⟩
              rw [hnb] at ND
              by_cases hk1 : xk < 0
              · go_wp2_with (go_at_call 50; refine (ND.out _).mono ?_; rintro e w3 ⟨rfl, rfl⟩)
                go_ret
                exact ⟨⟨false, rfl, iff_no (NO.out fun e => by have := e.2.1; dsimp only at this; omega)⟩, bnext BW.out B2.out⟩
              replace hk1 : 0 ≤ xk := by omega
              by_cases hk2 : 255 < xk
              · go_wp2_with (go_at_call 50; refine (ND.out _).mono ?_; rintro e w3 ⟨rfl, rfl⟩)
                go_ret
                exact ⟨⟨false, rfl, iff_no (NO.out fun e => by have := e.2.2; dsimp only at this; omega)⟩, bnext BW.out B2.out⟩
              replace hk2 : xk ≤ 255 := by omega
              go_wp2_with (go_at_call 50; refine (ND.out _).mono ?_; rintro e w3 ⟨rfl, rfl⟩)
              go_roundw
              case rel => exact ⟨k + 1, by omega, by go_num, upto_next HS.out HX.out ⟨hnb, hk1, hk2⟩, bnext HB.out B2.out⟩
              case measure => simp [intOf]; omega
            · obtain rfl : k = N := by omega
              have Hnotes : Hid (∀ f ∈ o.notes, noteOk f) := upto_all (by rw [EF.out.2.2]; exact HS.out)
              clear HS hk
              go_wp2
              go_ret
              exact ⟨⟨true, rfl, iff_yes ⟨⟨by have := EF.out; omega, Hfuncs.out⟩, ⟨by have := EF.out; omega, Hdatas.out⟩, ⟨by have := EF.out; omega, Hnotes.out⟩⟩⟩, BW.out⟩
end Go.Proofs.YteakbpcmafdikaaGreatDoor
