/- Is an object right? As the document says it. -/
import Derived.Test.YtnejpldbokodaaaGreatDoorChkRefF
import Derived.Test.YtnejpldbokodaaaGreatDoorChkRefD
import Derived.Test.YtnejpldbokodaaaGreatDoorChkAwakeAll
import Derived.Test.YtnejpldbokodaaaGreatDoorObjMay
namespace Go.Proofs.YtnejpldbokodaaaGreatDoor
open Go.ChangeShapes Go.WideShapes Go.ChangeAt Go.RowKit
set_option linter.unusedVariables false
set_option linter.unusedSimpArgs false
/-- Where the names stand. -/
theorem ownS_cells {w : World} {base : Nat} {v : Value} {L : List ByteArray} (h : OwnS w base v L) : ∃ a c, v = .slice a L.length c ∧ ∀ j, j < L.length → ∃ g s, a = some ⟨g, 0, none⟩ ∧ L[j]? = some s ∧ w.cell? ⟨g, j, none⟩ = some (.string s) := by
  by_cases h0 : 0 < L.length
  · obtain ⟨g, cap, hv, -, -⟩ := h.form h0
    refine ⟨_, cap, hv, fun j hj => ?_⟩
    have hs : L[j]? = some L[j] := List.getElem?_eq_getElem hj
    refine ⟨g, L[j], rfl, hs, ?_⟩
    subst hv
    have hc := h.cellAt j (by omega)
    rw [hc, strC, List.getElem?_map, hs]
    rfl
  · rcases ownS_form h with ⟨rfl, a, cap, hv, -, -⟩ | ⟨g, cap, hv, -⟩
    · exact ⟨a, cap, hv, fun j hj => by simp at hj⟩
    · exact ⟨_, cap, hv, fun j hj => by omega⟩
/-- No name twice among the first n. -/
def upNodup (L : List ByteArray) (n : Nat) : Prop := ∀ i j x y, i < n → j < i → L[i]? = some x → L[j]? = some y → x ≠ y
theorem upNodup_next {L : List ByteArray} {k : Nat} {x : ByteArray} (h : upNodup L k) (hx : L[k]? = some x) (hk : ∀ j y, j < k → L[j]? = some y → x ≠ y) : upNodup L (k + 1) := fun i j a b hi hj ha hb => by
  rcases (by omega : i < k ∨ i = k) with h1 | rfl
  · exact h i j a b h1 hj ha hb
  · rw [hx] at ha; cases ha; exact hk j b hj hb
theorem upNodup_all {L : List ByteArray} (h : upNodup L L.length) : L.Nodup := by
  unfold List.Nodup
  rw [List.pairwise_iff_getElem]
  intro i j hi hj hij e
  exact h j i _ _ hj hij (List.getElem?_eq_getElem hj) (List.getElem?_eq_getElem hi) e.symm
theorem not_nodup {L : List ByteArray} {i j : Nat} {x : ByteArray} (hij : j < i) (hi : L[i]? = some x) (hj : L[j]? = some x) : ¬ L.Nodup := fun h => by
  unfold List.Nodup at h
  rw [List.pairwise_iff_getElem] at h
  obtain ⟨hi', ei⟩ := List.getElem?_eq_some_iff.1 hi
  obtain ⟨hj', ej⟩ := List.getElem?_eq_some_iff.1 hj
  exact h j i hj' hi' hij (by rw [ei, ej])
set_option maxRecDepth 100000 in
set_option maxHeartbeats 8000000 in
theorem robj_any {A : Nat → Prop} {w : World} {u : Value} {o : ObjM} (h : IsObj A w u o) :
    Calls Tryz.prog 12 #[u] w fun e w' => e = .returned (.int .i64 (objE o)) ∧ Below w.heap.size w w' := by
  have HO : Hid (IsObj A w u o) := h
  obtain ⟨vf, vd, vn, rfl, hf, hd, hn⟩ := h
  obtain ⟨fa, fc, rfl, fm, -, fx⟩ := LstA.open hf
  obtain ⟨da, dc, rfl, dm, -, dx⟩ := LstA.open hd
  obtain ⟨na, nc, rfl, nm, -, nx⟩ := LstA.open hn
  obtain ⟨F, eF⟩ : ∃ F, o.funcs.length = F := ⟨_, rfl⟩
  obtain ⟨D, eD⟩ : ∃ D, o.datas.length = D := ⟨_, rfl⟩
  obtain ⟨N, eN⟩ : ∃ N, o.notes.length = N := ⟨_, rfl⟩
  rw [eF, eD, eN] at HO ⊢
  rw [eF] at fm fx
  rw [eD] at dm dx
  rw [eN] at nm nx
  have FX : Hid (∀ k, k < F → ∃ b off x, fa = some ⟨b, off, none⟩ ∧ A b ∧ o.funcs[k]? = some x ∧ FuncAt A w b (off + k * 4) x) := fx
  have DX : Hid (∀ k, k < D → ∃ b off x, da = some ⟨b, off, none⟩ ∧ A b ∧ o.datas[k]? = some x ∧ DataAt A w b (off + k * 7) x) := dx
  have NX : Hid (∀ k, k < N → ∃ b off x, na = some ⟨b, off, none⟩ ∧ A b ∧ o.notes[k]? = some x ∧ NoteAt w b (off + k * 2) x) := nx
  have EF : Hid (o.funcs.length = F ∧ o.datas.length = D ∧ o.notes.length = N) := ⟨eF, eD, eN⟩
  have UP : Hid (Below w.heap.size w (w.alloc (.cells #[.slice fa F fc, .slice da D dc, .slice na N nc] 34))) := keep_alloc8 (Below.refl _ _) _
  have X1 : Hid (XAt (w.alloc (.cells #[.slice fa F fc, .slice da D dc, .slice na N nc] 34)) w.heap.size [.slice fa F fc, .slice da D dc, .slice na N nc]) := XAt.new _ _ _
  have MA : Hid (∀ W, Below w.heap.size w W → Calls Tryz.prog 15 #[.agg #[.slice fa F fc, .slice da D dc, .slice na N nc]] W fun e w' => Says e (objOk o) ∧ Below W.heap.size W w') := fun W hW => may_any (HO.out.keep (Stay.of_below hW))
  obtain ⟨i0, hi, hz0, hz1, hz2⟩ := info_parts slS
  obtain ⟨FN, eFN⟩ : ∃ FN, FN = o.funcs.map (·.name) := ⟨_, rfl⟩
  obtain ⟨DN, eDN⟩ : ∃ DN, DN = o.datas.map (·.name) := ⟨_, rfl⟩
  have TF : Hid (∀ k x, o.funcs[k]? = some x → (FN.take k).length = k ∧ FN.take (k + 1) = FN.take k ++ [x.name]) := fun k x h => by rw [eFN]; exact take_names (·.name) h
  have TD : Hid (∀ k x, o.datas[k]? = some x → (DN.take k).length = k ∧ DN.take (k + 1) = DN.take k ++ [x.name]) := fun k x h => by rw [eDN]; exact take_names (·.name) h
  have LF : Hid (FN.length = F ∧ FN.take F = FN) := by rw [eFN, ← eF]; exact ⟨by simp, by rw [List.take_of_length_le (by simp)]⟩
  have LD : Hid (DN.length = D ∧ DN.take D = DN) := by rw [eDN, ← eD]; exact ⟨by simp, by rw [List.take_of_length_le (by simp)]⟩
  have HP : Hid ((namesL o).Nodup ∧ notesOk o ↔ (FN ++ DN).Nodup ∧ ∀ n ∈ o.notes, n.name ∈ FN) := by unfold Hid; rw [eFN, eDN]; exact Iff.rfl
  unfold maxLen at fm dm nm
  have hF' : (F : Int) ≤ 9223372036854775807 := by omega
  have hD' : (D : Int) ≤ 9223372036854775807 := by omega
  have hN' : (N : Int) ≤ 9223372036854775807 := by omega
  clear hf hd hn eF eD eN fx dx nx eFN eDN fm dm nm
  go_enter Tryz.func12, Tryz.ntmps12
  go_upto_region 1 with fail
  generalize w.alloc (.cells #[.slice fa F fc, .slice da D dc, .slice na N nc] 34) = w0 at UP X1 ⊢
  have hX : Hid (w.heap.size < w0.heap.size) := X1.out.lt (by simp)
  have y0 := X1.out.1 0 _ rfl
  have y1 := X1.out.1 1 _ rfl
  have y2 := X1.out.1 2 _ rfl
  by_cases hok : objOk o
  rotate_left
  · have OK : Hid (¬ objOk o) := hok
    have E : Hid (objE o = 4) := objE_may hok
    clear hok
    go_wp2_with (go_at_call 15; refine (MA.out _ UP.out).mono ?_; rintro e w1 ⟨hs, b1⟩; obtain rfl := hs.no OK.out; clear hs)
    go_ret
    exact ⟨ret_int E.out.symm, bnext UP.out b1⟩
  have OK : Hid (objOk o) := hok
  have FW : Hid (fewO o) := few_of_ok hok
  have hF : (F : Int) ≤ 70 := by have := FW.out.1.1; have := EF.out.1; omega
  have hD : (D : Int) ≤ 70 := by have := FW.out.1.2.1; have := EF.out.2.1; omega
  have hN : (N : Int) ≤ 70 := by have := FW.out.1.2.2; have := EF.out.2.2; omega
  clear hok hF' hD' hN'
  go_upto_region 3 with (go_at_call 15; refine (MA.out _ UP.out).mono ?_; rintro e w1 ⟨hs, b1⟩; obtain rfl := hs.yes OK.out; clear hs)
  have K1 : Hid (Below w0.heap.size w0 w1) := b1
  clear y0 y1 y2 b1 MA HO
  go_wp2
  go_loopw [4, 3] (fun i v wr => ∃ k : Nat, k ≤ F ∧ i = .int .i64 k ∧ (∀ j y, j < k → o.funcs[j]? = some y → fnE y = 0) ∧ OwnS wr w0.heap.size v (FN.take k) ∧ Below w0.heap.size w0 wr) (fun i _ _ => F - (intOf i).toNat)
  case atStart => exact ⟨0, Nat.zero_le _, rfl, (fun j y hj => by omega), ownS_nil _ _, K1.out⟩
  case round =>
    obtain ⟨k, hk, rfl, hs, hown, hbel⟩ := hrel
    have HB : Hid (Below w0.heap.size w0 wr) := hbel
    have HS : Hid (∀ j y, j < k → o.funcs[j]? = some y → fnE y = 0) := hs
    have HW : Hid (OwnS wr w0.heap.size u3 (FN.take k)) := hown
    have y0 := (X1.out.later hX.out HB.out).1 0 _ rfl
    clear hbel hown hs
    by_cases hlt : k < F
    · have hlt' : (k : Int) < F := by omega
      obtain ⟨b, off, ⟨xn, xb, lc, lr⟩, rfl, -, hx, vc, vr, x0, x1, x2, x3, wc, wr', hsz⟩ := FX.out k hlt
      dsimp only at x0 x1 x2 x3 wc wr' hsz
      obtain ⟨ca, cc, rfl, -, -, -⟩ := LstA.open (id wc.1)
      obtain ⟨ra, rc, rfl, -, -, -⟩ := LstA.open (id wr')
      have T1 : Hid ((FN.take k).length = k ∧ FN.take (k + 1) = FN.take k ++ [xn]) := TF.out k _ hx
      have HX : Hid (o.funcs[k]? = some ⟨xn, xb, lc, lr⟩) := hx
      have FC : Hid (∀ W, Below w.heap.size w W → Calls Tryz.prog 9 #[.agg #[.string xn, .int .i64 xb, .slice ca lc.length cc, .slice ra lr.length rc]] W fun e w' => e = .returned (.int .i64 (fnE ⟨xn, xb, lc, lr⟩)) ∧ Below W.heap.size W w') := fun W hW => by
        have hq := FW.out.2.1 _ (List.mem_of_getElem? hx)
        have hk := Stay.of_below (A := A) hW
        exact rfun_any (A := A) (f := ⟨xn, xb, lc, lr⟩) ⟨_, _, rfl, wc.keep hk, wr'.keep hk, hsz⟩ (by have := hq.1; omega) (by have := hq.2.1; omega)
      have BB : Hid (Below w.heap.size w wr) := bnext UP.out HB.out
      replace x0 := cell_any x0 BB.out
      replace x1 := cell_any x1 BB.out
      replace x2 := cell_any x2 BB.out
      replace x3 := cell_any x3 BB.out
      clear hx wc wr' hsz
      by_cases he : fnE ⟨xn, xb, lc, lr⟩ = 0
      rotate_left
      · have E : Hid (objE o = fnE ⟨xn, xb, lc, lr⟩) := objE_func OK.out (firstE_at HS.out HX.out he) he
        obtain ⟨x, ex⟩ : ∃ x, fnE ⟨xn, xb, lc, lr⟩ = x := ⟨_, rfl⟩
        rw [ex] at FC E he
        have g1 : (x != 0) = true := by simpa using he
        clear ex he
        go_wp2_with (go_at_call 9; refine (FC.out _ BB.out).mono ?_; rintro e w3 ⟨rfl, b3⟩)
        go_ret
        exact ⟨ret_int E.out.symm, bnext BB.out b3⟩
      rw [he] at FC
      have NX1 : Hid (∀ j y, j < k + 1 → o.funcs[j]? = some y → fnE y = 0) := upto_next HS.out HX.out he
      clear he
      generalize FN.take k = T at HW T1
      go_upto_region 10 with (go_at_call 9; refine (FC.out _ BB.out).mono ?_; rintro e w3 ⟨rfl, b3⟩)
      have B3 : Hid (Below w0.heap.size w0 w3) := bnext HB.out b3
      have HW3 : Hid (OwnS w3 w0.heap.size u3 T) := ownS_later HW.out b3
      replace x0 := cell_any x0 b3
      replace y0 := cell_any y0 b3
      clear x1 x2 x3 b3 FC
      go_wp2_with (at_builtin; refine wpList_append_own _ rfl _ _ 60 rfl w0.heap.size 9 i0 _ 1 16 Tryz.underlying60 hi hz0 hz1 hz2 rfl (by decide) _ _ _ rfl ((show w3.ownsRow w0.heap.size 9 1 u3 T.length (strC T) from HW3.out).alloc _) ⟨w3.heap.size, 0, none⟩ 1 1 [.string xn] rfl rfl ?c1 ?c2 ?c3 ?c4 ?c5 ?_)
      case c1 => exact new_one w3 (.string xn) 9
      case c2 => intro u hu; simp at hu; subst hu; rfl
      case c3 => have := T1.out.1; unfold maxLen; omega
      case c4 => have := T1.out.1; omega
      case c5 => have := B3.out.size; simp; omega
      intro v5 w5 own5 gr5 _
      have HB5 : Hid (Below w0.heap.size w0 w5) := (keep_alloc8 B3.out (.cells #[.string xn] 9)).grown gr5 (by have := B3.out.size; simp; omega) (fun q hq => (HW3.out.lt q hq).1)
      have HO5 : Hid (OwnS w5 w0.heap.size v5 (FN.take (k + 1))) := by unfold Hid; rw [T1.out.2]; exact ownS_more own5
      clear own5 gr5
      go_wp2
      go_roundw
      case rel => exact ⟨k + 1, by omega, by go_num, NX1.out, HO5.out, HB5.out⟩
      case measure => simp [intOf]; omega
    · obtain rfl : k = F := by omega
      have P2 : Hid (firstE fnE o.funcs = 0) := firstE_all (upto_all (P := fun y => fnE y = 0) (by rw [EF.out.1]; exact HS.out))
      have OF : Hid (OwnS wr w0.heap.size u3 FN) := by have h := HW.out; rwa [LF.out.2] at h
      clear HW HS
      go_wp2
      clear y0
      go_loopw [6, 3] (fun i v wr => ∃ k2 : Nat, k2 ≤ D ∧ i = .int .i64 k2 ∧ (∀ j y, j < k2 → o.datas[j]? = some y → rdataOk y) ∧ OwnS wr w0.heap.size v (FN ++ DN.take k2) ∧ Below w0.heap.size w0 wr) (fun i _ _ => D - (intOf i).toNat)
      case atStart => exact ⟨0, Nat.zero_le _, rfl, (fun j y hj => by omega), by rw [List.take_zero, List.append_nil]; exact OF.out, HB.out⟩
      case round =>
        clear HB OF
        obtain ⟨k2, hk2, rfl, hs, hown, hbel⟩ := hrel
        have HB : Hid (Below w0.heap.size w0 wr) := hbel
        have HS : Hid (∀ j y, j < k2 → o.datas[j]? = some y → rdataOk y) := hs
        have HW : Hid (OwnS wr w0.heap.size u3 (FN ++ DN.take k2)) := hown
        have y1 := (X1.out.later hX.out HB.out).1 1 _ rfl
        clear hbel hown hs
        by_cases hlt2 : k2 < D
        · have hlt2' : (k2 : Int) < D := by omega
          obtain ⟨b, off, ⟨xn, xb, xa, xf, xz, lb, lr⟩, rfl, -, hx, vb, vr, x0, x1, x2, x3, x4, x5, x6, wb, wr', hsz⟩ := DX.out k2 hlt2
          dsimp only at x0 x1 x2 x3 x4 x5 x6 wb wr' hsz
          obtain ⟨ca, cc, rfl, -, -, -⟩ := LstA.open (id wb.1)
          obtain ⟨ra, rc, rfl, -, -, -⟩ := LstA.open (id wr')
          have T1 : Hid ((FN ++ DN.take k2).length = k + k2 ∧ FN ++ DN.take (k2 + 1) = (FN ++ DN.take k2) ++ [xn]) := by
            obtain ⟨e1, e2⟩ := TD.out k2 _ hx
            unfold Hid
            rw [List.length_append, e1, LF.out.1, e2, List.append_assoc]
            exact ⟨rfl, rfl⟩
          have HX : Hid (o.datas[k2]? = some ⟨xn, xb, xa, xf, xz, lb, lr⟩) := hx
          obtain ⟨c, I⟩ := bool_of (rdataOk ⟨xn, xb, xa, xf, xz, lb, lr⟩)
          have FC : Hid (∀ W, Below w.heap.size w W → Calls Tryz.prog 23 #[.agg #[.string xn, .int .i64 xb, .int .i64 xa, .bool xf, .int .i64 xz, .slice ca lb.length cc, .slice ra lr.length rc]] W fun e w' => e = .returned (.bool c) ∧ Below W.heap.size W w') := fun W hW => by
            have hq := FW.out.2.2 _ (List.mem_of_getElem? hx)
            have hk := Stay.of_below (A := A) hW
            exact (rdata_any (A := A) (d := ⟨xn, xb, xa, xf, xz, lb, lr⟩) ⟨_, _, rfl, wb.keep hk, wr'.keep hk, hsz⟩ (by have := hq.1; omega) (by have := hq.2.1; omega)).mono fun e w' h => ⟨says_is h.1 I.out, h.2⟩
          have BB : Hid (Below w.heap.size w wr) := bnext UP.out HB.out
          replace x0 := cell_any x0 BB.out
          replace x1 := cell_any x1 BB.out
          replace x2 := cell_any x2 BB.out
          replace x3 := cell_any x3 BB.out
          replace x4 := cell_any x4 BB.out
          replace x5 := cell_any x5 BB.out
          replace x6 := cell_any x6 BB.out
          clear hx wb wr' hsz
          cases c
          · have E : Hid (objE o = 4) := objE_data OK.out P2.out (List.mem_of_getElem? HX.out) fun h => by have := I.out.2 h; cases this
            go_wp2_with (go_at_call 23; refine (FC.out _ BB.out).mono ?_; rintro e w3 ⟨rfl, b3⟩)
            go_ret
            exact ⟨ret_int E.out.symm, bnext BB.out b3⟩
          have NX1 : Hid (∀ j y, j < k2 + 1 → o.datas[j]? = some y → rdataOk y) := upto_next HS.out HX.out (I.out.1 rfl)
          generalize FN ++ DN.take k2 = T at HW T1
          go_upto_region 16 with (go_at_call 23; refine (FC.out _ BB.out).mono ?_; rintro e w3 ⟨rfl, b3⟩)
          have B3 : Hid (Below w0.heap.size w0 w3) := bnext HB.out b3
          have HW3 : Hid (OwnS w3 w0.heap.size u3 T) := ownS_later HW.out b3
          replace x0 := cell_any x0 b3
          replace y1 := cell_any y1 b3
          clear x1 x2 x3 x4 x5 x6 b3 FC
          go_wp2_with (at_builtin; refine wpList_append_own _ rfl _ _ 60 rfl w0.heap.size 9 i0 _ 1 16 Tryz.underlying60 hi hz0 hz1 hz2 rfl (by decide) _ _ _ rfl ((show w3.ownsRow w0.heap.size 9 1 u3 T.length (strC T) from HW3.out).alloc _) ⟨w3.heap.size, 0, none⟩ 1 1 [.string xn] rfl rfl ?c1 ?c2 ?c3 ?c4 ?c5 ?_)
          case c1 => exact new_one w3 (.string xn) 9
          case c2 => intro u hu; simp at hu; subst hu; rfl
          case c3 => have := T1.out.1; unfold maxLen; omega
          case c4 => have := T1.out.1; omega
          case c5 => have := B3.out.size; simp; omega
          intro v5 w5 own5 gr5 _
          have HB5 : Hid (Below w0.heap.size w0 w5) := (keep_alloc8 B3.out (.cells #[.string xn] 9)).grown gr5 (by have := B3.out.size; simp; omega) (fun q hq => (HW3.out.lt q hq).1)
          have HO5 : Hid (OwnS w5 w0.heap.size v5 (FN ++ DN.take (k2 + 1))) := by unfold Hid; rw [T1.out.2]; exact ownS_more own5
          clear own5 gr5
          go_wp2
          go_roundw
          case rel => exact ⟨k2 + 1, by omega, by go_num, NX1.out, HO5.out, HB5.out⟩
          case measure => simp [intOf]; omega
        · obtain rfl : k2 = D := by omega
          have P3 : Hid (∀ d ∈ o.datas, rdataOk d) := upto_all (P := fun y => rdataOk y) (by rw [EF.out.2.1]; exact HS.out)
          obtain ⟨NL, eNL⟩ : ∃ NL, FN ++ DN = NL := ⟨_, rfl⟩
          obtain ⟨L, eL⟩ : ∃ L, NL.length = L := ⟨_, rfl⟩
          have EL : Hid (NL.length = L ∧ L = k + k2) := ⟨eL, by rw [← eL, ← eNL, List.length_append, LF.out.1, LD.out.1]⟩
          have OF : Hid (OwnS wr w0.heap.size u3 NL) := by have h := HW.out; rwa [LD.out.2, eNL] at h
          have HP2 : Hid ((namesL o).Nodup ∧ notesOk o ↔ NL.Nodup ∧ ∀ n ∈ o.notes, n.name ∈ FN) := by have h := HP.out; rwa [eNL] at h
          have G4 : Hid (¬ (NL.Nodup ∧ ∀ n ∈ o.notes, n.name ∈ FN) → objE o = 4) := fun h => objE_names OK.out P2.out P3.out fun e => h (HP2.out.1 e)
          have G0 : Hid (NL.Nodup ∧ (∀ n ∈ o.notes, n.name ∈ FN) → objE o = 0) := fun h => objE_ok OK.out P2.out P3.out (HP2.out.2 h)
          obtain ⟨ga, gc, hu, hcs⟩ := ownS_cells OF.out
          rw [eL] at hu hcs
          subst hu
          have HCS : Hid (∀ j, j < L → ∃ g s, ga = some ⟨g, 0, none⟩ ∧ NL[j]? = some s ∧ wr.cell? ⟨g, j, none⟩ = some (.string s)) := hcs
          have hL : (L : Int) ≤ 140 := by have := EL.out.2; omega
          clear HW HS HP HP2 P2 P3 OF eL eNL hcs TD LD DX hi hz0 hz1 hz2
          go_wp2
          clear y1
          generalize wr = wa at HB HCS ⊢
          go_loopw [7] (fun i wr => ∃ p : Nat, p ≤ L ∧ i = .int .i64 p ∧ upNodup NL p ∧ Below wa.heap.size wa wr) (fun i _ => L - (intOf i).toNat)
          case atStart => exact ⟨0, Nat.zero_le _, rfl, (fun i j x y hi => by omega), Below.refl _ _⟩
          case round =>
            obtain ⟨p, hp, rfl, hs, hbel⟩ := hrel
            have HD : Hid (Below wa.heap.size wa wr) := hbel
            have HS : Hid (upNodup NL p) := hs
            clear hbel hs
            by_cases hlt3 : p < L
            · have hlt3' : (p : Int) < L := by omega
              obtain ⟨g, s, rfl, hsx, hsc⟩ := HCS.out p hlt3
              have HSX : Hid (NL[p]? = some s) := hsx
              have HSC : Hid (wa.cell? ⟨g, p, none⟩ = some (.string s)) := hsc
              clear hsx hsc
              go_wp2
              go_loopw [8] (fun i wr => ∃ q : Nat, q ≤ p ∧ i = .int .i64 q ∧ (∀ j y, j < q → NL[j]? = some y → s ≠ y) ∧ Below wa.heap.size wa wr) (fun i _ => p - (intOf i).toNat)
              case atStart => exact ⟨0, Nat.zero_le _, rfl, (fun j y hj => by omega), HD.out⟩
              case round =>
                clear HD
                obtain ⟨q, hq, rfl, hs, hbel⟩ := hrel
                have HD : Hid (Below wa.heap.size wa wr) := hbel
                have HT : Hid (∀ j y, j < q → NL[j]? = some y → s ≠ y) := hs
                clear hbel hs
                by_cases hlt4 : q < p
                · have hlt4' : (q : Int) < p := by omega
                  have hlt5' : (q : Int) < L := by omega
                  obtain ⟨g', t, e', htx, htc⟩ := HCS.out q (by omega)
                  simp only [Option.some.injEq, Addr.mk.injEq, and_true] at e'
                  obtain rfl := e'
                  have HTX : Hid (NL[q]? = some t) := htx
                  have z1 := cell_later' HSC.out HD.out
                  replace htc := cell_later' htc HD.out
                  clear htx
                  by_cases e : s = t
                  · subst e
                    have E : Hid (objE o = 4) := G4.out fun h => not_nodup hlt4 HSX.out HTX.out h.1
                    go_upto_region 23 with fail
                    go_quiet (fail)
                    go_wp2
                    go_ret
                    exact ⟨ret_int E.out.symm, below_drewN (bnext UP.out (bnext HB.out HD.out)) _⟩
                  · have R : Hid (∀ j y, j < q + 1 → NL[j]? = some y → s ≠ y) := upto_next (P := fun y => s ≠ y) HT.out HTX.out e
                    have g1 : (s.toList == t.toList) = false := str_ne e
                    go_upto_region 23 with fail
                    go_quiet (fail)
                    go_wp2
                    go_roundw
                    case rel => exact ⟨q + 1, by omega, by go_num, R.out, below_drewN HD.out _⟩
                    case measure => simp [intOf]; omega
                · obtain rfl : q = p := by omega
                  have R : Hid (upNodup NL (q + 1)) := upNodup_next HS.out HSX.out HT.out
                  go_wp2
                  go_roundw
                  case rel => exact ⟨q + 1, by omega, by go_num, R.out, HD.out⟩
                  case measure => simp [intOf]; omega
            · obtain rfl : p = L := by omega
              have ND : Hid (NL.Nodup) := upNodup_all (by rw [EL.out.1]; exact HS.out)
              have B1 : Hid (Below w0.heap.size w0 wr) := bnext HB.out HD.out
              replace G4 : Hid ((¬ ∀ n ∈ o.notes, n.name ∈ FN) → objE o = 4) := fun h => G4.out fun e => h e.2
              replace G0 : Hid ((∀ n ∈ o.notes, n.name ∈ FN) → objE o = 0) := fun h => G0.out ⟨ND.out, h⟩
              clear HS ND HCS HB HD
              have y2 := (X1.out.later hX.out B1.out).1 2 _ rfl
              go_wp2
              clear y2
              go_loopw [9] (fun i wr => ∃ t : Nat, t ≤ N ∧ i = .int .i64 t ∧ (∀ j y, j < t → o.notes[j]? = some y → y.name ∈ FN) ∧ Below w0.heap.size w0 wr) (fun i _ => N - (intOf i).toNat)
              case atStart => exact ⟨0, Nat.zero_le _, rfl, (fun j y hj => by omega), B1.out⟩
              case round =>
                clear B1
                obtain ⟨t, ht, rfl, hs, hbel⟩ := hrel
                have HB : Hid (Below w0.heap.size w0 wr) := hbel
                have HS : Hid (∀ j y, j < t → o.notes[j]? = some y → y.name ∈ FN) := hs
                have y2 := (X1.out.later hX.out HB.out).1 2 _ rfl
                clear hbel hs
                by_cases hlt6 : t < N
                · have hlt6' : (t : Int) < N := by omega
                  obtain ⟨nb, noff, ⟨xn, xk⟩, rfl, -, hx, n0, n1, -⟩ := NX.out t hlt6
                  dsimp only at n0 n1
                  have HX : Hid (o.notes[t]? = some ⟨xn, xk⟩) := hx
                  have N0 : Hid (w.cell? ⟨nb, noff + t * 2, none⟩ = some (.string xn)) := n0
                  clear hx n0 n1
                  go_wp2
                  go_loopw [10, 11] (fun f i wr => ∃ q : Nat, ∃ c : Bool, q ≤ k ∧ f = .bool c ∧ i = .int .i64 q ∧ (c = true ↔ xn ∈ FN.take q) ∧ Below w0.heap.size w0 wr) (fun _ i _ => k - (intOf i).toNat)
                  case atStart => exact ⟨0, false, Nat.zero_le _, rfl, rfl, by simp, HB.out⟩
                  case round =>
                    clear HB y2
                    obtain ⟨q, c, hq, rfl, rfl, hI, hbel⟩ := hrel
                    have HB : Hid (Below w0.heap.size w0 wr) := hbel
                    have I : Hid (c = true ↔ xn ∈ FN.take q) := hI
                    have y0 := (X1.out.later hX.out HB.out).1 0 _ rfl
                    have y2 := (X1.out.later hX.out HB.out).1 2 _ rfl
                    clear hbel hI
                    by_cases hlt7 : q < k
                    · have hlt7' : (q : Int) < k := by omega
                      obtain ⟨b, off, ⟨xm, xb, lc, lr⟩, rfl, -, hx, vc, vr, x0, -⟩ := FX.out q hlt7
                      dsimp only at x0
                      have T1 : Hid (FN.take (q + 1) = FN.take q ++ [xm]) := (TF.out q _ hx).2
                      have z0 := cell_any N0.out (bnext UP.out HB.out)
                      replace x0 := cell_any x0 (bnext UP.out HB.out)
                      clear hx
                      go_upto_region 32 with fail
                      cases c
                      · by_cases e : xm = xn
                        · subst e
                          have R : Hid (true = true ↔ xm ∈ FN.take (q + 1)) := by unfold Hid; rw [T1.out]; simp
                          go_quiet (fail)
                          go_wp2
                          go_roundw
                          case rel => exact ⟨q + 1, true, by omega, by first | rfl | simp, by go_num, R.out, below_drewN HB.out _⟩
                          case measure => simp [intOf]; omega
                        · have R : Hid (false = true ↔ xn ∈ FN.take (q + 1)) := by
                            unfold Hid
                            rw [T1.out, List.mem_append, ← I.out]
                            simp
                            exact fun h => e h.symm
                          have g1 : (xm.toList == xn.toList) = false := str_ne e
                          go_quiet (fail)
                          go_wp2
                          go_roundw
                          case rel => exact ⟨q + 1, false, by omega, by first | rfl | simp [g1], by go_num, R.out, below_drewN HB.out _⟩
                          case measure => simp [intOf]; omega
                      · have R : Hid (true = true ↔ xn ∈ FN.take (q + 1)) := by
                          unfold Hid
                          rw [T1.out, List.mem_append]
                          exact ⟨fun _ => .inl (I.out.1 rfl), fun _ => rfl⟩
                        go_quiet (fail)
                        go_wp2
                        go_roundw
                        case rel => exact ⟨q + 1, true, by omega, by first | rfl | simp, by go_num, R.out, below_drewN HB.out _⟩
                        case measure => simp [intOf]; omega
                    · obtain rfl : q = k := by omega
                      replace I : Hid (c = true ↔ xn ∈ FN) := by have h := I.out; rwa [LF.out.2] at h
                      cases c
                      · have E : Hid (objE o = 4) := G4.out fun h => by have h1 := h _ (List.mem_of_getElem? HX.out); have h2 := I.out.2 h1; cases h2
                        go_wp2
                        go_ret
                        exact ⟨ret_int E.out.symm, bnext UP.out HB.out⟩
                      · have R : Hid (∀ j y, j < t + 1 → o.notes[j]? = some y → y.name ∈ FN) := upto_next (P := fun y : NoteM => y.name ∈ FN) HS.out HX.out (I.out.1 rfl)
                        go_wp2
                        go_roundw
                        case rel => exact ⟨t + 1, by omega, by go_num, R.out, HB.out⟩
                        case measure => simp [intOf]; omega
                · obtain rfl : t = N := by omega
                  have E : Hid (objE o = 0) := G0.out (upto_all (α := NoteM) (P := fun n : NoteM => n.name ∈ FN) (by rw [EF.out.2.2]; exact HS.out))
                  go_wp2
                  go_ret
                  exact ⟨ret_int E.out.symm, bnext UP.out HB.out⟩
end Go.Proofs.YtnejpldbokodaaaGreatDoor
