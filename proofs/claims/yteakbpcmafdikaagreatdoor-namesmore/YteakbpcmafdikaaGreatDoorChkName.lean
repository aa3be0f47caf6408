/- Has each of an object's functions and data a name of its own, and is each note's a function's? As the code has it. -/
import Derived.Test.YteakbpcmafdikaaGreatDoorNmStr
import Derived.Test.YteakbpcmafdikaaGreatDoorNmMath
import Derived.Test.YteakbpcmafdikaaGreatDoorNmPut
namespace Go.Proofs.YteakbpcmafdikaaGreatDoor
open Go.ChangeShapes Go.WideShapes Go.ChangeAt Go.RowKit Go.Sort Go.Shelf
set_option linter.unusedVariables false
set_option linter.unusedSimpArgs false
def namesOk (o : ObjM) : Prop := (namesL o).Nodup ∧ notesOk o
theorem add0 (g j : Nat) : (⟨g, 0, none⟩ : Addr).add j = ⟨g, j, none⟩ := by cases j <;> simp [Addr.add]
/-- The cell of a new block of one. -/
theorem new_one (w : World) (x : Value) (t : TypeId) : ∀ j u, ([x] : List Value)[j]? = some u → (w.alloc (.cells #[x] t)).cell? ((⟨w.heap.size, 0, none⟩ : Addr).add j) = some u := fun j u h => by
  rw [add0]; exact new_cell' w #[x] t j u (by simpa using h)
theorem take_names {α : Type} {l : List α} {k : Nat} {x : α} (f : α → ByteArray) (h : l[k]? = some x) : ((l.map f).take k).length = k ∧ (l.map f).take (k + 1) = (l.map f).take k ++ [f x] := by
  have hk := (List.getElem?_eq_some_iff.1 h).1
  refine ⟨by rw [List.length_take, List.length_map]; omega, ?_⟩
  rw [List.take_add_one, List.getElem?_map, h]
  rfl
/-- One name more. -/
theorem ownS_more {w : World} {base : Nat} {v : Value} {L : List ByteArray} {x : ByteArray} (h : w.ownsRow base 9 1 v (L.length + 1) (strC L ++ [.string x])) : OwnS w base v (L ++ [x]) := by
  unfold OwnS
  rw [List.length_append, strC, List.map_append]
  exact h
section
variable {A : Nat → Prop} {w : World} {u v : Value}
set_option maxRecDepth 100000 in
set_option maxHeartbeats 4000000 in
theorem named_obj {o : ObjM} (h : IsObj A w u o) (hfew : fewO o) : Calls Tryz.prog 69 #[u] w fun e w' => Says e (namesOk o) ∧ Below w.heap.size w w' := by
  obtain ⟨vf, vd, vn, rfl, hf, hd, hn⟩ := h
  obtain ⟨fa, fc, rfl, -, -, fx⟩ := LstA.open hf
  obtain ⟨da, dc, rfl, -, -, dx⟩ := LstA.open hd
  obtain ⟨na, nc, rfl, -, -, nx⟩ := LstA.open hn
  have hF := hfew.1.1
  have hD := hfew.1.2.1
  have hN := hfew.1.2.2
  obtain ⟨F, eF⟩ : ∃ F, o.funcs.length = F := ⟨_, rfl⟩
  obtain ⟨D, eD⟩ : ∃ D, o.datas.length = D := ⟨_, rfl⟩
  obtain ⟨N, eN⟩ : ∃ N, o.notes.length = N := ⟨_, rfl⟩
  rw [eF] at hF fx ⊢
  rw [eD] at hD dx ⊢
  rw [eN] at hN nx ⊢
  have EF : Hid (o.funcs.length = F ∧ o.datas.length = D ∧ o.notes.length = N ∧ F ≤ 70 ∧ D ≤ 70 ∧ N ≤ 70) := ⟨eF, eD, eN, hF, hD, hN⟩
  have FX : Hid (∀ k, k < F → ∃ b off x, fa = some ⟨b, off, none⟩ ∧ A b ∧ o.funcs[k]? = some x ∧ FuncAt A w b (off + k * 4) x) := fx
  have DX : Hid (∀ k, k < D → ∃ b off x, da = some ⟨b, off, none⟩ ∧ A b ∧ o.datas[k]? = some x ∧ DataAt A w b (off + k * 7) x) := dx
  have NX : Hid (∀ k, k < N → ∃ b off x, na = some ⟨b, off, none⟩ ∧ A b ∧ o.notes[k]? = some x ∧ NoteAt w b (off + k * 2) x) := nx
  have hF' : (F : Int) ≤ 70 := by omega
  have hD' : (D : Int) ≤ 70 := by omega
  have hN' : (N : Int) ≤ 70 := by omega
  have UP : Hid (Below w.heap.size w (w.alloc (.cells #[.slice fa F fc, .slice da D dc, .slice na N nc] 46))) := keep_alloc8 (Below.refl _ _) _
  have X1 : Hid (XAt (w.alloc (.cells #[.slice fa F fc, .slice da D dc, .slice na N nc] 46)) w.heap.size [.slice fa F fc, .slice da D dc, .slice na N nc]) := XAt.new _ _ _
  obtain ⟨i0, hi, hz0, hz1, hz2⟩ := info_parts slS
  obtain ⟨FN, eFN⟩ : ∃ FN, FN = o.funcs.map (·.name) := ⟨_, rfl⟩
  obtain ⟨DN, eDN⟩ : ∃ DN, DN = o.datas.map (·.name) := ⟨_, rfl⟩
  have TF : Hid (∀ k x, o.funcs[k]? = some x → (FN.take k).length = k ∧ FN.take (k + 1) = FN.take k ++ [x.name]) := fun k x h => by rw [eFN]; exact take_names (·.name) h
  have TD : Hid (∀ k x, o.datas[k]? = some x → (DN.take k).length = k ∧ DN.take (k + 1) = DN.take k ++ [x.name]) := fun k x h => by rw [eDN]; exact take_names (·.name) h
  have LF : Hid (FN.length = F ∧ FN.take F = FN) := by rw [eFN, ← eF]; exact ⟨by simp, by rw [List.take_of_length_le (by simp)]⟩
  have LD : Hid (DN.length = D ∧ DN.take D = DN) := by rw [eDN, ← eD]; exact ⟨by simp, by rw [List.take_of_length_le (by simp)]⟩
  have HP : Hid (namesOk o ↔ (FN ++ DN).Nodup ∧ ∀ n ∈ o.notes, n.name ∈ FN) := by unfold Hid; rw [eFN, eDN]; exact Iff.rfl
  clear hf hd hn eF eD eN fx dx nx hF hD hN hfew eFN eDN
  go_enter Tryz.func69, Tryz.ntmps69
  go_upto_region 1 with fail
  generalize w.alloc (.cells #[.slice fa F fc, .slice da D dc, .slice na N nc] 46) = w0 at UP X1 ⊢
  have hX : Hid (w.heap.size < w0.heap.size) := X1.out.lt (by simp)
  have y0 := X1.out.1 0 _ rfl
  go_wp2
  clear y0
  go_loopw [15, 3] (fun i v wr => ∃ k : Nat, k ≤ F ∧ i = .int .i64 k ∧ OwnS wr w0.heap.size v (FN.take k) ∧ Below w0.heap.size w0 wr) (fun i _ _ => F - (intOf i).toNat)
  case atStart => exact ⟨0, Nat.zero_le _, rfl, ownS_nil _ _, Below.refl _ _⟩
  case round =>
    obtain ⟨k, hk, rfl, hown, hbel⟩ := hrel
    have HB : Hid (Below w0.heap.size w0 wr) := hbel
    have HO : Hid (OwnS wr w0.heap.size u3 (FN.take k)) := hown
    clear hbel hown
    by_cases hlt : k < F
    · have hlt' : (k : Int) < F := by omega
      obtain ⟨b, off, ⟨xn, xb, lc, lr⟩, rfl, -, hx, vc, vr, x0, x1, x2, x3, wc, wr', -⟩ := FX.out k hlt
      dsimp only at x0 x1 wc wr'
      obtain ⟨ca, cc, rfl, -, -, -⟩ := LstA.open wc.1
      obtain ⟨ra, rc, rfl, -, -, -⟩ := LstA.open wr'
      have T1 : Hid ((FN.take k).length = k ∧ FN.take (k + 1) = FN.take k ++ [xn]) := TF.out k _ hx
      replace x0 := cell_any x0 (bnext UP.out HB.out)
      replace x1 := cell_any x1 (bnext UP.out HB.out)
      replace x2 := cell_any x2 (bnext UP.out HB.out)
      replace x3 := cell_any x3 (bnext UP.out HB.out)
      clear hx wc wr'
      generalize FN.take k = T at HO T1
      go_upto_region 5 with fail
      have B2 : Hid (Below w0.heap.size w0 (wr.alloc (.cells #[.string xn, .int .i64 xb, .slice ca lc.length cc, .slice ra lr.length rc] 50))) := keep_alloc8 HB.out _
      have X3 : Hid (XAt (wr.alloc (.cells #[.string xn, .int .i64 xb, .slice ca lc.length cc, .slice ra lr.length rc] 50)) wr.heap.size [.string xn, .int .i64 xb, .slice ca lc.length cc, .slice ra lr.length rc]) := XAt.new _ _ _
      have HO2 : Hid (OwnS (wr.alloc (.cells #[.string xn, .int .i64 xb, .slice ca lc.length cc, .slice ra lr.length rc] 50)) w0.heap.size u3 T) := ownS_later HO.out (keep_alloc8 (Below.refl _ _) _)
      generalize wr.alloc (.cells #[.string xn, .int .i64 xb, .slice ca lc.length cc, .slice ra lr.length rc] 50) = w2 at B2 X3 HO2 ⊢
      clear x0 x1 x2 x3
      have x0 := X3.out.1 0 _ rfl
      go_wp2_with (at_builtin; refine wpList_append_own _ rfl _ _ 83 rfl w0.heap.size 9 i0 _ 1 16 Tryz.underlying83 hi hz0 hz1 hz2 rfl (by decide) _ _ _ rfl ((show w2.ownsRow w0.heap.size 9 1 u3 T.length (strC T) from HO2.out).alloc _) ⟨w2.heap.size, 0, none⟩ 1 1 [.string xn] rfl rfl ?c1 ?c2 ?c3 ?c4 ?c5 ?_)
      case c1 => exact new_one w2 (.string xn) 9
      case c2 => intro u hu; simp at hu; subst hu; rfl
      case c3 => have := T1.out.1; unfold maxLen; omega
      case c4 => have := T1.out.1; omega
      case c5 => have := B2.out.size; simp; omega
      intro v5 w5 own5 gr5 _
      have HB5 : Hid (Below w0.heap.size w0 w5) := (keep_alloc8 B2.out (.cells #[.string xn] 9)).grown gr5 (by have := B2.out.size; simp; omega) (fun q hq => (HO2.out.lt q hq).1)
      have HO5 : Hid (OwnS w5 w0.heap.size v5 (FN.take (k + 1))) := by unfold Hid; rw [T1.out.2]; exact ownS_more own5
      clear own5 gr5
      go_wp2
      go_roundw
      case rel => exact ⟨k + 1, by omega, by go_num, HO5.out, HB5.out⟩
      case measure => simp [intOf]; omega
    · obtain rfl : k = F := by omega
      have OF : Hid (OwnS wr w0.heap.size u3 FN) := by have h := HO.out; rwa [LF.out.2] at h
      have y1 := (X1.out.later hX.out HB.out).1 1 _ rfl
      clear HO
      go_wp2
      clear y1
      generalize wr = wa at HB OF ⊢
      go_loopw [28, 4] (fun i v wr => ∃ j : Nat, j ≤ D ∧ i = .int .i64 j ∧ OwnS wr wa.heap.size v (DN.take j) ∧ Below wa.heap.size wa wr) (fun i _ _ => D - (intOf i).toNat)
      case atStart => exact ⟨0, Nat.zero_le _, rfl, ownS_nil _ _, Below.refl _ _⟩
      case round =>
        obtain ⟨j, hj, rfl, hown, hbel⟩ := hrel
        have HC : Hid (Below wa.heap.size wa wr) := hbel
        have HO : Hid (OwnS wr wa.heap.size u4 (DN.take j)) := hown
        clear hbel hown
        by_cases hlt2 : j < D
        · have hlt2' : (j : Int) < D := by omega
          obtain ⟨b, off, ⟨xn, xb, xa, xf, xz, lb, lr⟩, rfl, -, hx, vb, vr, x0, x1, x2, x3, x4, x5, x6, wb, wr', -⟩ := DX.out j hlt2
          dsimp only at x0 x1 x2 x3 x4 wb wr'
          obtain ⟨ca, cc, rfl, -, -, -⟩ := LstA.open wb.1
          obtain ⟨ra, rc, rfl, -, -, -⟩ := LstA.open wr'
          have T1 : Hid ((DN.take j).length = j ∧ DN.take (j + 1) = DN.take j ++ [xn]) := TD.out j _ hx
          have B1 := bnext (bnext UP.out HB.out) HC.out
          replace x0 := cell_any x0 B1
          replace x1 := cell_any x1 B1
          replace x2 := cell_any x2 B1
          replace x3 := cell_any x3 B1
          replace x4 := cell_any x4 B1
          replace x5 := cell_any x5 B1
          replace x6 := cell_any x6 B1
          clear hx wb wr' B1
          generalize DN.take j = T at HO T1
          go_upto_region 10 with fail
          have B2 : Hid (Below wa.heap.size wa (wr.alloc (.cells #[.string xn, .int .i64 xb, .int .i64 xa, .bool xf, .int .i64 xz, .slice ca lb.length cc, .slice ra lr.length rc] 52))) := keep_alloc8 HC.out _
          have X3 : Hid (XAt (wr.alloc (.cells #[.string xn, .int .i64 xb, .int .i64 xa, .bool xf, .int .i64 xz, .slice ca lb.length cc, .slice ra lr.length rc] 52)) wr.heap.size [.string xn, .int .i64 xb, .int .i64 xa, .bool xf, .int .i64 xz, .slice ca lb.length cc, .slice ra lr.length rc]) := XAt.new _ _ _
          have HO2 : Hid (OwnS (wr.alloc (.cells #[.string xn, .int .i64 xb, .int .i64 xa, .bool xf, .int .i64 xz, .slice ca lb.length cc, .slice ra lr.length rc] 52)) wa.heap.size u4 T) := ownS_later HO.out (keep_alloc8 (Below.refl _ _) _)
          generalize wr.alloc (.cells #[.string xn, .int .i64 xb, .int .i64 xa, .bool xf, .int .i64 xz, .slice ca lb.length cc, .slice ra lr.length rc] 52) = w2 at B2 X3 HO2 ⊢
          clear x0 x1 x2 x3 x4 x5 x6
          have x0 := X3.out.1 0 _ rfl
          go_wp2_with (at_builtin; refine wpList_append_own _ rfl _ _ 83 rfl wa.heap.size 9 i0 _ 1 16 Tryz.underlying83 hi hz0 hz1 hz2 rfl (by decide) _ _ _ rfl ((show w2.ownsRow wa.heap.size 9 1 u4 T.length (strC T) from HO2.out).alloc _) ⟨w2.heap.size, 0, none⟩ 1 1 [.string xn] rfl rfl ?c1 ?c2 ?c3 ?c4 ?c5 ?_)
          case c1 => exact new_one w2 (.string xn) 9
          case c2 => intro u hu; simp at hu; subst hu; rfl
          case c3 => have := T1.out.1; unfold maxLen; omega
          case c4 => have := T1.out.1; omega
          case c5 => have := B2.out.size; simp; omega
          intro v5 w5 own5 gr5 _
          have HB5 : Hid (Below wa.heap.size wa w5) := (keep_alloc8 B2.out (.cells #[.string xn] 9)).grown gr5 (by have := B2.out.size; simp; omega) (fun q hq => (HO2.out.lt q hq).1)
          have HO5 : Hid (OwnS w5 wa.heap.size v5 (DN.take (j + 1))) := by unfold Hid; rw [T1.out.2]; exact ownS_more own5
          clear own5 gr5
          go_wp2
          go_roundw
          case rel => exact ⟨j + 1, by omega, by go_num, HO5.out, HB5.out⟩
          case measure => simp [intOf]; omega
        · obtain rfl : j = D := by omega
          have OD : Hid (OwnS wr wa.heap.size u4 DN) := by have h := HO.out; rwa [LD.out.2] at h
          have OF2 : Hid (OwnS wr w0.heap.size u3 FN) := ownS_later OF.out HC.out
          have HB2 : Hid (Below w0.heap.size w0 wr) := bnext HB.out HC.out
          have y2 := (X1.out.later hX.out HB2.out).1 2 _ rfl
          clear HO OF HB HC
          go_wp2
          clear y2
          generalize wr = wb at HB2 OF2 OD ⊢
          go_loopw [41] (fun i wr => ∃ q : Nat, q ≤ N ∧ i = .int .i64 q ∧ (∀ t y, t < q → o.notes[t]? = some y → y.name ∈ FN) ∧ Below wb.heap.size wb wr) (fun i _ => N - (intOf i).toNat)
          case atStart => exact ⟨0, Nat.zero_le _, rfl, (fun t y ht => by omega), Below.refl _ _⟩
          case round =>
            obtain ⟨q, hq, rfl, hs, hbel⟩ := hrel
            have HC : Hid (Below wb.heap.size wb wr) := hbel
            have HS : Hid (∀ t y, t < q → o.notes[t]? = some y → y.name ∈ FN) := hs
            clear hbel hs
            by_cases hlt3 : q < N
            · have hlt3' : (q : Int) < N := by omega
              obtain ⟨b, off, ⟨xn, xk⟩, rfl, -, hx, x0, x1, -⟩ := NX.out q hlt3
              dsimp only at x0 x1
              have HX : Hid (o.notes[q]? = some ⟨xn, xk⟩) := hx
              have B1 := bnext (bnext UP.out HB2.out) HC.out
              replace x0 := cell_any x0 B1
              replace x1 := cell_any x1 B1
              clear hx B1
              go_upto_region 15 with fail
              have B2 : Hid (Below wb.heap.size wb (wr.alloc (.cells #[.string xn, .int .i64 xk] 87))) := keep_alloc8 HC.out _
              have X3 : Hid (XAt (wr.alloc (.cells #[.string xn, .int .i64 xk] 87)) wr.heap.size [.string xn, .int .i64 xk]) := XAt.new _ _ _
              generalize wr.alloc (.cells #[.string xn, .int .i64 xk] 87) = w2 at B2 X3 ⊢
              clear x0 x1
              have x0 := X3.out.1 0 _ rfl
              obtain ⟨c, I⟩ := bool_of (xn ∈ FN)
              have CN : Hid (Calls Tryz.prog 89 #[u3, .string xn] w2 fun e w' => e = .returned (.bool c) ∧ w' = w2) := (contains_s (ownS_later OF2.out B2.out) (by have := LF.out.1; have := EF.out; omega) xn).mono fun e w' h => ⟨says_is h.1 I.out, h.2⟩
              cases c
              · go_wp2_with (go_at_call 89; refine (CN.out).mono ?_; rintro e w3 ⟨rfl, rfl⟩)
                go_ret
                exact ⟨⟨_, rfl, iff_no fun h => by have h1 := (HP.out.1 h).2 _ (List.mem_of_getElem? HX.out); have h2 := I.out.2 h1; cases h2⟩, bnext (bnext UP.out HB2.out) B2.out⟩
              · go_wp2_with (go_at_call 89; refine (CN.out).mono ?_; rintro e w3 ⟨rfl, rfl⟩)
                go_roundw
                case rel => exact ⟨q + 1, by omega, by go_num, upto_next HS.out HX.out (I.out.1 (by first | rfl | trivial)), B2.out⟩
                case measure => simp [intOf]; omega
            · obtain rfl : q = N := by omega
              have HA : Hid (∀ n ∈ o.notes, n.name ∈ FN) := upto_all (α := NoteM) (P := fun n : NoteM => n.name ∈ FN) (by rw [EF.out.2.2.1]; exact HS.out)
              have CC : Hid (∀ W p, Below wr.heap.size wr W → W.cell? ⟨p, 0, none⟩ = some u3 → W.cell? ⟨p, 1, none⟩ = some u4 → Calls Tryz.prog 90 #[.slice (some ⟨p, 0, none⟩) 2 2] W fun e w' => ∃ v', e = .returned v' ∧ OwnS w' W.heap.size v' (FN ++ DN) ∧ Below W.heap.size W w') := fun W p hW p0 p1 => concat_s W p u3 u4 FN DN (by have := LF.out.1; have := LD.out.1; have := EF.out; omega) (ownS_later OF2.out (bnext HC.out hW)) (ownS_later OD.out (bnext HC.out hW)) p0 p1
              have hl : (FN ++ DN).length ≤ 100000 := by rw [List.length_append]; have := LF.out.1; have := LD.out.1; have := EF.out; omega
              have HL : Hid ((FN ++ DN).length ≤ 100000) := hl
              clear hl HS
              obtain ⟨oa, oc, ou, -, -⟩ := ownS_src OF2.out
              obtain ⟨pa, pc, pu, -, -⟩ := ownS_src OD.out
              subst ou pu
              go_upto_region 19 with (go_at_call 90; refine (CC.out _ _ (keep_alloc8 (Below.refl _ _) _) (new_cell' _ _ _ 0 _ rfl) (new_cell' _ _ _ 1 _ rfl)).mono ?_; rintro e w3 ⟨v3, rfl, o3, b3⟩)
              have B3 : Hid (Below wr.heap.size wr w3) := bnext (keep_alloc8 (Below.refl _ _) _) b3
              have O3 : Hid (OwnS w3 wr.heap.size v3 (FN ++ DN)) := own_mono o3 (by simp)
              clear o3 b3
              obtain ⟨qa, qc, qu, -, -⟩ := ownS_src O3.out
              subst qu
              have SO := sort_s O3.out HL.out
              obtain ⟨ND, eND⟩ : ∃ ND, ND = FN ++ DN := ⟨_, rfl⟩
              rw [← eND] at SO HL HP
              rw [← eND]
              clear eND O3 CC
              have CO : Hid (∀ W, SortedS W wr.heap.size (.slice qa ND.length qc) ND → Calls Tryz.prog 92 #[.slice qa ND.length qc] W fun e w' => ∃ a k cap, e = .returned (.slice a k cap) ∧ (k = ND.length ↔ ND.Nodup) ∧ k ≤ 100000 ∧ Below wr.heap.size W w') := fun W h => compact_s h HL.out
              generalize ND.length = L at SO CO HL ⊢
              have SO' : Hid (Calls Tryz.prog 91 #[.slice qa L qc] w3 fun e w' => e = .returned (.tuple #[]) ∧ SortedS w' wr.heap.size (.slice qa L qc) ND ∧ Below wr.heap.size w3 w') := SO
              clear SO
              go_upto_region 20 with (go_at_call 91; refine (SO'.out).mono ?_; rintro e w4 ⟨rfl, s4, b4⟩)
              have B4 : Hid (Below wr.heap.size wr w4) := B3.out.trans b4
              have C4 := CO.out _ s4
              have C4' : Hid (Calls Tryz.prog 92 #[.slice qa L qc] w4 fun e w' => ∃ a k cap, e = .returned (.slice a k cap) ∧ (k = L ↔ ND.Nodup) ∧ k ≤ 100000 ∧ Below wr.heap.size w4 w') := C4
              clear C4 b4 s4 CO
              go_wp2_with (go_at_call 92; refine (C4'.out).mono ?_; rintro e w5 ⟨a5, k5, c5, rfl, hk5, hl5, b5⟩; have K5 := Hid.mk0 hk5; clear hk5)
              go_ret
              refine ⟨⟨_, rfl, ?_⟩, bnext (bnext UP.out HB2.out) (bnext HC.out (B4.out.trans b5))⟩
              rw [HP.out]
              refine ⟨fun h => ⟨K5.out.1 ?_, HA.out⟩, fun h => ?_⟩
              · have h1 : (k5 : Int) = (L : Int) := by simpa using h
                omega
              · have := K5.out.2 h.1; simp [this]
end
end Go.Proofs.YteakbpcmafdikaaGreatDoor
