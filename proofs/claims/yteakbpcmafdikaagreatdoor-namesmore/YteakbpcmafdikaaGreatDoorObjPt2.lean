/- What the code's own Write returns. -/
import Derived.Test.YteakbpcmafdikaaGreatDoorObjPt1
namespace Go.Proofs.YteakbpcmafdikaaGreatDoor
open Go.ChangeShapes Go.WideShapes Go.ChangeAt Go.RowKit
set_option linter.unusedVariables false
set_option linter.unusedSimpArgs false
set_option maxRecDepth 100000 in
set_option maxHeartbeats 2000000 in
theorem write_all {A : Nat → Prop} {w : World} {v : Value} {p : ObjM} (h : IsObj A w v p) : Calls Tryz.prog 65 #[v] w (WritePost w p) := by
  have HI := Hid.mk0 h
  have RT : Hid (∀ W, Below w.heap.size w W → Calls Tryz.prog 77 #[v] W fun e w' => Says e (objOk p) ∧ Below W.heap.size W w') := fun W hW => oright_any (h.keep (Stay.of_below hW))
  obtain ⟨vf, vd, vn, rfl, hf, hd, hn⟩ := h
  have HF := Hid.mk0 hf
  have HD := Hid.mk0 hd
  have HN := Hid.mk0 hn
  obtain ⟨fa, fc, rfl, -, -, -⟩ := LstA.open (id hf)
  obtain ⟨da, dc, rfl, -, -, -⟩ := LstA.open (id hd)
  obtain ⟨na, nc, rfl, -, -, -⟩ := LstA.open (id hn)
  clear hf hd hn
  have UP : Hid (Below w.heap.size w (w.alloc (.cells #[.slice fa p.funcs.length fc, .slice da p.datas.length dc, .slice na p.notes.length nc] 46))) := keep_alloc8 (Below.refl _ _) _
  have X1 : Hid (XAt (w.alloc (.cells #[.slice fa p.funcs.length fc, .slice da p.datas.length dc, .slice na p.notes.length nc] 46)) w.heap.size [.slice fa p.funcs.length fc, .slice da p.datas.length dc, .slice na p.notes.length nc]) := XAt.new _ _ _
  go_enter Tryz.func65, Tryz.ntmps65
  go_upto_region 1 with fail
  generalize w.alloc (.cells #[.slice fa p.funcs.length fc, .slice da p.datas.length dc, .slice na p.notes.length nc] 46) = w0 at UP X1 ⊢
  have hX : Hid (w.heap.size < w0.heap.size) := X1.out.lt (by simp)
  have y0 := X1.out.1 0 _ rfl
  have y1 := X1.out.1 1 _ rfl
  have y2 := X1.out.1 2 _ rfl
  by_cases ok : objOk p
  rotate_left
  · have NO := Hid.mk0 ok
    clear ok
    go_wp2_with (go_at_call 77; refine (RT.out _ UP.out).mono ?_; rintro e w1 ⟨hsay, b1⟩; obtain rfl := hsay.no' NO.out; clear hsay)
    exact bodyPost_ret (by simp [results, Tryz.results65, go_sem]) rfl ⟨.inr ⟨NO.out, none, 0, rfl⟩, bnext UP.out b1⟩
  have hT := objW_len p ok
  have OK := Hid.mk0 ok
  have HT := Hid.mk0 hT
  clear ok hT
  go_upto_region 3 with (go_at_call 77; refine (RT.out _ UP.out).mono ?_; rintro e w1 ⟨hsay, b1⟩; obtain rfl := hsay.yes' OK.out; clear hsay)
  have B1 : Hid (Below w0.heap.size w0 w1) := b1
  clear b1 y0 y1 y2
  have hcv := Lib.run_convert_bytes_const (P := Tryz.prog) w1 39 5 #[.int .u8 83, .int .u8 80, .int .u8 76, .int .u8 49] 4 4 Tryz.underlying39 Tryz.underlying5
  go_upto_region 4 with fail
  clear hcv
  have B2 : Hid (Below w1.heap.size w1 (w1.alloc (.cells #[.int .u8 83, .int .u8 80, .int .u8 76, .int .u8 49] 5 (4, 5)))) := keep_alloc8 (Below.refl _ _) _
  have C2 : Hid (∀ W, Below (w1.alloc (.cells #[.int .u8 83, .int .u8 80, .int .u8 76, .int .u8 49] 5 (4, 5))).heap.size (w1.alloc (.cells #[.int .u8 83, .int .u8 80, .int .u8 76, .int .u8 49] 5 (4, 5))) W → ∀ b, some (⟨w1.heap.size, 0, none⟩ : Addr) = some b → ∀ j u, (splL.map fun x => Value.int .u8 x)[j]? = some u → W.cell? (b.add j) = some u) := fun W hW b e j u hu => by
    cases e
    rw [show (⟨w1.heap.size, 0, none⟩ : Addr).add j = ⟨w1.heap.size, j, none⟩ from by cases j <;> simp [Addr.add]]
    refine cell_later' ?_ hW
    rw [World.cell?_alloc_mark, ← Array.getElem?_toList]
    exact hu
  generalize w1.alloc (.cells #[.int .u8 83, .int .u8 80, .int .u8 76, .int .u8 49] 5 (4, 5)) = w2 at B2 C2 ⊢
  have BW : Hid (Below w.heap.size w w2 ∧ Below w0.heap.size w0 w2) := ⟨bnext (bnext UP.out B1.out) B2.out, bnext B1.out B2.out⟩
  have HF2 : Hid (IsFuncs A w2 (.slice fa p.funcs.length fc) p.funcs) := HF.out.keep (Stay.of_below BW.out.1)
  have HD2 : Hid (IsDatas A w2 (.slice da p.datas.length dc) p.datas) := HD.out.keep (Stay.of_below BW.out.1)
  have HN2 : Hid (IsNotes A w2 (.slice na p.notes.length nc) p.notes) := HN.out.keep (Stay.of_below BW.out.1)
  have X2 : Hid (XAt w2 w.heap.size [.slice fa p.funcs.length fc, .slice da p.datas.length dc, .slice na p.notes.length nc] ∧ w.heap.size < w2.heap.size) := ⟨X1.out.later hX.out BW.out.2, Nat.lt_of_lt_of_le hX.out BW.out.2.size⟩
  have PF : Hid (Calls Tryz.prog 78 #[.slice (some ⟨w1.heap.size, 0, none⟩) 4 4, .slice fa p.funcs.length fc, .func (.func 79) #[] #[]] w2 fun e w' => ∃ v', e = .returned v' ∧ OwnB w2.heap.size w' v' (splL ++ listW funcW p.funcs) ∧ Below w2.heap.size w2 w') := by
    refine (put_funcs0 (base := w2.heap.size) (w0 := w2) (T := splL ++ digL 2 (p.funcs.length : Int)) (fun w3 v3 => OwnB w2.heap.size w3 v3 (splL ++ digL 2 (p.funcs.length : Int)) ∧ Below w2.heap.size w2 w3) HF2.out (Nat.le_refl _) (Below.refl _ _) (by have := OK.out.1.1; omega) OK.out.1.2 (put_num0 (cap := 4) C2.out rfl (by omega) _ 2 (by omega) (by have := OK.out.1.1; omega) (by omega) (by omega)) (fun w3 v3 h => ⟨h.1, h.2, h.2.size⟩) (by rw [List.length_append, digL_len, show splL.length = 4 from rfl]; have := HT.out; omega)).mono ?_
    rintro e w' ⟨w3, v3, v', h1, rfl, h2⟩
    refine ⟨v', rfl, ?_, h1.2.trans (h2.below (fun q hq => (own_q h1.1 q hq).1) h1.2.size)⟩
    have e : splL ++ listW funcW p.funcs = splL ++ digL 2 (p.funcs.length : Int) ++ flatW funcW p.funcs := by unfold listW; rw [List.append_assoc]
    rw [e]; exact h2.own
  have y0 := X2.out.1.1 0 _ rfl
  clear HF HD HN HF2 HI RT C2
  obtain ⟨U1, eU1⟩ : ∃ U, splL ++ listW funcW p.funcs = U := ⟨_, rfl⟩
  have ZU1 : Hid (U1.length = 6 + (flatW funcW p.funcs).length) := by rw [← eU1]; unfold listW Hid; simp only [List.length_append, digL_len, show splL.length = 4 from rfl]; omega
  have EU1 := Hid.mk0 eU1
  rw [eU1] at PF
  clear eU1
  go_upto_region 5 with (go_at_call 78; refine PF.out.mono ?_; rintro e w3 ⟨v3, rfl, o3, b3⟩)
  have y1 := (X2.out.1.later X2.out.2 b3).1 1 _ rfl
  have O3 := Hid.mk0 o3
  have B3 := Hid.mk0 b3
  clear y0 o3 b3 PF
  have PD : Hid (Calls Tryz.prog 80 #[v3, .slice da p.datas.length dc, .func (.func 81) #[] #[]] w3 fun e w' => ∃ v', e = .returned v' ∧ OwnB w2.heap.size w' v' (U1 ++ listW dataW p.datas) ∧ Below w2.heap.size w2 w') := by
    refine (put_datas HD2.out (Nat.le_refl _) B3.out O3.out B3.out.size (by have := OK.out.2.1.1; omega) OK.out.2.1.2 (by unfold listW; simp only [List.length_append, digL_len]; have := HT.out; have := ZU1.out; omega)).mono ?_
    rintro e w' ⟨v', rfl, h2⟩
    exact ⟨v', rfl, h2.own, B3.out.trans (h2.below (fun q hq => (own_q O3.out q hq).1) B3.out.size)⟩
  obtain ⟨U2, eU2⟩ : ∃ U, U1 ++ listW dataW p.datas = U := ⟨_, rfl⟩
  have ZU2 : Hid (U2.length = 8 + (flatW funcW p.funcs).length + (flatW dataW p.datas).length) := by rw [← eU2]; unfold listW Hid; simp only [List.length_append, digL_len]; have := ZU1.out; omega
  have EU2 := Hid.mk0 eU2
  rw [eU2] at PD
  clear eU2
  go_upto_region 6 with (go_at_call 80; refine PD.out.mono ?_; rintro e w4 ⟨v4, rfl, o4, b4⟩)
  have y2 := (X2.out.1.later X2.out.2 b4).1 2 _ rfl
  have O4 := Hid.mk0 o4
  have B4 := Hid.mk0 b4
  clear y1 o4 b4 PD
  have PN : Hid (Calls Tryz.prog 82 #[v4, .slice na p.notes.length nc, .func (.func 83) #[] #[]] w4 fun e w' => ∃ v', e = .returned v' ∧ OwnB w2.heap.size w' v' (U2 ++ listW noteW p.notes) ∧ Below w2.heap.size w2 w') := by
    refine (put_notes HN2.out (Nat.le_refl _) B4.out O4.out B4.out.size (by have := OK.out.2.2.1; omega) OK.out.2.2.2 (by unfold listW; simp only [List.length_append, digL_len]; have := HT.out; have := ZU2.out; omega)).mono ?_
    rintro e w' ⟨v', rfl, h2⟩
    exact ⟨v', rfl, h2.own, B4.out.trans (h2.below (fun q hq => (own_q O4.out q hq).1) B4.out.size)⟩
  go_wp2_with (go_at_call 82; refine PN.out.mono ?_; rintro e w5 ⟨v5, rfl, o5, b5⟩)
  have fin : OwnB w.heap.size w5 v5 (objW p) := by
    have e : objW p = U2 ++ listW noteW p.notes := by rw [← EU2.out, ← EU1.out]; unfold objW; simp only [List.append_assoc]
    rw [e]; exact own_less o5 (Nat.le_of_lt X2.out.2)
  exact bodyPost_ret (by simp [results, Tryz.results65, go_sem]) rfl ⟨.inl ⟨OK.out, v5, rfl, fin⟩, bnext BW.out.1 b5⟩
end Go.Proofs.YteakbpcmafdikaaGreatDoor
