/- What names.program answers of what is chosen. No condition. -/
import Derived.Test.YteakbpcmafdikaaGreatDoorNamProgM
namespace Go.Proofs.YteakbpcmafdikaaGreatDoor
open Go.ChangeShapes Go.WideShapes Go.ChangeAt Go.RowKit Go.Maps
set_option linter.unusedVariables false
set_option linter.unusedSimpArgs false
theorem rels_err {all fs ds : List ItemM} {o : Nat} {l : List RelM} {x : Int} (h : relsZ all fs ds o l = .error x) : x = 6 ∨ x = 9 := by
  unfold relsZ at h
  induction l with
  | nil => cases h
  | cons r l ih =>
    unfold eachE at h
    cases hr : relZ all fs ds o r with
    | error e =>
      rw [hr] at h
      cases h
      unfold relZ at hr
      split at hr
      · cases hr; exact .inl rfl
      · split at hr
        · cases hr; exact .inr rfl
        · cases hr
    | ok q =>
      rw [hr] at h
      dsimp only at h
      cases hl : eachE (relZ all fs ds o) l with
      | error e => rw [hl] at h; cases h; exact ih hl
      | ok p => rw [hl] at h; cases h
/-- Parts stand for what is chosen. -/
theorem parts_f {l : List ObjM} {LF : List PF} (h : LF.map pfM = CF l (itemsL l)) : (chosenZ (itemsL l) false).length = LF.length ∧ (∀ (i : Nat) x, LF[i]? = some x → ∃ y, (chosenZ (itemsL l) false)[i]? = some y ∧ x.1 = y.obj ∧ x.2.1 = funcOf l y) := by
  have h' : LF.map pfM = (chosenZ (itemsL l) false).map (partF l) := h
  refine ⟨by have := congrArg List.length h'; simpa using this.symm, fun i x hx => ?_⟩
  have k := congrArg (fun m => m[i]?) h'
  simp only [List.getElem?_map, hx, Option.map_some] at k
  cases hy : (chosenZ (itemsL l) false)[i]? with
  | none => rw [hy] at k; cases k
  | some y =>
    rw [hy] at k
    simp only [Option.map_some, Option.some.injEq, pfM, partF, Prod.mk.injEq] at k
    exact ⟨y, rfl, k.1, k.2⟩
theorem parts_d {l : List ObjM} {LD : List PD} (h : LD.map pdM = CD l (itemsL l)) : (chosenZ (itemsL l) true).length = LD.length ∧ (∀ (i : Nat) x, LD[i]? = some x → ∃ y, (chosenZ (itemsL l) true)[i]? = some y ∧ x.1 = y.obj ∧ x.2.1 = dataC l y) := by
  have h' : LD.map pdM = (chosenZ (itemsL l) true).map (partD l) := h
  refine ⟨by have := congrArg List.length h'; simpa using this.symm, fun i x hx => ?_⟩
  have k := congrArg (fun m => m[i]?) h'
  simp only [List.getElem?_map, hx, Option.map_some] at k
  cases hy : (chosenZ (itemsL l) true)[i]? with
  | none => rw [hy] at k; cases k
  | some y =>
    rw [hy] at k
    simp only [Option.map_some, Option.some.injEq, pdM, partD, Prod.mk.injEq] at k
    exact ⟨y, rfl, k.1, k.2⟩
/-- What is asked of names.program's answer. -/
def ProgPost (l : List ObjM) (w : World) (e : Ending) (w' : World) : Prop :=
  (∃ a d LF LD E, progZ l = (0, ⟨LF.map Prod.fst, LD.map Prod.fst, E⟩) ∧ e = .returned (.tuple #[.agg #[a, d, .int .i64 E], .int .i64 0]) ∧ Prg w.heap.size a d LF LD w') ∨
  ∃ x, progZ l = (x, noProg) ∧ x ≠ 0 ∧ e = .returned (.tuple #[.agg #[.slice none 0 0, .slice none 0 0, .int .i64 0], .int .i64 x])
set_option maxRecDepth 100000 in
set_option maxHeartbeats 16000000 in
theorem program_any {A : Nat → Prop} {w0 w : World} {base : Nat} {v vf vd : Value} {l : List ObjM} {LF : List PF} {LD : List PD} (h : IsObjs A w0 v l) (hb : Below w0.heap.size w0 w) (hl : l.length ≤ 20) (hfew : ∀ o ∈ l, fewO o) (hright : ∀ o ∈ l, rightO o)
    (hc : Chn A w0 base vf vd LF LD w) (hF : LF.map pfM = CF l (itemsL l)) (hD : LD.map pdM = CD l (itemsL l)) (hln : LF.length + LD.length ≤ 3000) :
    Calls Tryz.prog 20 #[v, .agg #[vf, vd]] w fun e w' => ProgPost l w e w' ∧ Below w.heap.size w w' := by
  have hu := uniq_items hright
  obtain ⟨nf, kf⟩ := parts_f hF
  obtain ⟨nd, kd⟩ := parts_d hD
  have ML : ∀ (d : Bool) (i : Nat) y, (chosenZ (itemsL l) d)[i]? = some y → y ∈ itemsL l ∧ y.data = d := fun d i y hy => ⟨(chosen_mem hy).1, (chosen_mem hy).2.1⟩
  have objlt : ∀ y ∈ itemsL l, y.obj < l.length := fun y hy => by obtain ⟨o, ho, -⟩ := item_of hy; exact (List.getElem?_eq_some_iff.1 ho).1
  have okf : ∀ x ∈ LF, x.1 ≤ 1000 := fun x hx => by
    obtain ⟨i, hi, rfl⟩ := List.getElem_of_mem hx
    obtain ⟨y, hy, e, -⟩ := kf i _ (List.getElem?_eq_getElem hi)
    have := objlt y (ML _ i y hy).1
    omega
  have okd : ∀ x ∈ LD, x.1 ≤ 1000 := fun x hx => by
    obtain ⟨i, hi, rfl⟩ := List.getElem_of_mem hx
    obtain ⟨y, hy, e, -⟩ := kd i _ (List.getElem?_eq_getElem hi)
    have := objlt y (ML _ i y hy).1
    omega
  have keyf : ∀ (i : Nat) x, LF[i]? = some x → ∃ y, (chosenZ (itemsL l) false)[i]? = some y ∧ keyI y = keyP x.1 x.2.1.bind x.2.1.name := fun i x hx => by
    obtain ⟨y, hy, e1, e2⟩ := kf i x hx
    obtain ⟨hm, hd⟩ := ML _ i y hy
    obtain ⟨o, -, hfd, -⟩ := item_of hm
    obtain ⟨f, -, hn, hbd, hof⟩ := hfd hd
    exact ⟨y, hy, by rw [e1, e2, hof, hn, hbd]; rfl⟩
  have keyd : ∀ (i : Nat) x, LD[i]? = some x → ∃ y, (chosenZ (itemsL l) true)[i]? = some y ∧ keyI y = keyP x.1 x.2.1.bind x.2.1.name := fun i x hx => by
    obtain ⟨y, hy, e1, e2⟩ := kd i x hx
    obtain ⟨hm, hd⟩ := ML _ i y hy
    have hk := dataC_keeps hm hd
    exact ⟨y, hy, by rw [e1, e2, hk.1, hk.2]; rfl⟩
  have MEAN : Hid (∀ W, Below w.heap.size w W → Calls Tryz.prog 39 #[.agg #[vf, vd]] W fun e w' => (∃ b n M, e = .returned (.map (some b)) ∧ MeansAt w' b n M ∧ meansOk (chosenZ (itemsL l) false) (chosenZ (itemsL l) true) (chosenZ (itemsL l) false).length (chosenZ (itemsL l) true).length M) ∧ Below W.heap.size W w') := fun W hW => means_any (hc.later hW) hln ⟨okf, okd⟩ ⟨nf, keyf⟩ ⟨nd, keyd⟩
  have lf := own_cells pfC_len hc.f
  have ld := own_cells pdC_len hc.d
  have EF : Hid (∀ x ∈ LF, FE A w0 x.2) := hc.ef
  have ED : Hid (∀ x ∈ LD, DE A w0 x.2) := hc.ed
  obtain ⟨fa, fc, rfl, -, -, fx⟩ := LstA.open lf
  obtain ⟨da, dc, rfl, -, -, dx⟩ := LstA.open ld
  obtain ⟨oa, oc, rfl, -, -, ox⟩ := LstA.open h
  obtain ⟨F, eF⟩ : ∃ F, LF.length = F := ⟨_, rfl⟩
  obtain ⟨D, eD⟩ : ∃ D, LD.length = D := ⟨_, rfl⟩
  obtain ⟨n, en⟩ : ∃ n, l.length = n := ⟨_, rfl⟩
  rw [eF] at fx MEAN nf ⊢
  rw [eD] at dx MEAN nd ⊢
  rw [en] at ox hl objlt ⊢
  have hFn : F + D ≤ 3000 := by omega
  have hF3 : (F : Int) ≤ 3000 := by omega
  have hD3 : (D : Int) ≤ 3000 := by omega
  have hn20 : (n : Int) ≤ 20 := by omega
  have FX1 : Hid (∀ k, k < F → ∃ b off x, fa = some ⟨b, off, none⟩ ∧ (base ≤ b ∧ b < w.heap.size) ∧ LF[k]? = some x ∧ CellsAt pfC w b (off + k * 5) x) := fx
  have DX1 : Hid (∀ k, k < D → ∃ b off x, da = some ⟨b, off, none⟩ ∧ (base ≤ b ∧ b < w.heap.size) ∧ LD[k]? = some x ∧ CellsAt pdC w b (off + k * 8) x) := dx
  have OX : Hid (∀ k, k < n → ∃ b off x, oa = some ⟨b, off, none⟩ ∧ A b ∧ l[k]? = some x ∧ ObjAt A w0 b (off + k * 3) x) := ox
  have HB0 : Hid (Below w0.heap.size w0 w) := hb
  have FW : Hid (∀ o ∈ l, fewO o) := hfew
  have HU : Hid (Uniq (itemsL l)) := hu
  have RT : Hid (∀ o ∈ l, rightO o) := hright
  have KF : Hid (∀ (i : Nat) x, LF[i]? = some x → ∃ y, (chosenZ (itemsL l) false)[i]? = some y ∧ x.1 = y.obj ∧ x.2.1 = funcOf l y) := kf
  have KD : Hid (∀ (i : Nat) x, LD[i]? = some x → ∃ y, (chosenZ (itemsL l) true)[i]? = some y ∧ x.1 = y.obj ∧ x.2.1 = dataC l y) := kd
  have MEM : Hid (∀ (d : Bool) (i : Nat) y, (chosenZ (itemsL l) d)[i]? = some y → y ∈ itemsL l ∧ y.data = d) := ML
  have OLT : Hid (∀ y ∈ itemsL l, y.obj < n) := objlt
  have NF : Hid ((chosenZ (itemsL l) false).length = F ∧ (chosenZ (itemsL l) true).length = D) := ⟨nf, nd⟩
  have EN : Hid (l.length = n) := en
  obtain ⟨i0, hi0, hiz0, hsz0, hby0⟩ := info_parts infoPFunc
  obtain ⟨i1, hi1, hiz1, hsz1, hby1⟩ := info_parts infoPData
  have IF : Hid (Tryz.prog.info? 36 = some i0 ∧ i0.zero = some (.agg #[.string ⟨#[]⟩, .bool false, .bool false, .slice none 0 0, .slice none 0 0]) ∧ i0.size = 5 ∧ i0.bytes = 72) := ⟨hi0, hiz0, hsz0, hby0⟩
  have ID : Hid (Tryz.prog.info? 41 = some i1 ∧ i1.zero = some (.agg #[.int .i64 0, .bool false, .int .i64 0, .slice none 0 0, .slice none 0 0]) ∧ i1.size = 5 ∧ i1.bytes = 72) := ⟨hi1, hiz1, hsz1, hby1⟩
  clear hi0 hiz0 hsz0 hby0 hi1 hiz1 hsz1 hby1 h hb hfew hright hc hF hD hln hu kf kd ML objlt okf okd keyf keyd lf ld fx dx ox eF eD en nf nd
  have UP1 : Hid (Below w.heap.size w ((w.alloc (.cells #[.slice fa F fc, .slice da D dc] 66)).alloc (.cells #[.slice none 0 0, .slice none 0 0, .int .i64 0] 28))) := keep_alloc8 (keep_alloc8 (Below.refl _ _) _) _
  have XC1 : Hid (XAt ((w.alloc (.cells #[.slice fa F fc, .slice da D dc] 66)).alloc (.cells #[.slice none 0 0, .slice none 0 0, .int .i64 0] 28)) w.heap.size [.slice fa F fc, .slice da D dc]) := (XAt.new w _ _).later (by simp) (keep_alloc8 (Below.refl _ _) _)
  have XR1 : Hid (XAt ((w.alloc (.cells #[.slice fa F fc, .slice da D dc] 66)).alloc (.cells #[.slice none 0 0, .slice none 0 0, .int .i64 0] 28)) (w.heap.size + 1) [.slice none 0 0, .slice none 0 0, .int .i64 0]) := by
    have := XAt.new (w.alloc (.cells #[.slice fa F fc, .slice da D dc] 66)) #[.slice none 0 0, .slice none 0 0, .int .i64 0] 28
    rwa [World.size_alloc] at this
  have SZ1 : Hid (w.heap.size + 1 < ((w.alloc (.cells #[.slice fa F fc, .slice da D dc] 66)).alloc (.cells #[.slice none 0 0, .slice none 0 0, .int .i64 0] 28)).heap.size) := by unfold Hid; simp
  go_enter Tryz.func20, Tryz.ntmps20
  go_upto_region 1 with fail
  generalize (w.alloc (.cells #[.slice fa F fc, .slice da D dc] 66)).alloc (.cells #[.slice none 0 0, .slice none 0 0, .int .i64 0] 28) = W1 at UP1 XC1 XR1 SZ1 ⊢
  have c0 := XC1.out.1 0 _ rfl
  have c1 := XC1.out.1 1 _ rfl
  go_upto_region 2 with (go_at_call 39; refine (MEAN.out _ UP1.out).mono ?_; rintro e w2 ⟨⟨mb, mn, M, rfl, hm, hmo⟩, b2⟩)
  have MA : Hid (MeansAt w2 mb mn M) := hm
  have MO : Hid (meansOk (chosenZ (itemsL l) false) (chosenZ (itemsL l) true) (chosenZ (itemsL l) false).length (chosenZ (itemsL l) true).length M) := hmo
  have UP2 : Hid (Below w.heap.size w w2) := bnext UP1.out b2
  have XC2 : Hid (XAt w2 w.heap.size [.slice fa F fc, .slice da D dc]) := XC1.out.later (by have := SZ1.out; omega) b2
  have XR2 : Hid (XAt w2 (w.heap.size + 1) [.slice none 0 0, .slice none 0 0, .int .i64 0]) := XR1.out.later SZ1.out b2
  have SZ2 : Hid (w.heap.size + 1 < w2.heap.size) := Nat.lt_of_lt_of_le SZ1.out b2.size
  have EN1 : Hid (Calls Tryz.prog 40 #[.map (some mb)] w2 fun e w' => e = .returned (.tuple #[.int .i64 (enterZ (M (-1, mainT))).1, .int .i64 (enterZ (M (-1, mainT))).2]) ∧ Below w2.heap.size w2 w') := enter_any MA.out
  have FREE := means_free HU.out MO.out mainT
  clear hm hmo b2 c0 c1 XC1 XR1 SZ1 UP1 MEAN
  cases hMM : M (-1, mainT) with
  | none =>
    rw [hMM] at EN1 FREE
    have EN2 : Hid (Calls Tryz.prog 40 #[.map (some mb)] w2 fun e w' => e = .returned (.tuple #[.int .i64 0, .int .i64 6]) ∧ Below w2.heap.size w2 w') := EN1
    have PZ : Hid (progZ l = (6, noProg)) := by
      unfold progZ Hid
      cases hz : meanZ (itemsL l) (-1) mainT with
      | none => rfl
      | some m => rw [hz] at FREE; cases FREE
    clear FREE hMM EN1
    go_upto_region 4 with (go_at_call 40; refine EN2.out.mono ?_; rintro e w3 ⟨rfl, b3⟩)
    have XR3 : Hid (XAt w3 (w.heap.size + 1) [.slice none 0 0, .slice none 0 0, .int .i64 0]) := XR2.out.later SZ2.out b3
    have r0 := XR3.out.1 0 _ rfl
    have r1 := XR3.out.1 1 _ rfl
    have r2 := XR3.out.1 2 _ rfl
    have fz := XR3.out.2
    go_wp2
    exact bodyPost_ret (results_cell_tmp Tryz.results20 _ (w.heap.size + 1) (by first | rfl | simp) _ [.slice none 0 0, .slice none 0 0, .int .i64 0] (XAt.set (XAt.set (XAt.set XR3.out 0 (by simp) _) 1 (by simp) _) 2 (by simp) _) Tryz.underlying28 rfl (by kernel_rfl) (.int .i64 6) (by first | rfl | simp)) rfl
      ⟨.inr ⟨6, PZ.out, (by first | decide | exact XNE.out), rfl⟩, (((bnext UP2.out b3).setCell (p := ⟨w.heap.size + 1, 0, none⟩) (Nat.le_succ _) _).setCell (p := ⟨w.heap.size + 1, 1, none⟩) (Nat.le_succ _) _).setCell (p := ⟨w.heap.size + 1, 2, none⟩) (Nat.le_succ _) _⟩
  | some mv =>
    obtain ⟨md, mp⟩ := mv
    rw [hMM] at EN1 FREE
    cases md with
    | true =>
      have EN2 : Hid (Calls Tryz.prog 40 #[.map (some mb)] w2 fun e w' => e = .returned (.tuple #[.int .i64 0, .int .i64 9]) ∧ Below w2.heap.size w2 w') := EN1
      have PZ : Hid (progZ l = (9, noProg)) := by
        unfold progZ Hid
        cases hz : meanZ (itemsL l) (-1) mainT with
        | none => rw [hz] at FREE; cases FREE
        | some m =>
          rw [hz] at FREE
          simp only [Option.map_some, Option.some.injEq, placeO, Prod.mk.injEq] at FREE
          dsimp only
          rw [if_pos FREE.1.symm]
      clear FREE hMM EN1
      go_upto_region 4 with (go_at_call 40; refine EN2.out.mono ?_; rintro e w3 ⟨rfl, b3⟩)
      have XR3 : Hid (XAt w3 (w.heap.size + 1) [.slice none 0 0, .slice none 0 0, .int .i64 0]) := XR2.out.later SZ2.out b3
      have r0 := XR3.out.1 0 _ rfl
      have r1 := XR3.out.1 1 _ rfl
      have r2 := XR3.out.1 2 _ rfl
      have fz := XR3.out.2
      go_wp2
      exact bodyPost_ret (results_cell_tmp Tryz.results20 _ (w.heap.size + 1) (by first | rfl | simp) _ [.slice none 0 0, .slice none 0 0, .int .i64 0] (XAt.set (XAt.set (XAt.set XR3.out 0 (by simp) _) 1 (by simp) _) 2 (by simp) _) Tryz.underlying28 rfl (by kernel_rfl) (.int .i64 9) (by first | rfl | simp)) rfl
        ⟨.inr ⟨9, PZ.out, (by first | decide | exact XNE.out), rfl⟩, (((bnext UP2.out b3).setCell (p := ⟨w.heap.size + 1, 0, none⟩) (Nat.le_succ _) _).setCell (p := ⟨w.heap.size + 1, 1, none⟩) (Nat.le_succ _) _).setCell (p := ⟨w.heap.size + 1, 2, none⟩) (Nat.le_succ _) _⟩
    | false =>
      have EN2 : Hid (Calls Tryz.prog 40 #[.map (some mb)] w2 fun e w' => e = .returned (.tuple #[.int .i64 (mp : Int), .int .i64 0]) ∧ Below w2.heap.size w2 w') := EN1
      have PZ : Hid (progZ l = progW l (mp : Int)) := by
        unfold progZ Hid
        cases hz : meanZ (itemsL l) (-1) mainT with
        | none => rw [hz] at FREE; cases FREE
        | some m =>
          rw [hz] at FREE
          simp only [Option.map_some, Option.some.injEq, placeO, Prod.mk.injEq] at FREE
          have e1 := FREE.1
          have e2 := FREE.2
          rw [← e1, if_neg (by decide)] at e2
          dsimp only
          rw [← e1, if_neg (by decide), ← e2]
      clear FREE hMM EN1
      have FIN : Hid (∀ o : Nat, Finds (itemsL l) o M) := fun o => means_find HU.out MO.out o
      clear MO
      go_upto_region 6 with (go_at_call 40; refine EN2.out.mono ?_; rintro e w3 ⟨rfl, b3⟩)
      have UP4 : Hid (Below w.heap.size w (w3.alloc (.cells #[.slice none 0 0, .slice none 0 0, .int .i64 (mp : Int)] 28))) := keep_alloc8 (bnext UP2.out b3) _
      have XP4 : Hid (XAt (w3.alloc (.cells #[.slice none 0 0, .slice none 0 0, .int .i64 (mp : Int)] 28)) w3.heap.size [.slice none 0 0, .slice none 0 0, .int .i64 (mp : Int)]) := XAt.new _ _ _
      have XC4 : Hid (XAt (w3.alloc (.cells #[.slice none 0 0, .slice none 0 0, .int .i64 (mp : Int)] 28)) w.heap.size [.slice fa F fc, .slice da D dc]) := XC2.out.later (by have := SZ2.out; omega) (keep_alloc8 b3 _)
      have XR4 : Hid (XAt (w3.alloc (.cells #[.slice none 0 0, .slice none 0 0, .int .i64 (mp : Int)] 28)) (w.heap.size + 1) [.slice none 0 0, .slice none 0 0, .int .i64 0]) := XR2.out.later SZ2.out (keep_alloc8 b3 _)
      have MA4 : Hid (MeansAt (w3.alloc (.cells #[.slice none 0 0, .slice none 0 0, .int .i64 (mp : Int)] 28)) mb mn M) := MA.out.later (keep_alloc8 b3 _)
      have SZ4 : Hid (w.heap.size + 1 < w3.heap.size ∧ mb < w3.heap.size ∧ w3.heap.size + 1 ≤ (w3.alloc (.cells #[.slice none 0 0, .slice none 0 0, .int .i64 (mp : Int)] 28)).heap.size) := ⟨Nat.lt_of_lt_of_le SZ2.out b3.size, Nat.lt_of_lt_of_le (MapAt.lt MA.out) b3.size, by simp⟩
      generalize w3.alloc (.cells #[.slice none 0 0, .slice none 0 0, .int .i64 (mp : Int)] 28) = W4 at UP4 XP4 XC4 XR4 MA4 SZ4 ⊢
      clear EN2 b3 MA UP2 XC2 XR2 SZ2
      generalize w3.heap.size = PB at XP4 SZ4 ⊢
      have c0 := XC4.out.1 0 _ rfl
      go_wp2
      go_loopw [34] (fun i wr => ∃ (k : Nat) (av : Value) (L : List PFX), k ≤ F ∧ i = .int .i64 k ∧ XAt wr PB [av, .slice none 0 0, .int .i64 (mp : Int)] ∧ Prg (PB + 1) av (.slice none 0 0) L [] wr ∧ eachE (pfuncZ l (itemsL l) (chosenZ (itemsL l) false) (chosenZ (itemsL l) true)) ((chosenZ (itemsL l) false).take k) = .ok (L.map Prod.fst) ∧ L.length ≤ k ∧ Below PB W4 wr) (fun i _ => F - (intOf i).toNat)
      case atStart => exact ⟨0, _, [], Nat.zero_le _, rfl, XP4.out, Prg.nil _ _, rfl, Nat.le_refl _, Below.refl _ _⟩
      case round =>
        clear c0 XP4
        obtain ⟨k, av, L, hk, rfl, hxp, hpg, hok, hln, hbel⟩ := hrel
        obtain ⟨aa, ac, rfl⟩ := own_form hpg.f
        have HB : Hid (Below PB W4 wr) := hbel
        have XP : Hid (XAt wr PB [.slice aa L.length ac, .slice none 0 0, .int .i64 (mp : Int)]) := hxp
        have PG : Hid (Prg (PB + 1) (.slice aa L.length ac) (.slice none 0 0) L [] wr) := hpg
        have OKK : Hid (eachE (pfuncZ l (itemsL l) (chosenZ (itemsL l) false) (chosenZ (itemsL l) true)) ((chosenZ (itemsL l) false).take k) = .ok (L.map Prod.fst)) := hok
        have LP : Hid (L.length ≤ k) := hln
        have HW : Hid (Below w.heap.size w wr) := UP4.out.trans (hbel.mono (by have := SZ4.out; omega))
        have H00 : Hid (Below w0.heap.size w0 wr) := bnext HB0.out HW.out
        have MAr : Hid (MeansAt wr mb mn M) := MapAt.keep MA4.out (hbel.block mb SZ4.out.2.1)
        have SZr : Hid (PB + 1 ≤ wr.heap.size) := Nat.le_trans SZ4.out.2.2 hbel.size
        clear hxp hpg hok hln hbel
        by_cases hlt : k < F
        · have hlt' : (k : Int) < F := by omega
          obtain ⟨b, off, ⟨xo, ⟨xn, xb, lc, lr⟩, vc, vr⟩, rfl, -, hx, hcl⟩ := FX1.out k hlt
          obtain ⟨hw5, hr5, hnm⟩ := EF.out _ (List.mem_of_getElem? hx)
          dsimp only at hw5 hr5 hnm
          obtain ⟨y, hy, e1, e2⟩ := KF.out k _ hx
          dsimp only at e1 e2
          obtain ⟨hym, hyd⟩ := MEM.out _ k y hy
          obtain ⟨o, hol, hof, -⟩ := item_of hym
          obtain ⟨f, hfo, -, -, hfe⟩ := hof hyd
          have hxo : xo < n := by rw [e1]; exact OLT.out y hym
          obtain ⟨ob, oo, o', eoa, -, hol', vf', vd', vn, o0, o1, o2, hfs, hds, hns⟩ := OX.out xo hxo
          obtain rfl : o' = o := by rw [← e1, hol'] at hol; exact Option.some.inj hol
          have hfw := FW.out o' (List.mem_of_getElem? hol')
          have hff := hfw.2.1 f (List.mem_of_getElem? hfo)
          have hfl : (⟨xn, xb, lc, lr⟩ : FuncM) = f := e2.trans hfe
          have few1 : lc.length ≤ 2100 ∧ lr.length ≤ 70 := by rw [← hfl] at hff; exact ⟨hff.1, hff.2.1⟩
          have ENO : Hid (o'.notes.length ≤ 100000) := by have := hfw.1.2.2; unfold Hid; omega
          have PFE1 : Hid (∀ x, relsZ (itemsL l) (chosenZ (itemsL l) false) (chosenZ (itemsL l) true) xo lr = .error x → eachE (pfuncZ l (itemsL l) (chosenZ (itemsL l) false) (chosenZ (itemsL l) true)) (chosenZ (itemsL l) false) = .error x) := fun x hx0 => eachE_at OKK.out hy (by unfold pfuncZ; rw [← e1, ← e2]; dsimp only; rw [hx0])
          have OBJ : objAt l y = o' := by unfold objAt; rw [List.getD_eq_getElem?_getD, ← e1, hol']; rfl
          have PFO1 : Hid (∀ ps, relsZ (itemsL l) (chosenZ (itemsL l) false) (chosenZ (itemsL l) true) xo lr = .ok ps → eachE (pfuncZ l (itemsL l) (chosenZ (itemsL l) false) (chosenZ (itemsL l) true)) ((chosenZ (itemsL l) false).take (k + 1)) = .ok (L.map Prod.fst ++ [⟨xn, saidZ o' xn 1, saidZ o' xn 2, lc, ps⟩])) := fun ps hp0 => eachE_next OKK.out hy (by unfold pfuncZ; rw [← e1, ← e2, OBJ]; dsimp only; rw [hp0])
          obtain ⟨ca, cc, rfl, -⟩ := id hw5.1
          obtain ⟨ra, rc, rfl, -⟩ := id hr5
          have RL : Hid (∀ W, Below wr.heap.size wr W → Calls Tryz.prog 41 #[.map (some mb), .int .i64 (xo : Int), .slice ra lr.length rc] W fun e w' => ((∃ ps v', relsZ (itemsL l) (chosenZ (itemsL l) false) (chosenZ (itemsL l) true) xo lr = .ok ps ∧ e = .returned (.tuple #[v', .int .i64 0]) ∧ OwnP w' W.heap.size v' ps) ∨ ∃ x, relsZ (itemsL l) (chosenZ (itemsL l) false) (chosenZ (itemsL l) true) xo lr = .error x ∧ e = .returned (.tuple #[.slice none 0 0, .int .i64 x])) ∧ Below W.heap.size W w') :=
            fun W hW => reloc_any (MAr.out.later hW) (by omega) (FIN.out xo) (hr5.keep (Stay.of_below (bnext H00.out hW))) (by omega)
          have x0 : wr.cell? ⟨b, off + k * 5, none⟩ = some (.int .i64 (xo : Int)) := cell_any (hcl 0 _ rfl) HW.out
          have x1 := cell_any (hcl 1 _ rfl) HW.out
          have x2 := cell_any (hcl 2 _ rfl) HW.out
          have x3 := cell_any (hcl 3 _ rfl) HW.out
          have x4 := cell_any (hcl 4 _ rfl) HW.out
          have UPF : Hid (Below wr.heap.size wr (wr.alloc (.cells #[.int .i64 (xo : Int), .string xn, .int .i64 xb, .slice ca lc.length cc, .slice ra lr.length rc] 96))) := keep_alloc8 (Below.refl _ _) _
          have XF : Hid (XAt (wr.alloc (.cells #[.int .i64 (xo : Int), .string xn, .int .i64 xb, .slice ca lc.length cc, .slice ra lr.length rc] 96)) wr.heap.size [.int .i64 (xo : Int), .string xn, .int .i64 xb, .slice ca lc.length cc, .slice ra lr.length rc]) := XAt.new _ _ _
          have SF : Hid (wr.heap.size < (wr.alloc (.cells #[.int .i64 (xo : Int), .string xn, .int .i64 xb, .slice ca lc.length cc, .slice ra lr.length rc] 96)).heap.size) := by unfold Hid; simp
          cases hR : relsZ (itemsL l) (chosenZ (itemsL l) false) (chosenZ (itemsL l) true) xo lr with
          | error x =>
            have PX : Hid (progZ l = (x, noProg)) := by unfold Hid; rw [PZ.out]; exact progW_f (PFE1.out x hR)
            have XN : Hid (x ≠ 0) := by rcases rels_err hR with e | e <;> (unfold Hid; omega)
            have gx : (x == 0) = false := by simpa using XN.out
            have RL1 : Hid (∀ W, Below wr.heap.size wr W → Calls Tryz.prog 41 #[.map (some mb), .int .i64 (xo : Int), .slice ra lr.length rc] W fun e w' => e = .returned (.tuple #[.slice none 0 0, .int .i64 x]) ∧ Below W.heap.size W w') := fun W hW => (RL.out W hW).mono fun e w' h => by
              rcases h with ⟨⟨ps, v', h1, -⟩ | ⟨z, h1, h2⟩, h3⟩
              · rw [hR] at h1; cases h1
              · rw [hR] at h1; cases h1; exact ⟨h2, h3⟩
            clear hR RL PFE1 PFO1 hx hw5 hr5 hnm hy e1 e2 hym hyd hol hof hfo hfe hol' hfs hds hns hfw hff hfl few1 OBJ o0 o1 o2 hcl
            go_upto_region 11 with (go_at_call 41; refine (RL1.out _ UPF.out).mono ?_; rintro e w5 ⟨rfl, b5⟩)
            have HB5 : Hid (Below PB W4 w5) := HB.out.trans ((bnext UPF.out b5).mono (by have := SZr.out; omega))
            have XR6 : Hid (XAt w5 (w.heap.size + 1) [.slice none 0 0, .slice none 0 0, .int .i64 0]) := XR4.out.keep ((HB5.out).block _ (by have := SZ4.out; omega))
            have r0 := XR6.out.1 0 _ rfl
            have r1 := XR6.out.1 1 _ rfl
            have r2 := XR6.out.1 2 _ rfl
            have fz := XR6.out.2
            go_wp2
            exact bodyPost_ret (results_cell_tmp Tryz.results20 _ (w.heap.size + 1) (by first | rfl | simp) _ [.slice none 0 0, .slice none 0 0, .int .i64 0] (XAt.set (XAt.set (XAt.set XR6.out 0 (by simp) _) 1 (by simp) _) 2 (by simp) _) Tryz.underlying28 rfl (by kernel_rfl) (.int .i64 x) (by first | rfl | simp)) rfl
              ⟨.inr ⟨x, PX.out, XN.out, rfl⟩, (((UP4.out.trans (HB5.out.mono (by have := SZ4.out; omega))).setCell (p := ⟨w.heap.size + 1, 0, none⟩) (Nat.le_succ _) _).setCell (p := ⟨w.heap.size + 1, 1, none⟩) (Nat.le_succ _) _).setCell (p := ⟨w.heap.size + 1, 2, none⟩) (Nat.le_succ _) _⟩
          | ok ps =>
            have OKN := PFO1.out ps hR
            obtain ⟨s1, es1⟩ : ∃ s1, saidZ o' xn 1 = s1 := ⟨_, rfl⟩
            obtain ⟨s2, es2⟩ : ∃ s2, saidZ o' xn 2 = s2 := ⟨_, rfl⟩
            rw [es1, es2] at OKN
            replace OKN : Hid (eachE (pfuncZ l (itemsL l) (chosenZ (itemsL l) false) (chosenZ (itemsL l) true)) ((chosenZ (itemsL l) false).take (k + 1)) = .ok (L.map Prod.fst ++ [⟨xn, s1, s2, lc, ps⟩])) := OKN
            have RL1 : Hid (∀ W, Below wr.heap.size wr W → Calls Tryz.prog 41 #[.map (some mb), .int .i64 (xo : Int), .slice ra lr.length rc] W fun e w' => (∃ v', e = .returned (.tuple #[v', .int .i64 0]) ∧ OwnP w' W.heap.size v' ps) ∧ Below W.heap.size W w') := fun W hW => (RL.out W hW).mono fun e w' h => by
              rcases h with ⟨⟨qs, v', h1, h2⟩ | ⟨z, h1, -⟩, h3⟩
              · rw [hR] at h1; cases h1; exact ⟨⟨v', h2⟩, h3⟩
              · rw [hR] at h1; cases h1
            obtain ⟨na, nc, rfl, -, -, -⟩ := LstA.open hns
            have FN0 : Hid (∀ W rb rn rd, Below w0.heap.size w0 W → Calls Tryz.prog 42 #[.slice na o'.notes.length nc, .agg #[.string xn, .int .i64 xb, .slice ca lc.length cc, .slice ra lr.length rc], .slice rb rn rd] W fun e w' => (∃ v', e = .returned (.agg #[.string xn, .bool s1, .bool s2, v', .slice rb rn rd]) ∧ w'.ownsRow W.heap.size 53 1 v' lc.length (lc.map fun c => .int .u32 c)) ∧ Below W.heap.size W w') := fun W rb rn rd hW => by
              have := function_any (vr := .slice ra lr.length rc) (o := o') (f := ⟨xn, xb, lc, lr⟩) (ra := rb) (rn := rn) (rc := rd) (hns.keep (Stay.of_below hW)) ENO.out (hw5.keep (Stay.of_below hW)) (by show lc.length ≤ _; omega) ⟨ra, lr.length, rc, rfl⟩
              rw [es1, es2] at this
              exact this
            have WD : Hid (Wrd lc) := hw5.2
            have NC : Hid (w0.cell? ⟨ob, oo + xo * 3 + 2, none⟩ = some (.slice na o'.notes.length nc)) := o2
            subst eoa
            have hxo' : (xo : Int) < n := by omega
            clear hR RL PFE1 PFO1 hx hw5 hr5 hnm hy e1 e2 hym hyd hol hof hfo hfe hol' hfs hds hns hfw hff hfl few1 OBJ o0 o1 o2 hcl es1 es2
            generalize o'.notes.length = nn at FN0 NC
            go_upto_region 12 with (go_at_call 41; refine (RL1.out _ UPF.out).mono ?_; rintro e w5 ⟨⟨vp, rfl, op5⟩, b5⟩; obtain ⟨pa, pc, rfl⟩ := own_form op5)
            have HB5 : Hid (Below PB W4 w5) := HB.out.trans ((bnext UPF.out b5).mono (by have := SZr.out; omega))
            have BW5 : Hid (Below wr.heap.size wr w5) := bnext UPF.out b5
            have SZ5 : Hid (PB + 1 ≤ w5.heap.size) := Nat.le_trans SZr.out BW5.out.size
            have OP5 : Hid (OwnP w5 (PB + 1) (.slice pa ps.length pc) ps) := own_mono11 op5 (Nat.le_trans SZr.out UPF.out.size)
            have XP5 : Hid (XAt w5 PB [.slice aa L.length ac, .slice none 0 0, .int .i64 (mp : Int)]) := XP.out.later (by have := SZr.out; omega) BW5.out
            have PG5 : Hid (Prg (PB + 1) (.slice aa L.length ac) (.slice none 0 0) L [] w5) := PG.out.later BW5.out
            have XF5 : Hid (XAt w5 wr.heap.size [.int .i64 (xo : Int), .string xn, .int .i64 xb, .slice ca lc.length cc, .slice ra lr.length rc]) := XF.out.later SF.out b5
            have SZF : Hid (wr.heap.size < w5.heap.size) := Nat.lt_of_lt_of_le SF.out b5.size
            have RBF : Hid (∀ q, (Value.slice aa L.length ac).ownBlock = some q → PB + 1 ≤ q ∧ q < wr.heap.size) := fun q hq => own_oct PG.out.f q hq
            have FBL : Hid (PB + 1 ≤ wr.heap.size) := SZr.out
            have NC5 : Hid (w5.cell? ⟨ob, oo + xo * 3 + 2, none⟩ = some (.slice na nn nc)) := cell_any NC.out (bnext H00.out BW5.out)
            have NLT : Hid (ob < PB + 1) := by
              have h1 := World.block_lt_of_cell? w0 ⟨ob, oo + xo * 3 + 2, none⟩ NC.out
              have h2 := HB0.out.size
              have h3 := SZ4.out.1
              show ob < PB + 1
              have h1' : ob < w0.heap.size := h1
              omega
            have H05 : Hid (Below w0.heap.size w0 w5) := bnext H00.out BW5.out
            have LW0 : Hid (w0.heap.size ≤ PB + 1) := by have h2 := HB0.out.size; have h3 := SZ4.out.1; unfold Hid; omega
            clear x0 x1 x2 x3 x4 op5 b5 UPF XF SF RL1 XP PG NC BW5
            generalize wr.heap.size = FB at XF5 SZF RBF FBL ⊢
            generalize eVP : (Value.slice pa ps.length pc) = vp at OP5 ⊢
            have FN : Hid (∀ W, Below (PB + 1) w5 W → Calls Tryz.prog 42 #[.slice na nn nc, .agg #[.string xn, .int .i64 xb, .slice ca lc.length cc, .slice ra lr.length rc], vp] W fun e w' => (∃ v', e = .returned (.agg #[.string xn, .bool s1, .bool s2, v', vp]) ∧ w'.ownsRow W.heap.size 53 1 v' lc.length (lc.map fun c => .int .u32 c)) ∧ Below W.heap.size W w') := fun W hW => by rw [← eVP]; exact FN0.out W _ _ _ (H05.out.trans (hW.mono LW0.out))
            clear FN0 eVP
            have KS : Hid (∀ W W', (W.cell? ⟨PB, 0, none⟩ = some (.slice aa L.length ac) ∧ W.cell? ⟨FB, 0, none⟩ = some (.int .i64 (xo : Int)) ∧ W.cell? ⟨FB, 1, none⟩ = some (.string xn) ∧ W.cell? ⟨FB, 2, none⟩ = some (.int .i64 xb) ∧ W.cell? ⟨FB, 3, none⟩ = some (.slice ca lc.length cc) ∧ W.cell? ⟨FB, 4, none⟩ = some (.slice ra lr.length rc) ∧ W.cell? ⟨ob, oo + xo * 3 + 2, none⟩ = some (.slice na nn nc) ∧ Below (PB + 1) w5 W) → Below W.heap.size W W' → (W'.cell? ⟨PB, 0, none⟩ = some (.slice aa L.length ac) ∧ W'.cell? ⟨FB, 0, none⟩ = some (.int .i64 (xo : Int)) ∧ W'.cell? ⟨FB, 1, none⟩ = some (.string xn) ∧ W'.cell? ⟨FB, 2, none⟩ = some (.int .i64 xb) ∧ W'.cell? ⟨FB, 3, none⟩ = some (.slice ca lc.length cc) ∧ W'.cell? ⟨FB, 4, none⟩ = some (.slice ra lr.length rc) ∧ W'.cell? ⟨ob, oo + xo * 3 + 2, none⟩ = some (.slice na nn nc) ∧ Below (PB + 1) w5 W')) := fun W W' h hb => ⟨cell_any h.1 hb, cell_any h.2.1 hb, cell_any h.2.2.1 hb, cell_any h.2.2.2.1 hb, cell_any h.2.2.2.2.1 hb, cell_any h.2.2.2.2.2.1 hb, cell_any h.2.2.2.2.2.2.1 hb, h.2.2.2.2.2.2.2.trans (hb.mono (by have := h.2.2.2.2.2.2.2.size; have := SZ5.out; omega))⟩
            have KA : Hid (∀ W W', (W.cell? ⟨PB, 0, none⟩ = some (.slice aa L.length ac) ∧ W.cell? ⟨FB, 0, none⟩ = some (.int .i64 (xo : Int)) ∧ W.cell? ⟨FB, 1, none⟩ = some (.string xn) ∧ W.cell? ⟨FB, 2, none⟩ = some (.int .i64 xb) ∧ W.cell? ⟨FB, 3, none⟩ = some (.slice ca lc.length cc) ∧ W.cell? ⟨FB, 4, none⟩ = some (.slice ra lr.length rc) ∧ W.cell? ⟨ob, oo + xo * 3 + 2, none⟩ = some (.slice na nn nc) ∧ Below (PB + 1) w5 W) → W.grownBy W' (Value.slice aa L.length ac).ownBlock → (W'.cell? ⟨PB, 0, none⟩ = some (.slice aa L.length ac) ∧ W'.cell? ⟨FB, 0, none⟩ = some (.int .i64 (xo : Int)) ∧ W'.cell? ⟨FB, 1, none⟩ = some (.string xn) ∧ W'.cell? ⟨FB, 2, none⟩ = some (.int .i64 xb) ∧ W'.cell? ⟨FB, 3, none⟩ = some (.slice ca lc.length cc) ∧ W'.cell? ⟨FB, 4, none⟩ = some (.slice ra lr.length rc) ∧ W'.cell? ⟨ob, oo + xo * 3 + 2, none⟩ = some (.slice na nn nc) ∧ Below (PB + 1) w5 W')) := fun W W' h hg => by
              have cf : ∀ (p : Addr) (u : Value), W.cell? p = some u → (∀ q, (Value.slice aa L.length ac).ownBlock = some q → p.block ≠ q) → W'.cell? p = some u := fun p u hc hn => (World.cell?_of_block (hg.block p.block (World.block_lt_of_cell? W p hc) fun e => hn p.block e.symm rfl)).trans hc
              have n1 : ∀ q, (Value.slice aa L.length ac).ownBlock = some q → PB ≠ q := fun q hq => by have := (RBF.out q hq).1; omega
              have n2 : ∀ q, (Value.slice aa L.length ac).ownBlock = some q → FB ≠ q := fun q hq => by have := (RBF.out q hq).2; omega
              have n3 : ∀ q, (Value.slice aa L.length ac).ownBlock = some q → ob ≠ q := fun q hq => by have := (RBF.out q hq).1; have := NLT.out; omega
              exact ⟨cf _ _ h.1 n1, cf _ _ h.2.1 n2, cf _ _ h.2.2.1 n2, cf _ _ h.2.2.2.1 n2, cf _ _ h.2.2.2.2.1 n2, cf _ _ h.2.2.2.2.2.1 n2, cf _ _ h.2.2.2.2.2.2.1 n3, h.2.2.2.2.2.2.2.grown hg (by have := h.2.2.2.2.2.2.2.size; have := SZ5.out; omega) fun q hq => (RBF.out q hq).1⟩
            have S0 : Hid ((w5.drew.cell? ⟨PB, 0, none⟩ = some (.slice aa L.length ac) ∧ w5.drew.cell? ⟨FB, 0, none⟩ = some (.int .i64 (xo : Int)) ∧ w5.drew.cell? ⟨FB, 1, none⟩ = some (.string xn) ∧ w5.drew.cell? ⟨FB, 2, none⟩ = some (.int .i64 xb) ∧ w5.drew.cell? ⟨FB, 3, none⟩ = some (.slice ca lc.length cc) ∧ w5.drew.cell? ⟨FB, 4, none⟩ = some (.slice ra lr.length rc) ∧ w5.drew.cell? ⟨ob, oo + xo * 3 + 2, none⟩ = some (.slice na nn nc) ∧ Below (PB + 1) w5 w5.drew)) := ⟨XP5.out.1 0 _ rfl, XF5.out.1 0 _ rfl, XF5.out.1 1 _ rfl, XF5.out.1 2 _ rfl, XF5.out.1 3 _ rfl, XF5.out.1 4 _ rfl, NC5.out, (Below.refl _ _).drew⟩
            clear XF5 NC5
            refine wp_till (fun W => W.cell? ⟨PB, 0, none⟩ = some (.slice aa L.length ac) ∧ W.cell? ⟨FB, 0, none⟩ = some (.int .i64 (xo : Int)) ∧ W.cell? ⟨FB, 1, none⟩ = some (.string xn) ∧ W.cell? ⟨FB, 2, none⟩ = some (.int .i64 xb) ∧ W.cell? ⟨FB, 3, none⟩ = some (.slice ca lc.length cc) ∧ W.cell? ⟨FB, 4, none⟩ = some (.slice ra lr.length rc) ∧ W.cell? ⟨ob, oo + xo * 3 + 2, none⟩ = some (.slice na nn nc) ∧ Below (PB + 1) w5 W) 15 (by kernel_rfl) S0.out (fun hHeld => ?_)
            refine till_take (i := 0) (u := ?_) rfl (by kernel_rfl) (by kernel_rfl) (by kernel_rfl) (by kernel_rfl) (fun _ _ _ h => h) (Or.inl ⟨by rfl, ?_⟩) (by assumption) ?_
            rotate_left
            · intro W hSw; (try dsimp only at hSw); first | (go_simp; done) | (go_simp; with_reducible rfl)
            try simp only [Act.put, List.setIfInBounds_toArray, List.set_cons_zero, List.set_cons_succ]
            refine till_take (i := 1) (u := ?_) rfl (by kernel_rfl) (by kernel_rfl) (by kernel_rfl) (by kernel_rfl) (fun _ _ _ h => h) (Or.inl ⟨by rfl, ?_⟩) (by assumption) ?_
            rotate_left
            · intro W hSw; (try dsimp only at hSw); first | (go_simp; done) | (go_simp; with_reducible rfl)
            try simp only [Act.put, List.setIfInBounds_toArray, List.set_cons_zero, List.set_cons_succ]
            refine till_take (i := 2) (u := ?_) rfl (by kernel_rfl) (by kernel_rfl) (by kernel_rfl) (by kernel_rfl) (fun _ _ _ h => h) (Or.inl ⟨by rfl, ?_⟩) (by assumption) ?_
            rotate_left
            · intro W hSw; (try dsimp only at hSw); first | (go_simp; done) | (go_simp; with_reducible rfl)
            try simp only [Act.put, List.setIfInBounds_toArray, List.set_cons_zero, List.set_cons_succ]
            refine till_take (i := 3) (u := ?_) rfl (by kernel_rfl) (by kernel_rfl) (by kernel_rfl) (by kernel_rfl) (fun _ _ _ h => h) (Or.inl ⟨by rfl, ?_⟩) (by assumption) ?_
            rotate_left
            · intro W hSw; (try dsimp only at hSw); first | (go_simp; done) | (go_simp; with_reducible rfl)
            try simp only [Act.put, List.setIfInBounds_toArray, List.set_cons_zero, List.set_cons_succ]
            refine till_take (i := 4) (u := ?_) rfl (by kernel_rfl) (by kernel_rfl) (by kernel_rfl) (by kernel_rfl) (fun _ _ _ h => h) (Or.inl ⟨by rfl, ?_⟩) (by assumption) ?_
            rotate_left
            · intro W hSw; (try dsimp only at hSw); first | (go_simp; done) | (go_simp; with_reducible rfl)
            try simp only [Act.put, List.setIfInBounds_toArray, List.set_cons_zero, List.set_cons_succ]
            refine till_take (i := 5) (u := ?_) rfl (by kernel_rfl) (by kernel_rfl) (by kernel_rfl) (by kernel_rfl) (fun _ _ _ h => h) (Or.inl ⟨by rfl, ?_⟩) (by assumption) ?_
            rotate_left
            · intro W hSw; (try dsimp only at hSw); first | (go_simp; done) | (go_simp; with_reducible rfl)
            try simp only [Act.put, List.setIfInBounds_toArray, List.set_cons_zero, List.set_cons_succ]
            refine till_take (i := 6) (u := ?_) rfl (by kernel_rfl) (by kernel_rfl) (by kernel_rfl) (by kernel_rfl) (fun _ _ _ h => h) (Or.inl ⟨by rfl, ?_⟩) (by assumption) ?_
            rotate_left
            · intro W hSw; (try dsimp only at hSw); first | (go_simp; done) | (go_simp; with_reducible rfl)
            try simp only [Act.put, List.setIfInBounds_toArray, List.set_cons_zero, List.set_cons_succ]
            refine till_take (i := 7) (u := ?_) rfl (by kernel_rfl) (by kernel_rfl) (by kernel_rfl) (by kernel_rfl) (fun _ _ _ h => h) (Or.inl ⟨by rfl, ?_⟩) (by assumption) ?_
            rotate_left
            · intro W hSw; (try dsimp only at hSw); first | (go_simp; done) | (go_simp; with_reducible rfl)
            try simp only [Act.put, List.setIfInBounds_toArray, List.set_cons_zero, List.set_cons_succ]
            refine till_take (i := 8) (u := ?_) rfl (by kernel_rfl) (by kernel_rfl) (by kernel_rfl) (by kernel_rfl) (fun _ _ _ h => h) (Or.inl ⟨by rfl, ?_⟩) (by assumption) ?_
            rotate_left
            · intro W hSw; (try dsimp only at hSw); first | (go_simp; done) | (go_simp; with_reducible rfl)
            try simp only [Act.put, List.setIfInBounds_toArray, List.set_cons_zero, List.set_cons_succ]
            refine till_take (i := 9) (u := ?_) rfl (by kernel_rfl) (by kernel_rfl) (by kernel_rfl) (by kernel_rfl) (fun _ _ _ h => h) (Or.inl ⟨by rfl, ?_⟩) (by assumption) ?_
            rotate_left
            · intro W hSw; (try dsimp only at hSw); first | (go_simp; done) | (go_simp; with_reducible rfl)
            try simp only [Act.put, List.setIfInBounds_toArray, List.set_cons_zero, List.set_cons_succ]
            refine till_take (i := 10) (u := ?_) rfl (by kernel_rfl) (by kernel_rfl) (by kernel_rfl) (by kernel_rfl) (fun _ _ _ h => h) (Or.inl ⟨by rfl, ?_⟩) (by assumption) ?_
            rotate_left
            · intro W hSw; (try dsimp only at hSw); first | (go_simp; done) | (go_simp; with_reducible rfl)
            try simp only [Act.put, List.setIfInBounds_toArray, List.set_cons_zero, List.set_cons_succ]
            refine till_one (i := 11) rfl (by kernel_rfl) (fun K hK => ?_)
            go_simp
            go_at_call 42
            refine (FN.out _ hHeld.2.2.2.2.2.2.2).mono ?_
            rintro e w7 ⟨⟨kv, rfl, own7⟩, b7⟩
            obtain ⟨ka, kc, rfl⟩ := own_form own7
            have hS7 : w7.cell? ⟨PB, 0, none⟩ = some (.slice aa L.length ac) ∧ w7.cell? ⟨FB, 0, none⟩ = some (.int .i64 (xo : Int)) ∧ w7.cell? ⟨FB, 1, none⟩ = some (.string xn) ∧ w7.cell? ⟨FB, 2, none⟩ = some (.int .i64 xb) ∧ w7.cell? ⟨FB, 3, none⟩ = some (.slice ca lc.length cc) ∧ w7.cell? ⟨FB, 4, none⟩ = some (.slice ra lr.length rc) ∧ w7.cell? ⟨ob, oo + xo * 3 + 2, none⟩ = some (.slice na nn nc) ∧ Below (PB + 1) w5 w7 := KS.out _ _ hHeld b7
            clear hHeld
            refine (fun hHeld => hK.out _ _ (fun _ => hHeld) ?_) hS7
            clear hK K
            try simp only [Act.put, List.setIfInBounds_toArray, List.set_cons_zero, List.set_cons_succ]
            have OW7 : Hid (w7.ownsRow (PB + 1) 53 1 (.slice ka lc.length kc) lc.length (lc.map fun c => .int .u32 c)) := own_mono11 own7 SZ5.out
            have OP7 : Hid (OwnP w7 (PB + 1) vp ps) := ownP_later OP5.out ((Below.refl _ _).drew.trans b7)
            have PG7 : Hid (Prg (PB + 1) (.slice aa L.length ac) (.slice none 0 0) L [] w7) := PG5.out.later ((Below.refl _ _).drew.trans b7)
            have XP7 : Hid (XAt w7 PB [.slice aa L.length ac, .slice none 0 0, .int .i64 (mp : Int)]) := XP5.out.later (by have := SZ5.out; omega) ((Below.refl _ _).drew.trans b7)
            have SZ7 : Hid (FB < w7.heap.size ∧ w5.heap.size ≤ w7.heap.size) := ⟨Nat.lt_of_lt_of_le SZF.out b7.size, b7.size⟩
            clear own7 b7 hS7
            refine till_one (i := 12) rfl (by kernel_rfl) (fun K hK => ?_)
            go_simp
            have hS8 : (w7.alloc (.cells #[.string xn, .bool s1, .bool s2, .slice ka lc.length kc, vp] 36)).cell? ⟨PB, 0, none⟩ = some (.slice aa L.length ac) ∧ (w7.alloc (.cells #[.string xn, .bool s1, .bool s2, .slice ka lc.length kc, vp] 36)).cell? ⟨FB, 0, none⟩ = some (.int .i64 (xo : Int)) ∧ (w7.alloc (.cells #[.string xn, .bool s1, .bool s2, .slice ka lc.length kc, vp] 36)).cell? ⟨FB, 1, none⟩ = some (.string xn) ∧ (w7.alloc (.cells #[.string xn, .bool s1, .bool s2, .slice ka lc.length kc, vp] 36)).cell? ⟨FB, 2, none⟩ = some (.int .i64 xb) ∧ (w7.alloc (.cells #[.string xn, .bool s1, .bool s2, .slice ka lc.length kc, vp] 36)).cell? ⟨FB, 3, none⟩ = some (.slice ca lc.length cc) ∧ (w7.alloc (.cells #[.string xn, .bool s1, .bool s2, .slice ka lc.length kc, vp] 36)).cell? ⟨FB, 4, none⟩ = some (.slice ra lr.length rc) ∧ (w7.alloc (.cells #[.string xn, .bool s1, .bool s2, .slice ka lc.length kc, vp] 36)).cell? ⟨ob, oo + xo * 3 + 2, none⟩ = some (.slice na nn nc) ∧ Below (PB + 1) w5 (w7.alloc (.cells #[.string xn, .bool s1, .bool s2, .slice ka lc.length kc, vp] 36)) := KS.out _ _ hHeld (keep_alloc8 (Below.refl _ _) _)
            clear hHeld
            refine (fun hHeld => hK.out _ _ (fun _ => hHeld) ?_) hS8
            clear hK K
            try simp only [Act.put, List.setIfInBounds_toArray, List.set_cons_zero, List.set_cons_succ]
            clear hS8
            have EL7 : Hid (PFE (PB + 1) w7 ((⟨xn, s1, s2, lc, ps⟩, .slice ka lc.length kc, vp) : PFX)) := ⟨OW7.out, WD.out, OP7.out⟩
            have PG8 : Hid (Prg (PB + 1) (.slice aa L.length ac) (.slice none 0 0) L [] (w7.alloc (.cells #[.string xn, .bool s1, .bool s2, .slice ka lc.length kc, vp] 36))) := PG7.out.later (keep_alloc8 (Below.refl _ _) _)
            have EL8 : Hid (PFE (PB + 1) (w7.alloc (.cells #[.string xn, .bool s1, .bool s2, .slice ka lc.length kc, vp] 36)) ((⟨xn, s1, s2, lc, ps⟩, .slice ka lc.length kc, vp) : PFX)) := ⟨own_lo OW7.out fun k hk _ => (keep_alloc8 (Below.refl _ _) _).block k hk, WD.out, ownP_later OP7.out (keep_alloc8 (Below.refl _ _) _)⟩
            have NW8 : Hid (∀ i u, (pfxC ((⟨xn, s1, s2, lc, ps⟩, .slice ka lc.length kc, vp) : PFX))[i]? = some u → (w7.alloc (.cells #[.string xn, .bool s1, .bool s2, .slice ka lc.length kc, vp] 36)).cell? ((⟨w7.heap.size, 0, none⟩ : Addr).add i) = some u) := fun i u hu => by
              rw [addr_add11, Nat.zero_add]; exact new_cell' w7 _ _ i u (by simpa [pfxC] using hu)
            have LL8 : Hid (L.length + 1 ≤ maxLen ∧ (L.length + 1) * 72 ≤ 140737488355328 ∧ PB + 1 ≤ (w7.alloc (.cells #[.string xn, .bool s1, .bool s2, .slice ka lc.length kc, vp] 36)).heap.size) := by
              have h1 := LP.out
              have h2 := SZ5.out
              have h3 := SZ7.out.2
              exact ⟨by unfold maxLen; omega, by omega, by simp; omega⟩
            refine till_one (i := 13) (o := { dst := some 65, op := Op.call { callee := .builtin .append, args := #[.tmp 53, .tmp 64], argTypes := #[25, 25] }, type := _, pos := _, after := _, guard := none }) rfl (by kernel_rfl) (fun K hK => ?_)
            refine step_append_one _ (by rfl) (.tmp 53) (.tmp 64) 25 (by rfl) (PB + 1) 36 i0 _ 5 72 Tryz.underlying25 IF.out.1 IF.out.2.1 IF.out.2.2.1 IF.out.2.2.2 rfl (by decide) (.slice aa L.length ac) L.length (L.flatMap pfxC) (by rfl) PG8.out.f ⟨w7.heap.size, 0, none⟩ 1 (pfxC ((⟨xn, s1, s2, lc, ps⟩, .slice ka lc.length kc, vp) : PFX)) (by rfl) rfl NW8.out (pfx_one EL8.out) LL8.out.1 LL8.out.2.1 LL8.out.2.2 ?_
            intro a9 c9 w9 own9 gr9 wh9
            have hS9 : w9.cell? ⟨PB, 0, none⟩ = some (.slice aa L.length ac) ∧ w9.cell? ⟨FB, 0, none⟩ = some (.int .i64 (xo : Int)) ∧ w9.cell? ⟨FB, 1, none⟩ = some (.string xn) ∧ w9.cell? ⟨FB, 2, none⟩ = some (.int .i64 xb) ∧ w9.cell? ⟨FB, 3, none⟩ = some (.slice ca lc.length cc) ∧ w9.cell? ⟨FB, 4, none⟩ = some (.slice ra lr.length rc) ∧ w9.cell? ⟨ob, oo + xo * 3 + 2, none⟩ = some (.slice na nn nc) ∧ Below (PB + 1) w5 w9 := KA.out _ _ hHeld gr9
            clear hHeld
            refine (fun hHeld => hK.out _ _ (fun _ => hHeld) ?_) hS9
            clear hK K
            try simp only [Act.put, List.setIfInBounds_toArray, List.set_cons_zero, List.set_cons_succ]
            clear hS9
            have PG9 : Hid (Prg (PB + 1) (.slice a9 (L.length + 1) c9) (.slice none 0 0) (L ++ [((⟨xn, s1, s2, lc, ps⟩, .slice ka lc.length kc, vp) : PFX)]) [] w9) := PG8.out.func EL8.out own9 gr9
            have XP9 : Hid (XAt w9 PB [.slice aa L.length ac, .slice none 0 0, .int .i64 (mp : Int)]) := (XP7.out.later (by have := SZ5.out; have := SZ7.out.2; omega) (keep_alloc8 (Below.refl _ _) _)).keep (gr9.block PB (by have := LL8.out.2.2; omega) fun e => by have := (own_oct PG8.out.f PB e.symm).1; omega)
            have p0 := XP9.out.1 0 _ rfl
            have fzp := XP9.out.2
            have LOW9 : Hid (Below PB w5 w9) := (hHeld.2.2.2.2.2.2.2).mono (Nat.le_succ _)
            refine till_take (i := 14) (u := ?_) rfl (by kernel_rfl) (by kernel_rfl) (by kernel_rfl) (by kernel_rfl) (fun _ _ _ h => h) (Or.inl ⟨by rfl, ?_⟩) (by assumption) ?_
            rotate_left
            · intro W hSw; (try dsimp only at hSw); first | (go_simp; done) | (go_simp; with_reducible rfl)
            try simp only [Act.put, List.setIfInBounds_toArray, List.set_cons_zero, List.set_cons_succ]
            refine till_one (i := 15) rfl (by kernel_rfl) (fun K hK => ?_)
            go_simp
            refine hK.out _ _ (fun h => absurd rfl h) ?_
            clear hK K
            try simp only [Act.put, List.setIfInBounds_toArray, List.set_cons_zero, List.set_cons_succ]
            refine till_done (by kernel_rfl) ?_ _
            have XP10 : Hid (XAt (w9.setCell ⟨PB, 0, none⟩ (.slice a9 (L.length + 1) c9)) PB [.slice a9 (L.length + 1) c9, .slice none 0 0, .int .i64 (mp : Int)]) := XP9.out.set 0 (by simp) _
            have PG10 : Hid (Prg (PB + 1) (.slice a9 (L.length + 1) c9) (.slice none 0 0) (L ++ [((⟨xn, s1, s2, lc, ps⟩, .slice ka lc.length kc, vp) : PFX)]) [] (w9.setCell ⟨PB, 0, none⟩ (.slice a9 (L.length + 1) c9))) := PG9.out.stay fun q h1 h2 => Below.heap_setCell _ _ _ _ (by simp; omega)
            have LOW10 : Hid (Below PB W4 (w9.setCell ⟨PB, 0, none⟩ (.slice a9 (L.length + 1) c9))) := (HB5.out.trans LOW9.out).setCell (p := ⟨PB, 0, none⟩) (Nat.le_refl _) _
            have LN10 : Hid ((L ++ [((⟨xn, s1, s2, lc, ps⟩, .slice ka lc.length kc, vp) : PFX)]).length ≤ k + 1) := by have := LP.out; unfold Hid; simp; omega
            have OK10 : Hid (eachE (pfuncZ l (itemsL l) (chosenZ (itemsL l) false) (chosenZ (itemsL l) true)) ((chosenZ (itemsL l) false).take (k + 1)) = .ok ((L ++ [((⟨xn, s1, s2, lc, ps⟩, .slice ka lc.length kc, vp) : PFX)]).map Prod.fst)) := by unfold Hid; rw [List.map_append]; exact OKN.out
            clear XP9 PG9 LOW9 own9 gr9 wh9 p0 fzp hHeld
            go_wp2
            go_roundw
            case rel => exact ⟨k + 1, _, _, by omega, by go_num, XP10.out, PG10.out, OK10.out, LN10.out, LOW10.out⟩
            case measure => simp [intOf]; omega
        · obtain rfl : k = F := by omega
          have E : (chosenZ (itemsL l) false).take k = (chosenZ (itemsL l) false) := by rw [← NF.out.1]; exact List.take_length
          rw [E] at OKK
          have OKF : Hid (eachE (pfuncZ l (itemsL l) (chosenZ (itemsL l) false) (chosenZ (itemsL l) true)) (chosenZ (itemsL l) false) = .ok (L.map Prod.fst)) := OKK.out
          have XC5 : Hid (XAt wr w.heap.size [.slice fa k fc, .slice da D dc]) := XC4.out.keep (HB.out.block _ (by have := SZ4.out; omega))
          have d0 := XC5.out.1 1 _ rfl
          clear OKK E hlt H00 MAr SZr LP HW
          go_wp2
          go_loopw [71] (fun i wr => ∃ (p : Nat) (dv : Value) (LQ : List PDX), p ≤ D ∧ i = .int .i64 p ∧ XAt wr PB [.slice aa L.length ac, dv, .int .i64 (mp : Int)] ∧ Prg (PB + 1) (.slice aa L.length ac) dv L LQ wr ∧ eachE (pdataZ l (itemsL l) (chosenZ (itemsL l) false) (chosenZ (itemsL l) true)) ((chosenZ (itemsL l) true).take p) = .ok (LQ.map Prod.fst) ∧ LQ.length ≤ p ∧ Below PB W4 wr) (fun i _ => D - (intOf i).toNat)
          case atStart => exact ⟨0, _, [], Nat.zero_le _, rfl, XP.out, PG.out, rfl, Nat.le_refl _, HB.out⟩
          case round =>
            clear XP PG HB XC5 d0
            obtain ⟨p, dv, LQ, hp, rfl, hxp, hpg, hok, hln, hbel⟩ := hrel
            obtain ⟨ea, ec, rfl⟩ := own_form hpg.d
            have HB : Hid (Below PB W4 wr) := hbel
            have XP : Hid (XAt wr PB [.slice aa L.length ac, .slice ea LQ.length ec, .int .i64 (mp : Int)]) := hxp
            have PG : Hid (Prg (PB + 1) (.slice aa L.length ac) (.slice ea LQ.length ec) L LQ wr) := hpg
            have OKK : Hid (eachE (pdataZ l (itemsL l) (chosenZ (itemsL l) false) (chosenZ (itemsL l) true)) ((chosenZ (itemsL l) true).take p) = .ok (LQ.map Prod.fst)) := hok
            have LP : Hid (LQ.length ≤ p) := hln
            have HW : Hid (Below w.heap.size w wr) := UP4.out.trans (hbel.mono (by have := SZ4.out; omega))
            have H00 : Hid (Below w0.heap.size w0 wr) := bnext HB0.out HW.out
            have MAr : Hid (MeansAt wr mb mn M) := MapAt.keep MA4.out (hbel.block mb SZ4.out.2.1)
            have SZr : Hid (PB + 1 ≤ wr.heap.size) := Nat.le_trans SZ4.out.2.2 hbel.size
            clear hxp hpg hok hln hbel
            by_cases hlt2 : p < D
            · have hlt2' : (p : Int) < D := by omega
              obtain ⟨b, off, ⟨xo, ⟨xn, xb, xa, xf, xz, lb, lr⟩, vb, vr⟩, rfl, -, hx, hcl⟩ := DX1.out p hlt2
              obtain ⟨hw5, hr5, hnm⟩ := ED.out _ (List.mem_of_getElem? hx)
              dsimp only at hw5 hr5 hnm
              obtain ⟨y, hy, e1, e2⟩ := KD.out p _ hx
              dsimp only at e1 e2
              obtain ⟨hym, hyd⟩ := MEM.out _ p y hy
              obtain ⟨o, hol, -, hod⟩ := item_of hym
              obtain ⟨d, hdo, -, -, hde⟩ := hod hyd
              have hxo : xo < n := by rw [e1]; exact OLT.out y hym
              have hfw := FW.out o (List.mem_of_getElem? hol)
              have hff := hfw.2.2 d (List.mem_of_getElem? hdo)
              have hdl : lb = d.bytes ∧ lr = d.rels := by
                have q1 : (dataC l y).bytes = (dataOf l y).bytes ∧ (dataC l y).rels = (dataOf l y).rels := by unfold dataC; split <;> exact ⟨rfl, rfl⟩
                rw [hde] at q1
                rw [← e2] at q1
                exact q1
              have few1 : lb.length ≤ 5000 ∧ lr.length ≤ 70 := by rw [hdl.1, hdl.2]; exact ⟨hff.1, hff.2.1⟩
              have PDA := pdata_eq RT.out hym hyd (chosenZ (itemsL l) false) (chosenZ (itemsL l) true)
              rw [← e2, ← e1] at PDA
              dsimp only at PDA
              have PFE1 : Hid (∀ x, relsZ (itemsL l) (chosenZ (itemsL l) false) (chosenZ (itemsL l) true) xo lr = .error x → eachE (pdataZ l (itemsL l) (chosenZ (itemsL l) false) (chosenZ (itemsL l) true)) (chosenZ (itemsL l) true) = .error x) := fun x hx0 => eachE_at OKK.out hy (by rw [PDA, hx0])
              have PFO1 : Hid (∀ ps, relsZ (itemsL l) (chosenZ (itemsL l) false) (chosenZ (itemsL l) true) xo lr = .ok ps → eachE (pdataZ l (itemsL l) (chosenZ (itemsL l) false) (chosenZ (itemsL l) true)) ((chosenZ (itemsL l) true).take (p + 1)) = .ok (LQ.map Prod.fst ++ [⟨xa, xf, xz, lb, ps⟩])) := fun ps hp0 => eachE_next OKK.out hy (by rw [PDA, hp0])
              obtain ⟨ca, cc, rfl, -⟩ := id hw5.1
              obtain ⟨ra, rc, rfl, -⟩ := id hr5
              have RL : Hid (∀ W, Below wr.heap.size wr W → Calls Tryz.prog 41 #[.map (some mb), .int .i64 (xo : Int), .slice ra lr.length rc] W fun e w' => ((∃ ps v', relsZ (itemsL l) (chosenZ (itemsL l) false) (chosenZ (itemsL l) true) xo lr = .ok ps ∧ e = .returned (.tuple #[v', .int .i64 0]) ∧ OwnP w' W.heap.size v' ps) ∨ ∃ x, relsZ (itemsL l) (chosenZ (itemsL l) false) (chosenZ (itemsL l) true) xo lr = .error x ∧ e = .returned (.tuple #[.slice none 0 0, .int .i64 x])) ∧ Below W.heap.size W w') :=
                fun W hW => reloc_any (MAr.out.later hW) (by omega) (FIN.out xo) (hr5.keep (Stay.of_below (bnext H00.out hW))) (by omega)
              have x0 : wr.cell? ⟨b, off + p * 8, none⟩ = some (.int .i64 (xo : Int)) := cell_any (hcl 0 _ rfl) HW.out
              have x1 := cell_any (hcl 1 _ rfl) HW.out
              have x2 := cell_any (hcl 2 _ rfl) HW.out
              have x3 := cell_any (hcl 3 _ rfl) HW.out
              have x4 := cell_any (hcl 4 _ rfl) HW.out
              have x5 := cell_any (hcl 5 _ rfl) HW.out
              have x6 := cell_any (hcl 6 _ rfl) HW.out
              have x7 := cell_any (hcl 7 _ rfl) HW.out
              have UPF : Hid (Below wr.heap.size wr (wr.alloc (.cells #[.int .i64 (xo : Int), .string xn, .int .i64 xb, .int .i64 xa, .bool xf, .int .i64 xz, .slice ca lb.length cc, .slice ra lr.length rc] 100))) := keep_alloc8 (Below.refl _ _) _
              have XF : Hid (XAt (wr.alloc (.cells #[.int .i64 (xo : Int), .string xn, .int .i64 xb, .int .i64 xa, .bool xf, .int .i64 xz, .slice ca lb.length cc, .slice ra lr.length rc] 100)) wr.heap.size [.int .i64 (xo : Int), .string xn, .int .i64 xb, .int .i64 xa, .bool xf, .int .i64 xz, .slice ca lb.length cc, .slice ra lr.length rc]) := XAt.new _ _ _
              have SF : Hid (wr.heap.size < (wr.alloc (.cells #[.int .i64 (xo : Int), .string xn, .int .i64 xb, .int .i64 xa, .bool xf, .int .i64 xz, .slice ca lb.length cc, .slice ra lr.length rc] 100)).heap.size) := by unfold Hid; simp
              cases hR : relsZ (itemsL l) (chosenZ (itemsL l) false) (chosenZ (itemsL l) true) xo lr with
              | error x =>
                have PX : Hid (progZ l = (x, noProg)) := by unfold Hid; rw [PZ.out]; exact progW_d OKF.out (PFE1.out x hR)
                have XN : Hid (x ≠ 0) := by rcases rels_err hR with e | e <;> (unfold Hid; omega)
                have gx : (x == 0) = false := by simpa using XN.out
                have RL1 : Hid (∀ W, Below wr.heap.size wr W → Calls Tryz.prog 41 #[.map (some mb), .int .i64 (xo : Int), .slice ra lr.length rc] W fun e w' => e = .returned (.tuple #[.slice none 0 0, .int .i64 x]) ∧ Below W.heap.size W w') := fun W hW => (RL.out W hW).mono fun e w' h => by
                  rcases h with ⟨⟨ps, v', h1, -⟩ | ⟨z, h1, h2⟩, h3⟩
                  · rw [hR] at h1; cases h1
                  · rw [hR] at h1; cases h1; exact ⟨h2, h3⟩
                clear hR RL PFE1 PFO1 PDA hx hw5 hr5 hnm hy e1 e2 hym hyd hol hod hdo hde hfw hff hdl few1 hcl
                go_upto_region 19 with (go_at_call 41; refine (RL1.out _ UPF.out).mono ?_; rintro e w5 ⟨rfl, b5⟩)
                have HB5 : Hid (Below PB W4 w5) := HB.out.trans ((bnext UPF.out b5).mono (by have := SZr.out; omega))
                have XR6 : Hid (XAt w5 (w.heap.size + 1) [.slice none 0 0, .slice none 0 0, .int .i64 0]) := XR4.out.keep ((HB5.out).block _ (by have := SZ4.out; omega))
                have r0 := XR6.out.1 0 _ rfl
                have r1 := XR6.out.1 1 _ rfl
                have r2 := XR6.out.1 2 _ rfl
                have fz := XR6.out.2
                go_wp2
                exact bodyPost_ret (results_cell_tmp Tryz.results20 _ (w.heap.size + 1) (by first | rfl | simp) _ [.slice none 0 0, .slice none 0 0, .int .i64 0] (XAt.set (XAt.set (XAt.set XR6.out 0 (by simp) _) 1 (by simp) _) 2 (by simp) _) Tryz.underlying28 rfl (by kernel_rfl) (.int .i64 x) (by first | rfl | simp)) rfl
                  ⟨.inr ⟨x, PX.out, XN.out, rfl⟩, (((UP4.out.trans (HB5.out.mono (by have := SZ4.out; omega))).setCell (p := ⟨w.heap.size + 1, 0, none⟩) (Nat.le_succ _) _).setCell (p := ⟨w.heap.size + 1, 1, none⟩) (Nat.le_succ _) _).setCell (p := ⟨w.heap.size + 1, 2, none⟩) (Nat.le_succ _) _⟩
              | ok ps =>
                have OKN : Hid (eachE (pdataZ l (itemsL l) (chosenZ (itemsL l) false) (chosenZ (itemsL l) true)) ((chosenZ (itemsL l) true).take (p + 1)) = .ok (LQ.map Prod.fst ++ [⟨xa, xf, xz, lb, ps⟩])) := PFO1.out ps hR
                have RL1 : Hid (∀ W, Below wr.heap.size wr W → Calls Tryz.prog 41 #[.map (some mb), .int .i64 (xo : Int), .slice ra lr.length rc] W fun e w' => (∃ v', e = .returned (.tuple #[v', .int .i64 0]) ∧ OwnP w' W.heap.size v' ps) ∧ Below W.heap.size W w') := fun W hW => (RL.out W hW).mono fun e w' h => by
                  rcases h with ⟨⟨qs, v', h1, h2⟩ | ⟨z, h1, -⟩, h3⟩
                  · rw [hR] at h1; cases h1; exact ⟨⟨v', h2⟩, h3⟩
                  · rw [hR] at h1; cases h1
                have FN0 : Hid (∀ W rb rn rd, Below w0.heap.size w0 W → Calls Tryz.prog 43 #[.agg #[.string xn, .int .i64 xb, .int .i64 xa, .bool xf, .int .i64 xz, .slice ca lb.length cc, .slice ra lr.length rc], .slice rb rn rd] W fun e w' => (∃ v', e = .returned (.agg #[.int .i64 xa, .bool xf, .int .i64 xz, v', .slice rb rn rd]) ∧ w'.ownsRow W.heap.size 5 1 v' lb.length (lb.map fun c => .int .u8 c)) ∧ Below W.heap.size W w') := fun W rb rn rd hW =>
                  data11_any (vr := .slice ra lr.length rc) (d := ⟨xn, xb, xa, xf, xz, lb, lr⟩) (ra := rb) (rn := rn) (rc := rd) (hw5.keep (Stay.of_below hW)) (by show lb.length ≤ _; omega) ⟨ra, lr.length, rc, rfl⟩
                have WD : Hid (Byt lb) := hw5.2
                clear hR RL PFE1 PFO1 PDA hx hw5 hr5 hnm hy e1 e2 hym hyd hol hod hdo hde hfw hff hdl few1 hcl
                go_upto_region 20 with (go_at_call 41; refine (RL1.out _ UPF.out).mono ?_; rintro e w5 ⟨⟨vp, rfl, op5⟩, b5⟩; obtain ⟨pa, pc, rfl⟩ := own_form op5)
                have HB5 : Hid (Below PB W4 w5) := HB.out.trans ((bnext UPF.out b5).mono (by have := SZr.out; omega))
                have BW5 : Hid (Below wr.heap.size wr w5) := bnext UPF.out b5
                have SZ5 : Hid (PB + 1 ≤ w5.heap.size) := Nat.le_trans SZr.out BW5.out.size
                have OP5 : Hid (OwnP w5 (PB + 1) (.slice pa ps.length pc) ps) := own_mono11 op5 (Nat.le_trans SZr.out UPF.out.size)
                have XP5 : Hid (XAt w5 PB [.slice aa L.length ac, .slice ea LQ.length ec, .int .i64 (mp : Int)]) := XP.out.later (by have := SZr.out; omega) BW5.out
                have PG5 : Hid (Prg (PB + 1) (.slice aa L.length ac) (.slice ea LQ.length ec) L LQ w5) := PG.out.later BW5.out
                have XF5 : Hid (XAt w5 wr.heap.size [.int .i64 (xo : Int), .string xn, .int .i64 xb, .int .i64 xa, .bool xf, .int .i64 xz, .slice ca lb.length cc, .slice ra lr.length rc]) := XF.out.later SF.out b5
                have SZF : Hid (wr.heap.size < w5.heap.size) := Nat.lt_of_lt_of_le SF.out b5.size
                have RBF : Hid (∀ q, (Value.slice ea LQ.length ec).ownBlock = some q → PB + 1 ≤ q ∧ q < wr.heap.size) := fun q hq => own_oct PG.out.d q hq
                have FBL : Hid (PB + 1 ≤ wr.heap.size) := SZr.out
                have H05 : Hid (Below w0.heap.size w0 w5) := bnext H00.out BW5.out
                have LW0 : Hid (w0.heap.size ≤ PB + 1) := by have h2 := HB0.out.size; have h3 := SZ4.out.1; unfold Hid; omega
                clear x0 x1 x2 x3 x4 x5 x6 x7 op5 b5 UPF XF SF RL1 XP PG BW5
                generalize wr.heap.size = FB at XF5 SZF RBF FBL ⊢
                generalize eVP : (Value.slice pa ps.length pc) = vp at OP5 ⊢
                have FN : Hid (∀ W, Below (PB + 1) w5 W → Calls Tryz.prog 43 #[.agg #[.string xn, .int .i64 xb, .int .i64 xa, .bool xf, .int .i64 xz, .slice ca lb.length cc, .slice ra lr.length rc], vp] W fun e w' => (∃ v', e = .returned (.agg #[.int .i64 xa, .bool xf, .int .i64 xz, v', vp]) ∧ w'.ownsRow W.heap.size 5 1 v' lb.length (lb.map fun c => .int .u8 c)) ∧ Below W.heap.size W w') := fun W hW => by rw [← eVP]; exact FN0.out W _ _ _ (H05.out.trans (hW.mono LW0.out))
                clear FN0 eVP
                have KS : Hid (∀ W W', (W.cell? ⟨PB, 1, none⟩ = some (.slice ea LQ.length ec) ∧ W.cell? ⟨FB, 1, none⟩ = some (.string xn) ∧ W.cell? ⟨FB, 2, none⟩ = some (.int .i64 xb) ∧ W.cell? ⟨FB, 3, none⟩ = some (.int .i64 xa) ∧ W.cell? ⟨FB, 4, none⟩ = some (.bool xf) ∧ W.cell? ⟨FB, 5, none⟩ = some (.int .i64 xz) ∧ W.cell? ⟨FB, 6, none⟩ = some (.slice ca lb.length cc) ∧ W.cell? ⟨FB, 7, none⟩ = some (.slice ra lr.length rc) ∧ Below (PB + 1) w5 W) → Below W.heap.size W W' → (W'.cell? ⟨PB, 1, none⟩ = some (.slice ea LQ.length ec) ∧ W'.cell? ⟨FB, 1, none⟩ = some (.string xn) ∧ W'.cell? ⟨FB, 2, none⟩ = some (.int .i64 xb) ∧ W'.cell? ⟨FB, 3, none⟩ = some (.int .i64 xa) ∧ W'.cell? ⟨FB, 4, none⟩ = some (.bool xf) ∧ W'.cell? ⟨FB, 5, none⟩ = some (.int .i64 xz) ∧ W'.cell? ⟨FB, 6, none⟩ = some (.slice ca lb.length cc) ∧ W'.cell? ⟨FB, 7, none⟩ = some (.slice ra lr.length rc) ∧ Below (PB + 1) w5 W')) := fun W W' h hb => ⟨cell_any h.1 hb, cell_any h.2.1 hb, cell_any h.2.2.1 hb, cell_any h.2.2.2.1 hb, cell_any h.2.2.2.2.1 hb, cell_any h.2.2.2.2.2.1 hb, cell_any h.2.2.2.2.2.2.1 hb, cell_any h.2.2.2.2.2.2.2.1 hb, h.2.2.2.2.2.2.2.2.trans (hb.mono (by have := h.2.2.2.2.2.2.2.2.size; have := SZ5.out; omega))⟩
                have KA : Hid (∀ W W', (W.cell? ⟨PB, 1, none⟩ = some (.slice ea LQ.length ec) ∧ W.cell? ⟨FB, 1, none⟩ = some (.string xn) ∧ W.cell? ⟨FB, 2, none⟩ = some (.int .i64 xb) ∧ W.cell? ⟨FB, 3, none⟩ = some (.int .i64 xa) ∧ W.cell? ⟨FB, 4, none⟩ = some (.bool xf) ∧ W.cell? ⟨FB, 5, none⟩ = some (.int .i64 xz) ∧ W.cell? ⟨FB, 6, none⟩ = some (.slice ca lb.length cc) ∧ W.cell? ⟨FB, 7, none⟩ = some (.slice ra lr.length rc) ∧ Below (PB + 1) w5 W) → W.grownBy W' (Value.slice ea LQ.length ec).ownBlock → (W'.cell? ⟨PB, 1, none⟩ = some (.slice ea LQ.length ec) ∧ W'.cell? ⟨FB, 1, none⟩ = some (.string xn) ∧ W'.cell? ⟨FB, 2, none⟩ = some (.int .i64 xb) ∧ W'.cell? ⟨FB, 3, none⟩ = some (.int .i64 xa) ∧ W'.cell? ⟨FB, 4, none⟩ = some (.bool xf) ∧ W'.cell? ⟨FB, 5, none⟩ = some (.int .i64 xz) ∧ W'.cell? ⟨FB, 6, none⟩ = some (.slice ca lb.length cc) ∧ W'.cell? ⟨FB, 7, none⟩ = some (.slice ra lr.length rc) ∧ Below (PB + 1) w5 W')) := fun W W' h hg => by
                  have cf : ∀ (p : Addr) (u : Value), W.cell? p = some u → (∀ q, (Value.slice ea LQ.length ec).ownBlock = some q → p.block ≠ q) → W'.cell? p = some u := fun p u hc hn => (World.cell?_of_block (hg.block p.block (World.block_lt_of_cell? W p hc) fun e => hn p.block e.symm rfl)).trans hc
                  have n1 : ∀ q, (Value.slice ea LQ.length ec).ownBlock = some q → PB ≠ q := fun q hq => by have := (RBF.out q hq).1; omega
                  have n2 : ∀ q, (Value.slice ea LQ.length ec).ownBlock = some q → FB ≠ q := fun q hq => by have := (RBF.out q hq).2; omega
                  exact ⟨cf _ _ h.1 n1, cf _ _ h.2.1 n2, cf _ _ h.2.2.1 n2, cf _ _ h.2.2.2.1 n2, cf _ _ h.2.2.2.2.1 n2, cf _ _ h.2.2.2.2.2.1 n2, cf _ _ h.2.2.2.2.2.2.1 n2, cf _ _ h.2.2.2.2.2.2.2.1 n2, h.2.2.2.2.2.2.2.2.grown hg (by have := h.2.2.2.2.2.2.2.2.size; have := SZ5.out; omega) fun q hq => (RBF.out q hq).1⟩
                have S0 : Hid ((w5.drew.cell? ⟨PB, 1, none⟩ = some (.slice ea LQ.length ec) ∧ w5.drew.cell? ⟨FB, 1, none⟩ = some (.string xn) ∧ w5.drew.cell? ⟨FB, 2, none⟩ = some (.int .i64 xb) ∧ w5.drew.cell? ⟨FB, 3, none⟩ = some (.int .i64 xa) ∧ w5.drew.cell? ⟨FB, 4, none⟩ = some (.bool xf) ∧ w5.drew.cell? ⟨FB, 5, none⟩ = some (.int .i64 xz) ∧ w5.drew.cell? ⟨FB, 6, none⟩ = some (.slice ca lb.length cc) ∧ w5.drew.cell? ⟨FB, 7, none⟩ = some (.slice ra lr.length rc) ∧ Below (PB + 1) w5 w5.drew)) := ⟨XP5.out.1 1 _ rfl, XF5.out.1 1 _ rfl, XF5.out.1 2 _ rfl, XF5.out.1 3 _ rfl, XF5.out.1 4 _ rfl, XF5.out.1 5 _ rfl, XF5.out.1 6 _ rfl, XF5.out.1 7 _ rfl, (Below.refl _ _).drew⟩
                clear XF5
                refine wp_till (fun W => W.cell? ⟨PB, 1, none⟩ = some (.slice ea LQ.length ec) ∧ W.cell? ⟨FB, 1, none⟩ = some (.string xn) ∧ W.cell? ⟨FB, 2, none⟩ = some (.int .i64 xb) ∧ W.cell? ⟨FB, 3, none⟩ = some (.int .i64 xa) ∧ W.cell? ⟨FB, 4, none⟩ = some (.bool xf) ∧ W.cell? ⟨FB, 5, none⟩ = some (.int .i64 xz) ∧ W.cell? ⟨FB, 6, none⟩ = some (.slice ca lb.length cc) ∧ W.cell? ⟨FB, 7, none⟩ = some (.slice ra lr.length rc) ∧ Below (PB + 1) w5 W) 9 (by kernel_rfl) S0.out (fun hHeld => ?_)
                refine till_take (i := 0) (u := ?_) rfl (by kernel_rfl) (by kernel_rfl) (by kernel_rfl) (by kernel_rfl) (fun _ _ _ h => h) (Or.inl ⟨by rfl, ?_⟩) (by assumption) ?_
                rotate_left
                · intro W hSw; (try dsimp only at hSw); first | (go_simp; done) | (go_simp; with_reducible rfl)
                try simp only [Act.put, List.setIfInBounds_toArray, List.set_cons_zero, List.set_cons_succ]
                refine till_take (i := 1) (u := ?_) rfl (by kernel_rfl) (by kernel_rfl) (by kernel_rfl) (by kernel_rfl) (fun _ _ _ h => h) (Or.inl ⟨by rfl, ?_⟩) (by assumption) ?_
                rotate_left
                · intro W hSw; (try dsimp only at hSw); first | (go_simp; done) | (go_simp; with_reducible rfl)
                try simp only [Act.put, List.setIfInBounds_toArray, List.set_cons_zero, List.set_cons_succ]
                refine till_take (i := 2) (u := ?_) rfl (by kernel_rfl) (by kernel_rfl) (by kernel_rfl) (by kernel_rfl) (fun _ _ _ h => h) (Or.inl ⟨by rfl, ?_⟩) (by assumption) ?_
                rotate_left
                · intro W hSw; (try dsimp only at hSw); first | (go_simp; done) | (go_simp; with_reducible rfl)
                try simp only [Act.put, List.setIfInBounds_toArray, List.set_cons_zero, List.set_cons_succ]
                refine till_take (i := 3) (u := ?_) rfl (by kernel_rfl) (by kernel_rfl) (by kernel_rfl) (by kernel_rfl) (fun _ _ _ h => h) (Or.inl ⟨by rfl, ?_⟩) (by assumption) ?_
                rotate_left
                · intro W hSw; (try dsimp only at hSw); first | (go_simp; done) | (go_simp; with_reducible rfl)
                try simp only [Act.put, List.setIfInBounds_toArray, List.set_cons_zero, List.set_cons_succ]
                refine till_take (i := 4) (u := ?_) rfl (by kernel_rfl) (by kernel_rfl) (by kernel_rfl) (by kernel_rfl) (fun _ _ _ h => h) (Or.inl ⟨by rfl, ?_⟩) (by assumption) ?_
                rotate_left
                · intro W hSw; (try dsimp only at hSw); first | (go_simp; done) | (go_simp; with_reducible rfl)
                try simp only [Act.put, List.setIfInBounds_toArray, List.set_cons_zero, List.set_cons_succ]
                refine till_one (i := 5) rfl (by kernel_rfl) (fun K hK => ?_)
                go_simp
                go_at_call 43
                refine (FN.out _ hHeld.2.2.2.2.2.2.2.2).mono ?_
                rintro e w7 ⟨⟨kv, rfl, own7⟩, b7⟩
                obtain ⟨ka, kc, rfl⟩ := own_form own7
                have hS7 : w7.cell? ⟨PB, 1, none⟩ = some (.slice ea LQ.length ec) ∧ w7.cell? ⟨FB, 1, none⟩ = some (.string xn) ∧ w7.cell? ⟨FB, 2, none⟩ = some (.int .i64 xb) ∧ w7.cell? ⟨FB, 3, none⟩ = some (.int .i64 xa) ∧ w7.cell? ⟨FB, 4, none⟩ = some (.bool xf) ∧ w7.cell? ⟨FB, 5, none⟩ = some (.int .i64 xz) ∧ w7.cell? ⟨FB, 6, none⟩ = some (.slice ca lb.length cc) ∧ w7.cell? ⟨FB, 7, none⟩ = some (.slice ra lr.length rc) ∧ Below (PB + 1) w5 w7 := KS.out _ _ hHeld b7
                clear hHeld
                refine (fun hHeld => hK.out _ _ (fun _ => hHeld) ?_) hS7
                clear hK K
                try simp only [Act.put, List.setIfInBounds_toArray, List.set_cons_zero, List.set_cons_succ]
                have OW7 : Hid (w7.ownsRow (PB + 1) 5 1 (.slice ka lb.length kc) lb.length (lb.map fun c => .int .u8 c)) := own_mono11 own7 SZ5.out
                have OP7 : Hid (OwnP w7 (PB + 1) vp ps) := ownP_later OP5.out ((Below.refl _ _).drew.trans b7)
                have PG7 : Hid (Prg (PB + 1) (.slice aa L.length ac) (.slice ea LQ.length ec) L LQ w7) := PG5.out.later ((Below.refl _ _).drew.trans b7)
                have XP7 : Hid (XAt w7 PB [.slice aa L.length ac, .slice ea LQ.length ec, .int .i64 (mp : Int)]) := XP5.out.later (by have := SZ5.out; omega) ((Below.refl _ _).drew.trans b7)
                have SZ7 : Hid (FB < w7.heap.size ∧ w5.heap.size ≤ w7.heap.size) := ⟨Nat.lt_of_lt_of_le SZF.out b7.size, b7.size⟩
                clear own7 b7 hS7
                refine till_one (i := 6) rfl (by kernel_rfl) (fun K hK => ?_)
                go_simp
                have hS8 : (w7.alloc (.cells #[.int .i64 xa, .bool xf, .int .i64 xz, .slice ka lb.length kc, vp] 41)).cell? ⟨PB, 1, none⟩ = some (.slice ea LQ.length ec) ∧ (w7.alloc (.cells #[.int .i64 xa, .bool xf, .int .i64 xz, .slice ka lb.length kc, vp] 41)).cell? ⟨FB, 1, none⟩ = some (.string xn) ∧ (w7.alloc (.cells #[.int .i64 xa, .bool xf, .int .i64 xz, .slice ka lb.length kc, vp] 41)).cell? ⟨FB, 2, none⟩ = some (.int .i64 xb) ∧ (w7.alloc (.cells #[.int .i64 xa, .bool xf, .int .i64 xz, .slice ka lb.length kc, vp] 41)).cell? ⟨FB, 3, none⟩ = some (.int .i64 xa) ∧ (w7.alloc (.cells #[.int .i64 xa, .bool xf, .int .i64 xz, .slice ka lb.length kc, vp] 41)).cell? ⟨FB, 4, none⟩ = some (.bool xf) ∧ (w7.alloc (.cells #[.int .i64 xa, .bool xf, .int .i64 xz, .slice ka lb.length kc, vp] 41)).cell? ⟨FB, 5, none⟩ = some (.int .i64 xz) ∧ (w7.alloc (.cells #[.int .i64 xa, .bool xf, .int .i64 xz, .slice ka lb.length kc, vp] 41)).cell? ⟨FB, 6, none⟩ = some (.slice ca lb.length cc) ∧ (w7.alloc (.cells #[.int .i64 xa, .bool xf, .int .i64 xz, .slice ka lb.length kc, vp] 41)).cell? ⟨FB, 7, none⟩ = some (.slice ra lr.length rc) ∧ Below (PB + 1) w5 (w7.alloc (.cells #[.int .i64 xa, .bool xf, .int .i64 xz, .slice ka lb.length kc, vp] 41)) := KS.out _ _ hHeld (keep_alloc8 (Below.refl _ _) _)
                clear hHeld
                refine (fun hHeld => hK.out _ _ (fun _ => hHeld) ?_) hS8
                clear hK K
                try simp only [Act.put, List.setIfInBounds_toArray, List.set_cons_zero, List.set_cons_succ]
                clear hS8
                have EL7 : Hid (PDE (PB + 1) w7 ((⟨xa, xf, xz, lb, ps⟩, .slice ka lb.length kc, vp) : PDX)) := ⟨OW7.out, WD.out, OP7.out⟩
                have PG8 : Hid (Prg (PB + 1) (.slice aa L.length ac) (.slice ea LQ.length ec) L LQ (w7.alloc (.cells #[.int .i64 xa, .bool xf, .int .i64 xz, .slice ka lb.length kc, vp] 41))) := PG7.out.later (keep_alloc8 (Below.refl _ _) _)
                have EL8 : Hid (PDE (PB + 1) (w7.alloc (.cells #[.int .i64 xa, .bool xf, .int .i64 xz, .slice ka lb.length kc, vp] 41)) ((⟨xa, xf, xz, lb, ps⟩, .slice ka lb.length kc, vp) : PDX)) := ⟨own_lo OW7.out fun k hk _ => (keep_alloc8 (Below.refl _ _) _).block k hk, WD.out, ownP_later OP7.out (keep_alloc8 (Below.refl _ _) _)⟩
                have NW8 : Hid (∀ i u, (pdxC ((⟨xa, xf, xz, lb, ps⟩, .slice ka lb.length kc, vp) : PDX))[i]? = some u → (w7.alloc (.cells #[.int .i64 xa, .bool xf, .int .i64 xz, .slice ka lb.length kc, vp] 41)).cell? ((⟨w7.heap.size, 0, none⟩ : Addr).add i) = some u) := fun i u hu => by
                  rw [addr_add11, Nat.zero_add]; exact new_cell' w7 _ _ i u (by simpa [pdxC] using hu)
                have LL8 : Hid (LQ.length + 1 ≤ maxLen ∧ (LQ.length + 1) * 72 ≤ 140737488355328 ∧ PB + 1 ≤ (w7.alloc (.cells #[.int .i64 xa, .bool xf, .int .i64 xz, .slice ka lb.length kc, vp] 41)).heap.size) := by
                  have h1 := LP.out
                  have h2 := SZ5.out
                  have h3 := SZ7.out.2
                  exact ⟨by unfold maxLen; omega, by omega, by simp; omega⟩
                refine till_one (i := 7) (o := { dst := some 96, op := Op.call { callee := .builtin .append, args := #[.tmp 90, .tmp 95], argTypes := #[26, 26] }, type := _, pos := _, after := _, guard := none }) rfl (by kernel_rfl) (fun K hK => ?_)
                refine step_append_one _ (by rfl) (.tmp 90) (.tmp 95) 26 (by rfl) (PB + 1) 41 i1 _ 5 72 Tryz.underlying26 ID.out.1 ID.out.2.1 ID.out.2.2.1 ID.out.2.2.2 rfl (by decide) (.slice ea LQ.length ec) LQ.length (LQ.flatMap pdxC) (by rfl) PG8.out.d ⟨w7.heap.size, 0, none⟩ 1 (pdxC ((⟨xa, xf, xz, lb, ps⟩, .slice ka lb.length kc, vp) : PDX)) (by rfl) rfl NW8.out (pdx_one EL8.out) LL8.out.1 LL8.out.2.1 LL8.out.2.2 ?_
                intro a9 c9 w9 own9 gr9 wh9
                have hS9 : w9.cell? ⟨PB, 1, none⟩ = some (.slice ea LQ.length ec) ∧ w9.cell? ⟨FB, 1, none⟩ = some (.string xn) ∧ w9.cell? ⟨FB, 2, none⟩ = some (.int .i64 xb) ∧ w9.cell? ⟨FB, 3, none⟩ = some (.int .i64 xa) ∧ w9.cell? ⟨FB, 4, none⟩ = some (.bool xf) ∧ w9.cell? ⟨FB, 5, none⟩ = some (.int .i64 xz) ∧ w9.cell? ⟨FB, 6, none⟩ = some (.slice ca lb.length cc) ∧ w9.cell? ⟨FB, 7, none⟩ = some (.slice ra lr.length rc) ∧ Below (PB + 1) w5 w9 := KA.out _ _ hHeld gr9
                clear hHeld
                refine (fun hHeld => hK.out _ _ (fun _ => hHeld) ?_) hS9
                clear hK K
                try simp only [Act.put, List.setIfInBounds_toArray, List.set_cons_zero, List.set_cons_succ]
                clear hS9
                have PG9 : Hid (Prg (PB + 1) (.slice aa L.length ac) (.slice a9 (LQ.length + 1) c9) L (LQ ++ [((⟨xa, xf, xz, lb, ps⟩, .slice ka lb.length kc, vp) : PDX)]) w9) := PG8.out.data EL8.out own9 gr9
                have XP9 : Hid (XAt w9 PB [.slice aa L.length ac, .slice ea LQ.length ec, .int .i64 (mp : Int)]) := (XP7.out.later (by have := SZ5.out; have := SZ7.out.2; omega) (keep_alloc8 (Below.refl _ _) _)).keep (gr9.block PB (by have := LL8.out.2.2; omega) fun e => by have := (own_oct PG8.out.d PB e.symm).1; omega)
                have p0 := XP9.out.1 1 _ rfl
                have fzp := XP9.out.2
                have LOW9 : Hid (Below PB w5 w9) := (hHeld.2.2.2.2.2.2.2.2).mono (Nat.le_succ _)
                refine till_take (i := 8) (u := ?_) rfl (by kernel_rfl) (by kernel_rfl) (by kernel_rfl) (by kernel_rfl) (fun _ _ _ h => h) (Or.inl ⟨by rfl, ?_⟩) (by assumption) ?_
                rotate_left
                · intro W hSw; (try dsimp only at hSw); first | (go_simp; done) | (go_simp; with_reducible rfl)
                try simp only [Act.put, List.setIfInBounds_toArray, List.set_cons_zero, List.set_cons_succ]
                refine till_one (i := 9) rfl (by kernel_rfl) (fun K hK => ?_)
                go_simp
                refine hK.out _ _ (fun h => absurd rfl h) ?_
                clear hK K
                try simp only [Act.put, List.setIfInBounds_toArray, List.set_cons_zero, List.set_cons_succ]
                refine till_done (by kernel_rfl) ?_ _
                have XP10 : Hid (XAt (w9.setCell ⟨PB, 1, none⟩ (.slice a9 (LQ.length + 1) c9)) PB [.slice aa L.length ac, .slice a9 (LQ.length + 1) c9, .int .i64 (mp : Int)]) := XP9.out.set 1 (by simp) _
                have PG10 : Hid (Prg (PB + 1) (.slice aa L.length ac) (.slice a9 (LQ.length + 1) c9) L (LQ ++ [((⟨xa, xf, xz, lb, ps⟩, .slice ka lb.length kc, vp) : PDX)]) (w9.setCell ⟨PB, 1, none⟩ (.slice a9 (LQ.length + 1) c9))) := PG9.out.stay fun q h1 h2 => Below.heap_setCell _ _ _ _ (by simp; omega)
                have LOW10 : Hid (Below PB W4 (w9.setCell ⟨PB, 1, none⟩ (.slice a9 (LQ.length + 1) c9))) := (HB5.out.trans LOW9.out).setCell (p := ⟨PB, 1, none⟩) (Nat.le_refl _) _
                have LN10 : Hid ((LQ ++ [((⟨xa, xf, xz, lb, ps⟩, .slice ka lb.length kc, vp) : PDX)]).length ≤ p + 1) := by have := LP.out; unfold Hid; simp; omega
                have OK10 : Hid (eachE (pdataZ l (itemsL l) (chosenZ (itemsL l) false) (chosenZ (itemsL l) true)) ((chosenZ (itemsL l) true).take (p + 1)) = .ok ((LQ ++ [((⟨xa, xf, xz, lb, ps⟩, .slice ka lb.length kc, vp) : PDX)]).map Prod.fst)) := by unfold Hid; rw [List.map_append]; exact OKN.out
                clear XP9 PG9 LOW9 own9 gr9 wh9 p0 fzp hHeld
                go_wp2
                go_roundw
                case rel => exact ⟨p + 1, _, _, by omega, by go_num, XP10.out, PG10.out, OK10.out, LN10.out, LOW10.out⟩
                case measure => simp [intOf]; omega
            · obtain rfl : p = D := by omega
              have E : (chosenZ (itemsL l) true).take p = (chosenZ (itemsL l) true) := by rw [← NF.out.2]; exact List.take_length
              rw [E] at OKK
              have PX : Hid (progZ l = (0, ⟨L.map Prod.fst, LQ.map Prod.fst, (mp : Int)⟩)) := by unfold Hid; rw [PZ.out]; exact progW_ok OKF.out OKK.out
              have XR6 : Hid (XAt wr (w.heap.size + 1) [.slice none 0 0, .slice none 0 0, .int .i64 0]) := XR4.out.keep (HB.out.block _ (by have := SZ4.out; omega))
              have p0 := XP.out.1 0 _ rfl
              have p1 := XP.out.1 1 _ rfl
              have p2 := XP.out.1 2 _ rfl
              have r0 := XR6.out.1 0 _ rfl
              have r1 := XR6.out.1 1 _ rfl
              have r2 := XR6.out.1 2 _ rfl
              have fz := XR6.out.2
              go_wp2
              refine bodyPost_ret (results_cell_tmp Tryz.results20 _ (w.heap.size + 1) (by first | rfl | simp) _ [.slice aa L.length ac, .slice ea LQ.length ec, .int .i64 (mp : Int)] (XAt.set (XAt.set (XAt.set XR6.out 0 (by simp) _) 1 (by simp) _) 2 (by simp) _) Tryz.underlying28 rfl (by kernel_rfl) (.int .i64 0) (by first | rfl | simp)) rfl
                ⟨.inl ⟨_, _, L, LQ, _, PX.out, rfl, ?_⟩, ((HW.out.setCell (p := ⟨w.heap.size + 1, 0, none⟩) (Nat.le_succ _) _).setCell (p := ⟨w.heap.size + 1, 1, none⟩) (Nat.le_succ _) _).setCell (p := ⟨w.heap.size + 1, 2, none⟩) (Nat.le_succ _) _⟩
              have key := PG.out.stay (W' := ((wr.setCell ⟨w.heap.size + 1, 0, none⟩ (.slice aa L.length ac)).setCell ⟨w.heap.size + 1, 1, none⟩ (.slice ea LQ.length ec)).setCell ⟨w.heap.size + 1, 2, none⟩ (.int .i64 (mp : Int))) fun q h1 h2 => (Below.heap_setCell _ _ _ _ (by have := SZ4.out; simp; omega)).trans ((Below.heap_setCell _ _ _ _ (by have := SZ4.out; simp; omega)).trans (Below.heap_setCell _ _ _ _ (by have := SZ4.out; simp; omega)))
              exact key.lower (by have := SZ4.out; omega)
end Go.Proofs.YteakbpcmafdikaaGreatDoor
