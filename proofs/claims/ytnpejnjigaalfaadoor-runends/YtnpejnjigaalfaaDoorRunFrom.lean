/- What the code's From returns: lists of its own, a loop over integers. -/
import Derived.Test.YtnpejnjigaalfaaDoorRunOwnAll
import Derived.Test.YtnpejnjigaalfaaDoorRunOnceAll
namespace Go.Proofs.YtnpejnjigaalfaaDoor
open Go.ChangeShapes Go.WideShapes Go.ChangeAt Go.RowKit
set_option linter.unusedVariables false
set_option linter.unusedSimpArgs false
/-- A function's two results: a state in a variable of its own, and a slot's value. -/
theorem results_st2 {fn : Func} {p q : Tmp} (h : fn.results = #[.cell p 37, .tmp q]) (tmps : Array Value) (g : Nat) (hp : tmps.getD p undef = .pointer (some ⟨g, 0, none⟩)) (x : Value) (hq : tmps.getD q undef = x) {w0 : World} {C : Array Value} {s : St} (hI : IsSt w0 (.agg C) s) (W : World) (hA : At W g C) :
    (results fn tmps).run Tryd.prog W = .ok (.tuple #[.agg C, x]) W := by
  have hp' : tmps[p]?.getD undef = .pointer (some ⟨g, 0, none⟩) := by simpa using hp
  have hq' : tmps[q]?.getD undef = x := by simpa using hq
  have e := run_loadSt hI g W hA
  simp [results, h, hp', hq', asAddr, e]
set_option maxRecDepth 100000 in
set_option maxHeartbeats 2000000 in
theorem from_any {w : World} {C : Array Value} {s : St} {N : Nat} (hv : IsSt w (.agg C) s) (hs : Fit N s) (a : Option Addr) (n c : Nat) (f : Nat → Int) (hn : n ≤ 1000) (hh : Head a n c) (hw : RowK .u32 w a n f) (hT : Tab w) (kv : Int) (hkv : N + kv.toNat ≤ 4000) :
    Calls Tryd.prog 15 #[.slice a n c, .agg C, .int .i64 kv] w fun e w' => ∃ C', e = .returned (.tuple #[.agg C', .int .i64 (cntY n f s kv.toNat : Nat)]) ∧ IsSt w' (.agg C') (itY n f s kv.toNat) ∧ Own w.heap.size w' C' (itY n f s kv.toNat).bn (itY n f s kv.toNat).bf ∧ Below w.heap.size w w' := by
  have B0 : Hid (Boxed w ((w.alloc (.cells C 37)).alloc (.cells noSt 37)) w.heap.size (w.heap.size + 1) C C s) := Boxed.new hv _ _
  have TH0 : Hid (((w.alloc (.cells C 37)).alloc (.cells noSt 37)).there w.heap.size 0 25) := by
    have h := fresh_there w C C 37 rfl
    rw [(st_shape hv).1] at h
    exact there_later h ((Below.refl _ _).alloc (Nat.le_refl _) _)
  have CR : Hid (RowK .u32 w a n f) := hw
  have HT : Hid (Tab w) := hT
  have HS : Hid (Fit N s) := hs
  obtain ⟨k, ek⟩ : ∃ k, kv.toNat = k := ⟨_, rfl⟩
  rw [ek] at hkv ⊢
  have hk : N + k ≤ 4000 := hkv
  obtain ⟨T, eT⟩ : ∃ T, itY n f s k = T := ⟨_, rfl⟩
  obtain ⟨M, eM⟩ : ∃ M, cntY n f s k = M := ⟨_, rfl⟩
  rw [eT, eM]
  clear hv hw hT hs hkv
  go_enter Tryd.func15, Tryd.ntmps15
  go_upto_region 1 with fail
  rw [noSt_def]
  generalize (w.alloc (.cells C 37)).alloc (.cells noSt 37) = w0 at B0 TH0 ⊢
  go_upto_region 2 with (first
    | ((with_reducible show wpList _ _ _ (Oper.mk _ (Op.call { callee := .builtin .max, args := _, argTypes := _ }) _ _ _ _ :: _) _ _); refine wpList_max rfl (.tmp 9) _ _ _ rfl _ _ rfl rfl (k : Int) (by split <;> omega) ?_)
    | ((with_reducible show wpList _ _ _ (Oper.mk _ (Op.call { callee := .builtin .min, args := _, argTypes := _ }) _ _ _ _ :: _) _ _); refine wpList_min rfl (.tmp 10) _ _ _ rfl _ _ rfl rfl (k : Int) (by split <;> omega) ?_))
  have OP : Hid (Calls Tryd.prog 28 #[.agg C] w0 fun e w' => ∃ C', e = .returned (.agg C') ∧ IsSt w' (.agg C') s ∧ Own w0.heap.size w' C' s.bn s.bf ∧ Below w0.heap.size w0 w') :=
    own_post B0.out.st ⟨by have := HS.out.bn; omega, by have := HS.out.mn; omega, by have := HS.out.inn; omega, by have := HS.out.on_; omega⟩
  go_upto_region 3 with (first
    | ((with_reducible show wpList _ _ _ (Oper.mk _ (Op.load _ _) _ _ _ _ :: _) _ _); refine wpList_load_if (by rfl) 37 (.tmp 4) rfl w.heap.size 0 rfl C.toList _ (at_range B0.out.at_) Tryd.underlying37 rfl (st_info B0.out.st).2 ?_)
    | (go_at_call 28; refine OP.out.mono ?_; rintro e w1 ⟨C1, rfl, h1, o1, b1⟩)
    | ((with_reducible show wpList _ _ _ (Oper.mk _ (Op.store _ _ _) _ _ _ _ :: _) _ _); refine wpList_store_mid rfl 37 (.tmp 4) (.tmp 13) rfl w.heap.size 0 C1 rfl rfl (by rw [(st_shape h1).1]; exact there_later TH0.out b1) (st_info h1).1 (st_shape h1).2 ?_))
  obtain ⟨B, eB⟩ : ∃ B, w0.heap.size = B := ⟨_, rfl⟩
  have hB0 : w.heap.size + 2 ≤ B := by have := B0.out.hb; omega
  rw [eB] at o1 b1
  have A2 : Hid (At (w1.setCells w.heap.size 0 C1.toList) w.heap.size C1) := at_of_range (World.rangeAt_setCells_same w1 _ 0 C1.toList (by rw [Array.length_toList, (st_shape h1).1]; exact there_later TH0.out (by rw [eB]; exact b1)))
  have T2 : Hid ((w1.setCells w.heap.size 0 C1.toList).there w.heap.size 0 25) := World.there_setCells (there_later TH0.out (by rw [eB]; exact b1)) _ _ _
  have R2 : Hid ((w1.setCells w.heap.size 0 C1.toList).there (w.heap.size + 1) 0 25) := World.there_setCells (there_later B0.out.room (by rw [eB]; exact b1)) _ _ _
  have I2 : Hid (IsSt (w1.setCells w.heap.size 0 C1.toList) (.agg C1) s) := IsSt.setAll (o1.far _ (by omega)) _ _ _ h1
  have O2 : Hid (Own B (w1.setCells w.heap.size 0 C1.toList) C1 s.bn s.bf) := o1.grown (by omega) (grown_setCells _ _ _ _)
  have b2 : Hid (Below w.heap.size w (w1.setCells w.heap.size 0 C1.toList)) := below_setCells _ _ _ _ (B0.out.bel.trans (b1.mono (by omega))) (Nat.le_refl _)
  have s2 : Hid (B ≤ (w1.setCells w.heap.size 0 C1.toList).heap.size) := by rw [size_setCells, ← eB]; exact (by rw [← eB] at b1; exact b1.size)
  clear h1 o1 b1 OP
  generalize w1.setCells w.heap.size 0 C1.toList = w2 at A2 T2 R2 I2 O2 b2 s2 ⊢
  clear w1 B0 TH0 eB
  clear w0
  go_upto_region 4 with fail
  go_loopw [15] (fun i wr => ∃ (j : Nat) (C' : Array Value), i = .int .i64 j ∧ j ≤ k ∧ (∀ m, m < j → (itY n f s m).en = false) ∧ At wr w.heap.size C' ∧ wr.there w.heap.size 0 25 ∧ wr.there (w.heap.size + 1) 0 25 ∧ IsSt wr (.agg C') (itY n f s j) ∧ Own B wr C' (itY n f s j).bn (itY n f s j).bf ∧ B ≤ wr.heap.size ∧ Below w.heap.size w wr) (fun i _ => k - (intOf i).toNat)
  case atStart => exact ⟨0, C1, rfl, Nat.zero_le _, fun m hm => by omega, A2.out, T2.out, R2.out, I2.out, O2.out, s2.out, b2.out⟩
  case round =>
    obtain ⟨j, C', rfl, hj, hgo, hA, hT1, hT2, hI, hO, hS, hB⟩ := hrel
    clear A2 T2 R2 I2 O2 b2 s2
    have O7 : Hid (Own B wr C' (itY n f s j).bn (itY n f s j).bf) := hO
    have A7 : Hid (At wr w.heap.size C') := hA
    have T7 : Hid (wr.there w.heap.size 0 25) := hT1
    have R7 : Hid (wr.there (w.heap.size + 1) 0 25) := hT2
    have S7 : Hid (B ≤ wr.heap.size) := hS
    have HB : Hid (Below w.heap.size w wr) := hB
    have HZ : Hid ((Tryd.prog.info? 37).map (·.size) = some C'.toList.length) := (st_info hI).2
    have x22 : wr.cell? ⟨w.heap.size, 22, none⟩ = some (.bool (itY n f s j).en) := by
      obtain ⟨ba2, bc2, ma2, mc2, ia2, ic2, oa2, oc2, eC, -⟩ := st_cells hI
      exact hA 22 _ (by rw [eC]; rfl)
    have HG : Hid (∀ m, m < j → (itY n f s m).en = false) := hgo
    have HI : Hid (IsSt wr (.agg C') (itY n f s j)) := hI
    clear hA hT1 hT2 hO hS hB hgo hI
    by_cases hlt : j < k
    · have hlt' : (j : Int) < k := by omega
      cases hen : (itY n f s j).en
      · have HEN : Hid ((itY n f s j).en = false) := hen
        rw [hen] at x22
        have ST : Hid (Calls Tryd.prog 29 #[.slice a n c, .agg C'] wr fun e w' => ∃ C9, e = .returned (.agg C9) ∧ IsSt w' (.agg C9) (itY n f s (j + 1)) ∧ Own B w' C9 (itY n f s (j + 1)).bn (itY n f s (j + 1)).bf ∧ Below B wr w') := step_own HI.out (fit_it HS.out hn j) (by omega) O7.out S7.out a n c f hn (CR.out.later HB.out) (HT.out.later HB.out)
        clear hen
        go_wp2_with (first
          | ((with_reducible show wpList _ _ _ (Oper.mk _ (Op.load _ _) _ _ _ _ :: _) _ _); refine wpList_load_if (by rfl) 37 (.tmp 4) rfl w.heap.size 0 rfl C'.toList _ (at_range A7.out) Tryd.underlying37 rfl HZ.out ?_)
          | (go_at_call 29; refine ST.out.mono ?_; rintro e w9 ⟨C9, rfl, h9, o9, b9⟩)
          | ((with_reducible show wpList _ _ _ (Oper.mk _ (Op.store _ _ _) _ _ _ _ :: _) _ _); refine wpList_store_mid rfl 37 (.tmp 4) (.tmp 24) rfl w.heap.size 0 C9 rfl rfl (by rw [(st_shape h9).1]; exact there_below T7.out b9 (by omega)) (st_info h9).1 (st_shape h9).2 ?_))
        go_roundw
        case rel =>
          have T9 := there_below T7.out b9 (by omega)
          refine ⟨j + 1, C9, by go_num, by omega, fun m hm => ?_, at_of_range (World.rangeAt_setCells_same w9 _ 0 C9.toList (by rw [Array.length_toList, (st_shape h9).1]; exact T9)), World.there_setCells T9 _ _ _, World.there_setCells (there_below R7.out b9 (by omega)) _ _ _, IsSt.setAll (o9.far _ (by omega)) _ _ _ h9, o9.grown (by omega) (grown_setCells _ _ _ _), by rw [size_setCells]; exact Nat.le_trans S7.out b9.size, below_setCells _ _ _ _ (HB.out.trans (b9.mono (by omega))) (Nat.le_refl _)⟩
          rcases (by omega : m < j ∨ m = j) with e | rfl
          · exact HG.out m e
          · exact HEN.out
        case measure => simp [intOf]; omega
      · have hN2 : cntY n f s j = j := cntY_all HG.out
        have hE := itY_ended hen (k - j)
        rw [show j + (k - j) = k from by omega, eT, eM, hN2] at hE
        obtain ⟨hE1, rfl⟩ := hE
        rw [hen] at x22
        have HJ : Hid (IsSt wr (.agg C') T) := by have h := HI.out; rw [← hE1] at h; exact h
        have OJ : Hid (Own B wr C' T.bn T.bf) := by have h := O7.out; rw [← hE1] at h; exact h
        clear HI hE1 hen O7
        go_wp2_with (first
          | ((with_reducible show wpList _ _ _ (Oper.mk _ (Op.load _ _) _ _ _ _ :: _) _ _); refine wpList_load_if (by rfl) 37 (.tmp 4) rfl w.heap.size 0 rfl C'.toList _ (at_range A7.out) Tryd.underlying37 rfl HZ.out ?_)
          | ((with_reducible show wpList _ _ _ (Oper.mk _ (Op.store _ _ _) _ _ _ _ :: _) _ _); refine wpList_store_mid rfl 37 (.tmp 6) (.tmp 20) rfl (w.heap.size + 1) 0 C' rfl rfl (by rw [(st_shape HJ.out).1]; exact R7.out) (st_info HJ.out).1 (st_shape HJ.out).2 ?_))
        exact bodyPost_ret (v := .tuple #[.agg C', .int .i64 M]) (results_st2 rfl _ (w.heap.size + 1) (by first | rfl | simp) _ (by first | rfl | simp) HJ.out _ (at_of_range (World.rangeAt_setCells_same wr _ 0 C'.toList (by rw [Array.length_toList, (st_shape HJ.out).1]; exact R7.out)))) rfl ⟨C', rfl, IsSt.setAll (OJ.out.far _ (by omega)) _ _ _ HJ.out, (OJ.out.grown (by omega) (grown_setCells _ _ _ _)).mono (by omega), below_setCells _ _ _ _ HB.out (by omega)⟩
    · obtain rfl : j = k := by omega
      have hN2 : M = j := by rw [← eM]; exact cntY_all HG.out
      subst hN2
      have HJ : Hid (IsSt wr (.agg C') T) := by have h := HI.out; rw [eT] at h; exact h
      have OJ : Hid (Own B wr C' T.bn T.bf) := by have h := O7.out; rw [eT] at h; exact h
      clear HI O7
      go_wp2_with (first
        | ((with_reducible show wpList _ _ _ (Oper.mk _ (Op.load _ _) _ _ _ _ :: _) _ _); refine wpList_load_if (by rfl) 37 (.tmp 4) rfl w.heap.size 0 rfl C'.toList _ (at_range A7.out) Tryd.underlying37 rfl HZ.out ?_)
        | ((with_reducible show wpList _ _ _ (Oper.mk _ (Op.store _ _ _) _ _ _ _ :: _) _ _); refine wpList_store_mid rfl 37 (.tmp 6) (.tmp 26) rfl (w.heap.size + 1) 0 C' rfl rfl (by rw [(st_shape HJ.out).1]; exact R7.out) (st_info HJ.out).1 (st_shape HJ.out).2 ?_))
      exact bodyPost_ret (v := .tuple #[.agg C', .int .i64 M]) (results_st2 rfl _ (w.heap.size + 1) (by first | rfl | simp) _ (by first | rfl | simp) HJ.out _ (at_of_range (World.rangeAt_setCells_same wr _ 0 C'.toList (by rw [Array.length_toList, (st_shape HJ.out).1]; exact R7.out)))) rfl ⟨C', rfl, IsSt.setAll (OJ.out.far _ (by omega)) _ _ _ HJ.out, (OJ.out.grown (by omega) (grown_setCells _ _ _ _)).mono (by omega), below_setCells _ _ _ _ HB.out (by omega)⟩
theorem from_st {w : World} {C : Array Value} {s : St} {N : Nat} (hv : IsSt w (.agg C) s) (hs : Fit N s) (a : Option Addr) (n c : Nat) (f : Nat → Int) (hn : n ≤ 1000) (hh : Head a n c) (hw : RowK .u32 w a n f) (hT : Tab w) (k : Nat) (hk : N + k ≤ 4000) :
    Calls Tryd.prog 15 #[.slice a n c, .agg C, .int .i64 k] w fun e w' => ∃ C', e = .returned (.tuple #[.agg C', .int .i64 (cntY n f s k : Nat)]) ∧ IsSt w' (.agg C') (itY n f s k) ∧ Below w.heap.size w w' :=
  (from_any hv hs a n c f hn hh hw hT (k : Int) (by rw [Int.toNat_natCast]; exact hk)).mono fun e w' ⟨C', h1, h2, h3, h4⟩ => ⟨C', by rw [Int.toNat_natCast] at h1; exact h1, by rw [Int.toNat_natCast] at h2; exact h2, h4⟩
end Go.Proofs.YtnpejnjigaalfaaDoor
