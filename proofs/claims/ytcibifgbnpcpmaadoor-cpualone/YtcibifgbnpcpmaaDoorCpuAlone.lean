/- For all words and every state CpuAlone returns true: of a right and small state and 500 words at most, behind a step the register 0 is 0, memory changes by Save and Stb alone, output by Out, input by In, the places to go back to by Call and Ret, and a state that ended stays. No condition. -/
import Derived.Test.YtcibifgbnpcpmaaDoorDoorFrame
import Derived.Test.YtcibifgbnpcpmaaDoorCpuAwake
import Derived.Test.YtcibifgbnpcpmaaDoorCodeAwake
import Derived.WalkKit
import Derived.ProofKit
namespace Go.Proofs.YtcibifgbnpcpmaaDoor.cpuAlone
open Go.ChangeShapes Go.WideShapes Go.ChangeAt Go.RowKit Go.Deep
set_option linter.unusedVariables false

/-- What stands ahead of the walk. -/
theorem step_agg {w : World} {C : Array Value} {s : St} (hI : IsSt w (.agg C) s) (hs : Small s) (a : Option Addr) (n c : Nat) (f : Nat → Int) (hn : n ≤ 1000) (hh : Head a n c) (hw : RowK .u32 w a n f) (hT : Tab w) :
    Calls Tryd.prog 13 #[.slice a n c, .agg C] w fun e w' => ∃ C', e = .returned (.agg C') ∧ IsSt w' (.agg C') (stepZ n f s) ∧ Below w.heap.size w w' := by
  refine (step_st hI hs a n c f hn hh hw hT).mono ?_
  rintro e w' ⟨v, rfl, h, hb⟩
  obtain ⟨C', rfl⟩ := isSt_agg h
  exact ⟨C', rfl, h, hb⟩
set_option maxRecDepth 100000 in
theorem alone_few {w : World} {C : Array Value} {s : St} (hI : IsSt w (.agg C) s) (hl : s.bn ≤ 9223372036854775807 ∧ s.mn ≤ 9223372036854775807 ∧ s.inn ≤ 9223372036854775807 ∧ s.on_ ≤ 9223372036854775807) (a : Option Addr) (n c : Nat) (f : Nat → Int) (hn : n ≤ 9223372036854775807) (hw : RowK .u32 w a n f) (hT : Tab w) (hf : fewZ s = false) :
    Calls Tryd.prog 4 #[.slice a n c, .agg C] w fun e w' => e = .returned (.bool true) ∧ Below w.heap.size w w' := by
  have HA : Hid (Below w.heap.size w (w.alloc (.cells C 32))) := (Below.refl _ w).alloc (Nat.le_refl _) _
  have A1 : Hid (At (w.alloc (.cells C 32)) w.heap.size C) := At.new _ _ _
  have I1 : Hid (IsSt (w.alloc (.cells C 32)) (.agg C) s) := hI.later HA.out
  have T1 : Hid (Tab (w.alloc (.cells C 32))) := hT.later HA.out
  have R1 : Hid (RowK .u32 (w.alloc (.cells C 32)) a n f) := hw.later HA.out
  have hz : Hid ((Tryd.prog.info? 32).map (·.size) = some C.toList.length) := (st_info hI).2
  obtain ⟨ba, bc, ma, mc, ia, ic, oa, oc, eC, -⟩ := st_cells hI
  have EC : Hid (C = _) := eC
  clear hI hT hw eC
  go_enter Tryd.func4, Tryd.ntmps4
  go_upto_region 1 with fail
  generalize w.alloc (.cells C 32) = w0 at HA A1 I1 T1 R1 ⊢
  have F : Hid (∀ W, Below w0.heap.size w0 W → Calls Tryd.prog 8 #[.agg C] W fun e w' => e = .returned (.bool false) ∧ Below W.heap.size W w') := fun W hW => by have h := few6_st (I1.out.later hW) hl; rwa [hf] at h
  go_wp2_with (first
    | (go_at_call 7; refine (awake_st _ T1.out).mono ?_; rintro e w1 ⟨rfl, hb1⟩)
    | (go_at_call 7; revert hb2; intro hb2; refine (awake_st _ (T1.out.later (bnext hb1 hb2))).mono ?_; rintro e w3 ⟨rfl, hb3⟩)
    | ((with_reducible show wpList _ _ _ (Oper.mk _ (Op.load _ _) _ _ _ _ :: _) _ _); refine wpList_load_if (by rfl) 32 (.tmp 3) rfl w.heap.size 0 rfl C.toList _ (at_range (A1.out.later hb1)) Tryd.underlying32 rfl hz.out ?_)
    | (go_at_call 8; refine (F.out _ hb1).mono ?_; rintro e w2 ⟨rfl, hb2⟩))
  go_ret
  exact ⟨rfl, bnext (bnext (HA.out.trans (hb1.mono HA.out.size)) hb2) hb3⟩
set_option maxRecDepth 100000 in
theorem alone_long {w : World} {C : Array Value} {s : St} (hI : IsSt w (.agg C) s) (hl : s.bn ≤ 9223372036854775807 ∧ s.mn ≤ 9223372036854775807 ∧ s.inn ≤ 9223372036854775807 ∧ s.on_ ≤ 9223372036854775807) (a : Option Addr) (n c : Nat) (f : Nat → Int) (hn : n ≤ 9223372036854775807) (hw : RowK .u32 w a n f) (hT : Tab w) (hf : fewZ s = true) (h5 : (500 : Int) < n) :
    Calls Tryd.prog 4 #[.slice a n c, .agg C] w fun e w' => e = .returned (.bool true) ∧ Below w.heap.size w w' := by
  have HA : Hid (Below w.heap.size w (w.alloc (.cells C 32))) := (Below.refl _ w).alloc (Nat.le_refl _) _
  have A1 : Hid (At (w.alloc (.cells C 32)) w.heap.size C) := At.new _ _ _
  have I1 : Hid (IsSt (w.alloc (.cells C 32)) (.agg C) s) := hI.later HA.out
  have T1 : Hid (Tab (w.alloc (.cells C 32))) := hT.later HA.out
  have R1 : Hid (RowK .u32 (w.alloc (.cells C 32)) a n f) := hw.later HA.out
  have hz : Hid ((Tryd.prog.info? 32).map (·.size) = some C.toList.length) := (st_info hI).2
  obtain ⟨ba, bc, ma, mc, ia, ic, oa, oc, eC, -⟩ := st_cells hI
  have EC : Hid (C = _) := eC
  clear hI hT hw eC
  go_enter Tryd.func4, Tryd.ntmps4
  go_upto_region 1 with fail
  generalize w.alloc (.cells C 32) = w0 at HA A1 I1 T1 R1 ⊢
  have F : Hid (∀ W, Below w0.heap.size w0 W → Calls Tryd.prog 8 #[.agg C] W fun e w' => e = .returned (.bool true) ∧ Below W.heap.size W w') := fun W hW => by have h := few6_st (I1.out.later hW) hl; rwa [hf] at h
  go_wp2_with (first
    | (go_at_call 7; refine (awake_st _ T1.out).mono ?_; rintro e w1 ⟨rfl, hb1⟩)
    | (go_at_call 7; revert hb2; intro hb2; refine (awake_st _ (T1.out.later (bnext hb1 hb2))).mono ?_; rintro e w3 ⟨rfl, hb3⟩)
    | ((with_reducible show wpList _ _ _ (Oper.mk _ (Op.load _ _) _ _ _ _ :: _) _ _); refine wpList_load_if (by rfl) 32 (.tmp 3) rfl w.heap.size 0 rfl C.toList _ (at_range (A1.out.later hb1)) Tryd.underlying32 rfl hz.out ?_)
    | (go_at_call 8; refine (F.out _ hb1).mono ?_; rintro e w2 ⟨rfl, hb2⟩))
  go_ret
  exact ⟨rfl, bnext (bnext (HA.out.trans (hb1.mono HA.out.size)) hb2) hb3⟩
set_option maxRecDepth 100000 in
theorem alone_ended {w : World} {C : Array Value} {s : St} (hI : IsSt w (.agg C) s) (hl : s.bn ≤ 9223372036854775807 ∧ s.mn ≤ 9223372036854775807 ∧ s.inn ≤ 9223372036854775807 ∧ s.on_ ≤ 9223372036854775807) (a : Option Addr) (n c : Nat) (f : Nat → Int) (hn : n ≤ 9223372036854775807) (hw : RowK .u32 w a n f) (hT : Tab w) (hf : fewZ s = true) (h5 : (n : Int) ≤ 500) (hs : Small s) (hh : Head a n c) (he : s.en = true) :
    Calls Tryd.prog 4 #[.slice a n c, .agg C] w fun e w' => e = .returned (.bool true) ∧ Below w.heap.size w w' := by
  have HA : Hid (Below w.heap.size w (w.alloc (.cells C 32))) := (Below.refl _ w).alloc (Nat.le_refl _) _
  have A1 : Hid (At (w.alloc (.cells C 32)) w.heap.size C) := At.new _ _ _
  have I1 : Hid (IsSt (w.alloc (.cells C 32)) (.agg C) s) := hI.later HA.out
  have T1 : Hid (Tab (w.alloc (.cells C 32))) := hT.later HA.out
  have R1 : Hid (RowK .u32 (w.alloc (.cells C 32)) a n f) := hw.later HA.out
  have hz : Hid ((Tryd.prog.info? 32).map (·.size) = some C.toList.length) := (st_info hI).2
  obtain ⟨ba, bc, ma, mc, ia, ic, oa, oc, eC, -⟩ := st_cells hI
  have EC : Hid (C = _) := eC
  clear hI hT hw eC
  go_enter Tryd.func4, Tryd.ntmps4
  go_upto_region 1 with fail
  generalize w.alloc (.cells C 32) = w0 at HA A1 I1 T1 R1 ⊢
  have F : Hid (∀ W, Below w0.heap.size w0 W → Calls Tryd.prog 8 #[.agg C] W fun e w' => e = .returned (.bool true) ∧ Below W.heap.size W w') := fun W hW => by have h := few6_st (I1.out.later hW) hl; rwa [hf] at h
  go_upto_region 4 with (first
    | (go_at_call 7; refine (awake_st _ T1.out).mono ?_; rintro e w1 ⟨rfl, hb1⟩)
    | ((with_reducible show wpList _ _ _ (Oper.mk _ (Op.load _ _) _ _ _ _ :: _) _ _); refine wpList_load_mid rfl 32 (.tmp 3) rfl w.heap.size 0 rfl C.toList _ (at_range (A1.out.later (bnext hb1 hb2))) Tryd.underlying32 rfl hz.out ?_)
    | ((with_reducible show wpList _ _ _ (Oper.mk _ (Op.load _ _) _ _ _ _ :: _) _ _); refine wpList_load_if (by rfl) 32 (.tmp 3) rfl w.heap.size 0 rfl C.toList _ (at_range (A1.out.later hb1)) Tryd.underlying32 rfl hz.out ?_)
    | (go_at_call 8; refine (F.out _ hb1).mono ?_; rintro e w2 ⟨rfl, hb2⟩)
    | (go_at_call 13; refine (step_agg (I1.out.later (bnext hb1 hb2)) hs a n c f (by omega) hh (R1.out.later (bnext hb1 hb2)) (T1.out.later (bnext hb1 hb2))).mono ?_; rintro e w3 ⟨C2, rfl, I3, hb3⟩)
    | ((with_reducible show wpList _ _ _ (Oper.mk _ (Op.store _ _ _) _ _ _ _ :: _) _ _); refine wpList_store_fresh rfl 32 (.tmp 5) (.tmp 24) rfl w3 _ _ C2 rfl rfl (by rw [(st_shape I3).1]; rfl) (st_info I3).1 (st_shape I3).2 ?_; intro w4 hb4 A4 Z4))
  have B4 : Hid (Below w0.heap.size w0 w4) := bnext (bnext (bnext hb1 hb2) hb3) hb4
  have A1' : Hid (At w4 w.heap.size C) := A1.out.later B4.out
  have x22 : w4.cell? ⟨w.heap.size, 22, none⟩ = some (.bool true) := A1'.out 22 _ (by rw [EC.out, he]; rfl)
  have I4 : Hid (IsSt w4 (.agg C2) s) := by rw [step_ended n f s he] at I3; exact I3.later hb4
  have J4 : Hid (IsSt w4 (.agg C) s) := I1.out.later B4.out
  have hz2 : Hid ((Tryd.prog.info? 32).map (·.size) = some C2.toList.length) := (st_info I4.out).2
  have SM : Hid (∀ W, Below w4.heap.size w4 W → Calls Tryd.prog 10 #[.agg C2, .agg C] W fun e w' => e = .returned (.bool true) ∧ Below W.heap.size W w') := fun W hW => by
    have h := rsame6_st (I4.out.later hW) (J4.out.later hW) (by have := hs.2.2.1; omega) (by have := hs.2.2.1; omega)
    rwa [same_self] at h
  have hq : Hid (Below w.heap.size w w4) := HA.out.trans (B4.out.mono HA.out.size)
  clear hb1 hb2 hb3 hb4 I3
  go_wp2_with (first
    | ((with_reducible show wpList _ _ _ (Oper.mk _ (Op.load _ _) _ _ _ _ :: _) _ _); refine wpList_load_mid rfl 32 (.tmp 3) rfl w.heap.size 0 rfl C.toList _ (at_range A1'.out) Tryd.underlying32 rfl hz.out ?_)
    | ((with_reducible show wpList _ _ _ (Oper.mk _ (Op.load _ _) _ _ _ _ :: _) _ _); refine wpList_load_mid rfl 32 (.tmp 5) rfl w3.heap.size 0 rfl C2.toList _ (at_range A4.out) Tryd.underlying32 rfl hz2.out ?_)
    | (go_at_call 10; refine (SM.out _ (Below.refl _ _)).mono ?_; rintro e w5 ⟨rfl, hb5⟩))
  go_ret
  exact ⟨rfl, bnext hq.out hb5⟩
set_option maxRecDepth 100000 in
set_option maxHeartbeats 16000000 in
theorem alone_main {w : World} {C : Array Value} {s : St} (hI : IsSt w (.agg C) s) (hl : s.bn ≤ 9223372036854775807 ∧ s.mn ≤ 9223372036854775807 ∧ s.inn ≤ 9223372036854775807 ∧ s.on_ ≤ 9223372036854775807) (a : Option Addr) (n c : Nat) (f : Nat → Int) (hn : n ≤ 9223372036854775807) (hw : RowK .u32 w a n f) (hT : Tab w) (hf : fewZ s = true) (h5 : (n : Int) ≤ 500) (hs : Small s) (hh : Head a n c) (he : s.en = false) :
    Calls Tryd.prog 4 #[.slice a n c, .agg C] w fun e w' => e = .returned (.bool true) ∧ Below w.heap.size w w' := by
  have HA : Hid (Below w.heap.size w (w.alloc (.cells C 32))) := (Below.refl _ w).alloc (Nat.le_refl _) _
  have A1 : Hid (At (w.alloc (.cells C 32)) w.heap.size C) := At.new _ _ _
  have I1 : Hid (IsSt (w.alloc (.cells C 32)) (.agg C) s) := hI.later HA.out
  have T1 : Hid (Tab (w.alloc (.cells C 32))) := hT.later HA.out
  have R1 : Hid (RowK .u32 (w.alloc (.cells C 32)) a n f) := hw.later HA.out
  have hz : Hid ((Tryd.prog.info? 32).map (·.size) = some C.toList.length) := (st_info hI).2
  obtain ⟨ba, bc, ma, mc, ia, ic, oa, oc, eC, -⟩ := st_cells hI
  have EC : Hid (C = _) := eC
  clear hI hT hw eC
  go_enter Tryd.func4, Tryd.ntmps4
  go_upto_region 1 with fail
  generalize w.alloc (.cells C 32) = w0 at HA A1 I1 T1 R1 ⊢
  have F : Hid (∀ W, Below w0.heap.size w0 W → Calls Tryd.prog 8 #[.agg C] W fun e w' => e = .returned (.bool true) ∧ Below W.heap.size W w') := fun W hW => by have h := few6_st (I1.out.later hW) hl; rwa [hf] at h
  go_upto_region 4 with (first
    | (go_at_call 7; refine (awake_st _ T1.out).mono ?_; rintro e w1 ⟨rfl, hb1⟩)
    | ((with_reducible show wpList _ _ _ (Oper.mk _ (Op.load _ _) _ _ _ _ :: _) _ _); refine wpList_load_mid rfl 32 (.tmp 3) rfl w.heap.size 0 rfl C.toList _ (at_range (A1.out.later (bnext hb1 hb2))) Tryd.underlying32 rfl hz.out ?_)
    | ((with_reducible show wpList _ _ _ (Oper.mk _ (Op.load _ _) _ _ _ _ :: _) _ _); refine wpList_load_if (by rfl) 32 (.tmp 3) rfl w.heap.size 0 rfl C.toList _ (at_range (A1.out.later hb1)) Tryd.underlying32 rfl hz.out ?_)
    | (go_at_call 8; refine (F.out _ hb1).mono ?_; rintro e w2 ⟨rfl, hb2⟩)
    | (go_at_call 13; refine (step_agg (I1.out.later (bnext hb1 hb2)) hs a n c f (by omega) hh (R1.out.later (bnext hb1 hb2)) (T1.out.later (bnext hb1 hb2))).mono ?_; rintro e w3 ⟨C2, rfl, I3, hb3⟩)
    | ((with_reducible show wpList _ _ _ (Oper.mk _ (Op.store _ _ _) _ _ _ _ :: _) _ _); refine wpList_store_fresh rfl 32 (.tmp 5) (.tmp 24) rfl w3 _ _ C2 rfl rfl (by rw [(st_shape I3).1]; rfl) (st_info I3).1 (st_shape I3).2 ?_; intro w4 hb4 A4 Z4))
  have B4 : Hid (Below w0.heap.size w0 w4) := bnext (bnext (bnext hb1 hb2) hb3) hb4
  have A1' : Hid (At w4 w.heap.size C) := A1.out.later B4.out
  have I4 : Hid (IsSt w4 (.agg C2) (stepZ n f s)) := I3.later hb4
  have J4 : Hid (IsSt w4 (.agg C) s) := I1.out.later B4.out
  have R4 : Hid (RowK .u32 w4 a n f) := R1.out.later B4.out
  have hq : Hid (Below w.heap.size w w4) := HA.out.trans (B4.out.mono HA.out.size)
  have ST : Hid (Stays (opOf n f s) s (stepZ n f s)) := step_stays n f s hs.1.1 he
  obtain ⟨o, ho⟩ : ∃ o, o = opOf n f s := ⟨_, rfl⟩
  have HO : Hid (o = opOf n f s) := ho
  rw [← ho] at ST
  clear ho
  generalize stepZ n f s = t at I4 ST I3
  generalize w3.heap.size = g2 at A4 ⊢
  clear hb1 hb2 hb3 hb4 I3 B4 A1 I1 R1 T1 HA F
  obtain ⟨ba2, bc2, ma2, mc2, ia2, ic2, oa2, oc2, eC2, -⟩ := st_cells I4.out
  have EC2 : Hid (C2 = _) := eC2
  clear eC2
  have x22 : w4.cell? ⟨w.heap.size, 22, none⟩ = some (.bool false) := A1'.out 22 _ (by rw [EC.out, he]; rfl)
  have x0 : w4.cell? ⟨w.heap.size, 0, none⟩ = some (.int .i64 s.at_) := A1'.out 0 _ (by rw [EC.out]; rfl)
  have y1 : w4.cell? ⟨g2, 1, none⟩ = some (.int .u32 0) := A4.out 1 _ (by rw [EC2.out, ST.out.1]; rfl)
  have hat : 0 ≤ s.at_ ∧ s.at_ ≤ 1073741824 := hs.2.1
  go_upto_if 38 with fail
  go_cut [0, 6, 7, 8, 17, 22, 35, 36, 38] from 39 to 50 (fun z p q r z1 z2 z4 z3 y wx => p = .int .i64 o ∧ Below w4.heap.size w4 wx)
  case first =>
    by_cases h1 : (n : Int) ≤ s.at_
    · have ho : o = -1 := by rw [HO.out]; unfold opOf; rw [if_pos h1]
      subst ho
      clear ST HO EC EC2 I4 J4
      go_wp2_with fail
      go_meet
      exact ⟨rfl, Below.refl _ _⟩
    · obtain ⟨i, hi⟩ : ∃ i : Nat, s.at_ = i := ⟨s.at_.toNat, by omega⟩
      rw [hi] at x0 h1 hat
      have h2 : (i : Int) < n := by omega
      have h3 : i < n := by omega
      obtain ⟨hfw, h0 | ⟨b, off, rfl, hcell⟩⟩ := R4.out
      · omega
      have k0 := hcell i h3
      have hx := wf_u32_bd (hfw i)
      have hoo : o = if okG (f i) = true then gO (f i) else -1 := by rw [HO.out]; unfold opOf; rw [hi, if_neg h1]; rfl
      have G : Hid (∀ W, Calls Tryd.prog 14 #[.int .u32 (f i)] W fun e w' => e = .returned (rgetV (f i)) ∧ Below W.heap.size W w') := fun W => rget_all (f i) W hx.1 hx.2
      clear ST HO EC EC2 I4 J4 hcell hfw hs hl
      generalize f i = x at k0 hoo G
      cases hok : okG x
      · rw [hok, if_neg (by decide)] at hoo
        subst hoo
        unfold rgetV insV at G
        rw [hok, if_neg (by decide)] at G
        clear hok hx
        go_wp2_with (go_at_call 14; refine (G.out _).mono ?_; rintro e w5 ⟨rfl, hb5⟩)
        go_meet
        exact ⟨rfl, bnext hb5 ((Below.refl _ _).alloc (Nat.le_refl _) _)⟩
      · rw [hok, if_pos rfl] at hoo
        unfold rgetV insV at G
        rw [hok, if_pos rfl, ← hoo] at G
        clear hok hx hoo
        go_wp2_with (go_at_call 14; refine (G.out _).mono ?_; rintro e w5 ⟨rfl, hb5⟩)
        go_meet
        exact ⟨rfl, bnext hb5 ((Below.refl _ _).alloc (Nat.le_refl _) _)⟩
  case rest =>
    obtain ⟨rfl, hbc⟩ := hcut
    have I5 : Hid (IsSt wc (.agg C2) t) := I4.out.later hbc
    have J5 : Hid (IsSt wc (.agg C) s) := J4.out.later hbc
    have A5 : Hid (At wc g2 C2) := A4.out.later hbc
    have B5 : Hid (At wc w.heap.size C) := A1'.out.later hbc
    have hq5 : Hid (Below w.heap.size w wc) := hq.out.trans (hbc.mono hq.out.size)
    clear HO EC EC2 I4 J4 A4 A1' R4 hq hbc x22 x0 y1 hf he hh
    obtain ⟨s0, ⟨swt, smn⟩, sm, so, si, sb, sen, -⟩ := ST.out
    clear ST
    obtain ⟨da, dc, ea, ec, fa, fc, ga, gc, eC, -, ⟨-, hm1⟩, ⟨-, hi1⟩, -, ho1⟩ := st_cells J5.out
    obtain ⟨da2, dc2, ea2, ec2, fa2, fc2, ga2, gc2, eC2, -, ⟨-, hm2⟩, ⟨-, hi2⟩, -, ho2⟩ := st_cells I5.out
    rw [swt, smn] at eC2
    rw [smn] at hm2
    have EC : Hid (C = _) := eC
    have EC2 : Hid (C2 = _) := eC2
    clear eC eC2 hs h5 swt smn
    go_upto_region 13 with fail
    go_cut [88] from 51 to 87 (fun z wx => z = .bool false ∧ Below wc.heap.size wc wx)
    case first =>
      rcases (by omega : o = 12 ∨ o = 14 ∨ o = 22 ∨ o = 23 ∨ (o ≠ 12 ∧ o ≠ 14 ∧ o ≠ 22 ∧ o ≠ 23)) with rfl | rfl | rfl | rfl | ⟨h12, h14, h22, h23⟩
      · have p21 : wc.cell? ⟨w.heap.size, 21, none⟩ = some (.slice ga s.on_ gc) := B5.out 21 _ (by rw [EC.out]; rfl)
        have q21 : wc.cell? ⟨g2, 21, none⟩ = some (.slice ga2 t.on_ gc2) := A5.out 21 _ (by rw [EC2.out]; rfl)
        have p20 : wc.cell? ⟨w.heap.size, 20, none⟩ = some (.slice fa s.inn fc) := B5.out 20 _ (by rw [EC.out]; rfl)
        have q20 : wc.cell? ⟨g2, 20, none⟩ = some (.slice fa2 t.inn fc2) := A5.out 20 _ (by rw [EC2.out]; rfl)
        rw [(so (by decide)).1] at q21 ho2
        rw [(so (by decide)).2] at ho2
        have FO : Hid (∀ W, Below wc.heap.size wc W → Calls Tryd.prog 16 #[.slice ga2 s.on_ gc2, .slice ga s.on_ gc] W fun e w' => e = .returned (.bool true) ∧ Below W.heap.size W w') := fun W hW => by have h := bytes_eq W ga2 ga s.on_ s.on_ gc2 gc s.of_ s.of_ hl.2.2.2 hl.2.2.2 (ho2.later hW) (ho1.later hW); rwa [eqB_self] at h
        rw [(si (by decide)).1] at q20 hi2
        rw [(si (by decide)).2] at hi2
        have FI : Hid (∀ W, Below wc.heap.size wc W → Calls Tryd.prog 16 #[.slice fa2 s.inn fc2, .slice fa s.inn fc] W fun e w' => e = .returned (.bool true) ∧ Below W.heap.size W w') := fun W hW => by have h := bytes_eq W fa2 fa s.inn s.inn fc2 fc s.inf s.inf hl.2.2.1 hl.2.2.1 (hi2.later hW) (hi1.later hW); rwa [eqB_self] at h
        clear sm so si sb sen hm1 hm2 hi1 hi2 ho1 ho2 EC EC2 A5 B5 I5 J5 hq5 hl
        go_wp2_with (first
          | (go_at_call 16; revert hba; intro hba; refine (FI.out _ (hba)).mono ?_; rintro e wb ⟨rfl, hbb⟩; clear p20 q20)
          | (go_at_call 16; refine (FO.out _ (Below.refl _ _)).mono ?_; rintro e wa ⟨rfl, hba⟩; clear p21 q21; replace p20 := cell_later' p20 hba; replace q20 := cell_later' q20 hba))
        go_meet
        exact ⟨rfl, bnext (hba) hbb⟩
      · have p21 : wc.cell? ⟨w.heap.size, 21, none⟩ = some (.slice ga s.on_ gc) := B5.out 21 _ (by rw [EC.out]; rfl)
        have q21 : wc.cell? ⟨g2, 21, none⟩ = some (.slice ga2 t.on_ gc2) := A5.out 21 _ (by rw [EC2.out]; rfl)
        have p20 : wc.cell? ⟨w.heap.size, 20, none⟩ = some (.slice fa s.inn fc) := B5.out 20 _ (by rw [EC.out]; rfl)
        have q20 : wc.cell? ⟨g2, 20, none⟩ = some (.slice fa2 t.inn fc2) := A5.out 20 _ (by rw [EC2.out]; rfl)
        rw [(so (by decide)).1] at q21 ho2
        rw [(so (by decide)).2] at ho2
        have FO : Hid (∀ W, Below wc.heap.size wc W → Calls Tryd.prog 16 #[.slice ga2 s.on_ gc2, .slice ga s.on_ gc] W fun e w' => e = .returned (.bool true) ∧ Below W.heap.size W w') := fun W hW => by have h := bytes_eq W ga2 ga s.on_ s.on_ gc2 gc s.of_ s.of_ hl.2.2.2 hl.2.2.2 (ho2.later hW) (ho1.later hW); rwa [eqB_self] at h
        rw [(si (by decide)).1] at q20 hi2
        rw [(si (by decide)).2] at hi2
        have FI : Hid (∀ W, Below wc.heap.size wc W → Calls Tryd.prog 16 #[.slice fa2 s.inn fc2, .slice fa s.inn fc] W fun e w' => e = .returned (.bool true) ∧ Below W.heap.size W w') := fun W hW => by have h := bytes_eq W fa2 fa s.inn s.inn fc2 fc s.inf s.inf hl.2.2.1 hl.2.2.1 (hi2.later hW) (hi1.later hW); rwa [eqB_self] at h
        clear sm so si sb sen hm1 hm2 hi1 hi2 ho1 ho2 EC EC2 A5 B5 I5 J5 hq5 hl
        go_wp2_with (first
          | (go_at_call 16; revert hba; intro hba; refine (FI.out _ (hba)).mono ?_; rintro e wb ⟨rfl, hbb⟩; clear p20 q20)
          | (go_at_call 16; refine (FO.out _ (Below.refl _ _)).mono ?_; rintro e wa ⟨rfl, hba⟩; clear p21 q21; replace p20 := cell_later' p20 hba; replace q20 := cell_later' q20 hba))
        go_meet
        exact ⟨rfl, bnext (hba) hbb⟩
      · have p18 : wc.cell? ⟨w.heap.size, 18, none⟩ = some (.int .i64 s.wt) := B5.out 18 _ (by rw [EC.out]; rfl)
        have p19 : wc.cell? ⟨w.heap.size, 19, none⟩ = some (.slice ea s.mn ec) := B5.out 19 _ (by rw [EC.out]; rfl)
        have q18 : wc.cell? ⟨g2, 18, none⟩ = some (.int .i64 s.wt) := A5.out 18 _ (by rw [EC2.out]; rfl)
        have q19 : wc.cell? ⟨g2, 19, none⟩ = some (.slice ea2 s.mn ec2) := A5.out 19 _ (by rw [EC2.out]; rfl)
        have p21 : wc.cell? ⟨w.heap.size, 21, none⟩ = some (.slice ga s.on_ gc) := B5.out 21 _ (by rw [EC.out]; rfl)
        have q21 : wc.cell? ⟨g2, 21, none⟩ = some (.slice ga2 t.on_ gc2) := A5.out 21 _ (by rw [EC2.out]; rfl)
        rw [sm (by decide) (by decide)] at hm2
        have FM : Hid (∀ W, Below wc.heap.size wc W → Calls Tryd.prog 15 #[.agg #[.int .i64 s.wt, .slice ea2 s.mn ec2], .agg #[.int .i64 s.wt, .slice ea s.mn ec]] W fun e w' => e = .returned (.bool true) ∧ Below W.heap.size W w') := fun W hW => by have h := mem_eq W s.wt s.wt ea2 ea s.mn s.mn ec2 ec s.mf s.mf hl.2.1 hl.2.1 (hm2.later hW) (hm1.later hW); rwa [eqB_self, beq_self_eq_true, Bool.and_true] at h
        rw [(so (by decide)).1] at q21 ho2
        rw [(so (by decide)).2] at ho2
        have FO : Hid (∀ W, Below wc.heap.size wc W → Calls Tryd.prog 16 #[.slice ga2 s.on_ gc2, .slice ga s.on_ gc] W fun e w' => e = .returned (.bool true) ∧ Below W.heap.size W w') := fun W hW => by have h := bytes_eq W ga2 ga s.on_ s.on_ gc2 gc s.of_ s.of_ hl.2.2.2 hl.2.2.2 (ho2.later hW) (ho1.later hW); rwa [eqB_self] at h
        clear sm so si sb sen hm1 hm2 hi1 hi2 ho1 ho2 EC EC2 A5 B5 I5 J5 hq5 hl
        go_wp2_with (first
          | (go_at_call 16; refine (FO.out _ (hba)).mono ?_; rintro e wb ⟨rfl, hbb⟩; clear p21 q21)
          | (go_at_call 15; refine (FM.out _ (Below.refl _ _)).mono ?_; rintro e wa ⟨rfl, hba⟩; clear p18 p19 q18 q19; replace p21 := cell_later' p21 hba; replace q21 := cell_later' q21 hba))
        go_meet
        exact ⟨rfl, bnext (hba) hbb⟩
      · have p18 : wc.cell? ⟨w.heap.size, 18, none⟩ = some (.int .i64 s.wt) := B5.out 18 _ (by rw [EC.out]; rfl)
        have p19 : wc.cell? ⟨w.heap.size, 19, none⟩ = some (.slice ea s.mn ec) := B5.out 19 _ (by rw [EC.out]; rfl)
        have q18 : wc.cell? ⟨g2, 18, none⟩ = some (.int .i64 s.wt) := A5.out 18 _ (by rw [EC2.out]; rfl)
        have q19 : wc.cell? ⟨g2, 19, none⟩ = some (.slice ea2 s.mn ec2) := A5.out 19 _ (by rw [EC2.out]; rfl)
        have p20 : wc.cell? ⟨w.heap.size, 20, none⟩ = some (.slice fa s.inn fc) := B5.out 20 _ (by rw [EC.out]; rfl)
        have q20 : wc.cell? ⟨g2, 20, none⟩ = some (.slice fa2 t.inn fc2) := A5.out 20 _ (by rw [EC2.out]; rfl)
        rw [sm (by decide) (by decide)] at hm2
        have FM : Hid (∀ W, Below wc.heap.size wc W → Calls Tryd.prog 15 #[.agg #[.int .i64 s.wt, .slice ea2 s.mn ec2], .agg #[.int .i64 s.wt, .slice ea s.mn ec]] W fun e w' => e = .returned (.bool true) ∧ Below W.heap.size W w') := fun W hW => by have h := mem_eq W s.wt s.wt ea2 ea s.mn s.mn ec2 ec s.mf s.mf hl.2.1 hl.2.1 (hm2.later hW) (hm1.later hW); rwa [eqB_self, beq_self_eq_true, Bool.and_true] at h
        rw [(si (by decide)).1] at q20 hi2
        rw [(si (by decide)).2] at hi2
        have FI : Hid (∀ W, Below wc.heap.size wc W → Calls Tryd.prog 16 #[.slice fa2 s.inn fc2, .slice fa s.inn fc] W fun e w' => e = .returned (.bool true) ∧ Below W.heap.size W w') := fun W hW => by have h := bytes_eq W fa2 fa s.inn s.inn fc2 fc s.inf s.inf hl.2.2.1 hl.2.2.1 (hi2.later hW) (hi1.later hW); rwa [eqB_self] at h
        clear sm so si sb sen hm1 hm2 hi1 hi2 ho1 ho2 EC EC2 A5 B5 I5 J5 hq5 hl
        go_wp2_with (first
          | (go_at_call 16; refine (FI.out _ (hba)).mono ?_; rintro e wb ⟨rfl, hbb⟩; clear p20 q20)
          | (go_at_call 15; refine (FM.out _ (Below.refl _ _)).mono ?_; rintro e wa ⟨rfl, hba⟩; clear p18 p19 q18 q19; replace p20 := cell_later' p20 hba; replace q20 := cell_later' q20 hba))
        go_meet
        exact ⟨rfl, bnext (hba) hbb⟩
      · have p18 : wc.cell? ⟨w.heap.size, 18, none⟩ = some (.int .i64 s.wt) := B5.out 18 _ (by rw [EC.out]; rfl)
        have p19 : wc.cell? ⟨w.heap.size, 19, none⟩ = some (.slice ea s.mn ec) := B5.out 19 _ (by rw [EC.out]; rfl)
        have q18 : wc.cell? ⟨g2, 18, none⟩ = some (.int .i64 s.wt) := A5.out 18 _ (by rw [EC2.out]; rfl)
        have q19 : wc.cell? ⟨g2, 19, none⟩ = some (.slice ea2 s.mn ec2) := A5.out 19 _ (by rw [EC2.out]; rfl)
        have p21 : wc.cell? ⟨w.heap.size, 21, none⟩ = some (.slice ga s.on_ gc) := B5.out 21 _ (by rw [EC.out]; rfl)
        have q21 : wc.cell? ⟨g2, 21, none⟩ = some (.slice ga2 t.on_ gc2) := A5.out 21 _ (by rw [EC2.out]; rfl)
        have p20 : wc.cell? ⟨w.heap.size, 20, none⟩ = some (.slice fa s.inn fc) := B5.out 20 _ (by rw [EC.out]; rfl)
        have q20 : wc.cell? ⟨g2, 20, none⟩ = some (.slice fa2 t.inn fc2) := A5.out 20 _ (by rw [EC2.out]; rfl)
        rw [sm h12 h14] at hm2
        have FM : Hid (∀ W, Below wc.heap.size wc W → Calls Tryd.prog 15 #[.agg #[.int .i64 s.wt, .slice ea2 s.mn ec2], .agg #[.int .i64 s.wt, .slice ea s.mn ec]] W fun e w' => e = .returned (.bool true) ∧ Below W.heap.size W w') := fun W hW => by have h := mem_eq W s.wt s.wt ea2 ea s.mn s.mn ec2 ec s.mf s.mf hl.2.1 hl.2.1 (hm2.later hW) (hm1.later hW); rwa [eqB_self, beq_self_eq_true, Bool.and_true] at h
        rw [(so h23).1] at q21 ho2
        rw [(so h23).2] at ho2
        have FO : Hid (∀ W, Below wc.heap.size wc W → Calls Tryd.prog 16 #[.slice ga2 s.on_ gc2, .slice ga s.on_ gc] W fun e w' => e = .returned (.bool true) ∧ Below W.heap.size W w') := fun W hW => by have h := bytes_eq W ga2 ga s.on_ s.on_ gc2 gc s.of_ s.of_ hl.2.2.2 hl.2.2.2 (ho2.later hW) (ho1.later hW); rwa [eqB_self] at h
        rw [(si h22).1] at q20 hi2
        rw [(si h22).2] at hi2
        have FI : Hid (∀ W, Below wc.heap.size wc W → Calls Tryd.prog 16 #[.slice fa2 s.inn fc2, .slice fa s.inn fc] W fun e w' => e = .returned (.bool true) ∧ Below W.heap.size W w') := fun W hW => by have h := bytes_eq W fa2 fa s.inn s.inn fc2 fc s.inf s.inf hl.2.2.1 hl.2.2.1 (hi2.later hW) (hi1.later hW); rwa [eqB_self] at h
        clear sm so si sb sen hm1 hm2 hi1 hi2 ho1 ho2 EC EC2 A5 B5 I5 J5 hq5 hl
        go_wp2_with (first
          | (go_at_call 16; revert hbb; intro hbb; refine (FI.out _ (bnext (hba) hbb)).mono ?_; rintro e wc ⟨rfl, hbc⟩; clear p20 q20)
          | (go_at_call 16; refine (FO.out _ (hba)).mono ?_; rintro e wb ⟨rfl, hbb⟩; clear p21 q21; replace p20 := cell_later' p20 hbb; replace q20 := cell_later' q20 hbb)
          | (go_at_call 15; refine (FM.out _ (Below.refl _ _)).mono ?_; rintro e wa ⟨rfl, hba⟩; clear p18 p19 q18 q19; replace p21 := cell_later' p21 hba; replace q21 := cell_later' q21 hba; replace p20 := cell_later' p20 hba; replace q20 := cell_later' q20 hba))
        go_meet
        exact ⟨rfl, bnext (bnext (hba) hbb) hbc⟩
    obtain ⟨rfl, hbd⟩ := hcut
    replace A5 := A5.out.later hbd
    replace B5 := B5.out.later hbd
    have A5 : Hid (At wc g2 C2) := A5
    have B5 : Hid (At wc w.heap.size C) := B5
    replace I5 := I5.out.later hbd
    replace J5 := J5.out.later hbd
    have I5 : Hid (IsSt wc (.agg C2) t) := I5
    have J5 : Hid (IsSt wc (.agg C) s) := J5
    replace hq5 := hq5.out.trans (hbd.mono hq5.out.size)
    have hq5 : Hid (Below w.heap.size w wc) := hq5
    clear hbd hm1 hm2 hi1 hi2 ho1 ho2
    have hm1 := True.intro
    have hm2 := True.intro
    have hi1 := True.intro
    have hi2 := True.intro
    have ho1 := True.intro
    have ho2 := True.intro
    go_upto_region 15 with fail
    go_cut [114] from 89 to 113 (fun z wx => z = .bool false ∧ Below wc.heap.size wc wx)
    case first =>
      rcases (by omega : o = 20 ∨ o = 21 ∨ (o ≠ 20 ∧ o ≠ 21)) with rfl | rfl | ⟨h20, h21⟩
      · cases hten : t.en
        · have q22 : wc.cell? ⟨g2, 22, none⟩ = some (.bool t.en) := A5.out 22 _ (by rw [EC2.out]; rfl)
          rw [hten] at q22
          clear sm so si sb sen hm1 hm2 hi1 hi2 ho1 ho2 EC EC2 A5 B5 I5 J5 hq5 hl
          go_wp2_with fail
          go_meet
          exact ⟨rfl, Below.refl _ _⟩
        · have q22 : wc.cell? ⟨g2, 22, none⟩ = some (.bool t.en) := A5.out 22 _ (by rw [EC2.out]; rfl)
          have p0 : wc.cell? ⟨w.heap.size, 0, none⟩ = some (.int .i64 s.at_) := B5.out 0 _ (by rw [EC.out]; rfl)
          have q0 : wc.cell? ⟨g2, 0, none⟩ = some (.int .i64 t.at_) := A5.out 0 _ (by rw [EC2.out]; rfl)
          rw [hten] at q22
          rw [(sen hten).1] at q0
          clear sm so si sb sen hm1 hm2 hi1 hi2 ho1 ho2 EC EC2 A5 B5 I5 J5 hq5 hl
          go_wp2_with fail
          go_meet
          exact ⟨rfl, Below.refl _ _⟩
      · cases hten : t.en
        · have q22 : wc.cell? ⟨g2, 22, none⟩ = some (.bool t.en) := A5.out 22 _ (by rw [EC2.out]; rfl)
          rw [hten] at q22
          clear sm so si sb sen hm1 hm2 hi1 hi2 ho1 ho2 EC EC2 A5 B5 I5 J5 hq5 hl
          go_wp2_with fail
          go_meet
          exact ⟨rfl, Below.refl _ _⟩
        · have q22 : wc.cell? ⟨g2, 22, none⟩ = some (.bool t.en) := A5.out 22 _ (by rw [EC2.out]; rfl)
          have p0 : wc.cell? ⟨w.heap.size, 0, none⟩ = some (.int .i64 s.at_) := B5.out 0 _ (by rw [EC.out]; rfl)
          have q0 : wc.cell? ⟨g2, 0, none⟩ = some (.int .i64 t.at_) := A5.out 0 _ (by rw [EC2.out]; rfl)
          rw [hten] at q22
          rw [(sen hten).1] at q0
          clear sm so si sb sen hm1 hm2 hi1 hi2 ho1 ho2 EC EC2 A5 B5 I5 J5 hq5 hl
          go_wp2_with fail
          go_meet
          exact ⟨rfl, Below.refl _ _⟩
      · cases hten : t.en
        · have p17 : wc.cell? ⟨w.heap.size, 17, none⟩ = some (.slice da s.bn dc) := B5.out 17 _ (by rw [EC.out]; rfl)
          have q17 : wc.cell? ⟨g2, 17, none⟩ = some (.slice da2 t.bn dc2) := A5.out 17 _ (by rw [EC2.out]; rfl)
          have q22 : wc.cell? ⟨g2, 22, none⟩ = some (.bool t.en) := A5.out 22 _ (by rw [EC2.out]; rfl)
          rw [sb h20 h21] at q17
          rw [hten] at q22
          clear sm so si sb sen hm1 hm2 hi1 hi2 ho1 ho2 EC EC2 A5 B5 I5 J5 hq5 hl
          go_wp2_with fail
          go_meet
          exact ⟨rfl, Below.refl _ _⟩
        · have p17 : wc.cell? ⟨w.heap.size, 17, none⟩ = some (.slice da s.bn dc) := B5.out 17 _ (by rw [EC.out]; rfl)
          have q17 : wc.cell? ⟨g2, 17, none⟩ = some (.slice da2 t.bn dc2) := A5.out 17 _ (by rw [EC2.out]; rfl)
          have q22 : wc.cell? ⟨g2, 22, none⟩ = some (.bool t.en) := A5.out 22 _ (by rw [EC2.out]; rfl)
          have p0 : wc.cell? ⟨w.heap.size, 0, none⟩ = some (.int .i64 s.at_) := B5.out 0 _ (by rw [EC.out]; rfl)
          have q0 : wc.cell? ⟨g2, 0, none⟩ = some (.int .i64 t.at_) := A5.out 0 _ (by rw [EC2.out]; rfl)
          rw [sb h20 h21] at q17
          rw [hten] at q22
          rw [(sen hten).1] at q0
          clear sm so si sb sen hm1 hm2 hi1 hi2 ho1 ho2 EC EC2 A5 B5 I5 J5 hq5 hl
          go_wp2_with fail
          go_meet
          exact ⟨rfl, Below.refl _ _⟩
    obtain ⟨rfl, hbd⟩ := hcut
    replace A5 := A5.out.later hbd
    replace B5 := B5.out.later hbd
    have A5 : Hid (At wc g2 C2) := A5
    have B5 : Hid (At wc w.heap.size C) := B5
    replace I5 := I5.out.later hbd
    replace J5 := J5.out.later hbd
    have I5 : Hid (IsSt wc (.agg C2) t) := I5
    have J5 : Hid (IsSt wc (.agg C) s) := J5
    replace hq5 := hq5.out.trans (hbd.mono hq5.out.size)
    have hq5 : Hid (Below w.heap.size w wc) := hq5
    clear hbd hm1 hm2 hi1 hi2 ho1 ho2
    have hm1 := True.intro
    have hm2 := True.intro
    have hi1 := True.intro
    have hi2 := True.intro
    have ho1 := True.intro
    have ho2 := True.intro
    go_upto_region 17 with fail
    cases hten : t.en
    · have p18 : wc.cell? ⟨w.heap.size, 18, none⟩ = some (.int .i64 s.wt) := B5.out 18 _ (by rw [EC.out]; rfl)
      have p19 : wc.cell? ⟨w.heap.size, 19, none⟩ = some (.slice ea s.mn ec) := B5.out 19 _ (by rw [EC.out]; rfl)
      have q18 : wc.cell? ⟨g2, 18, none⟩ = some (.int .i64 s.wt) := A5.out 18 _ (by rw [EC2.out]; rfl)
      have q19 : wc.cell? ⟨g2, 19, none⟩ = some (.slice ea2 s.mn ec2) := A5.out 19 _ (by rw [EC2.out]; rfl)
      have q22 : wc.cell? ⟨g2, 22, none⟩ = some (.bool t.en) := A5.out 22 _ (by rw [EC2.out]; rfl)
      rw [hten] at q22
      clear sm so si sb sen hm1 hm2 hi1 hi2 ho1 ho2 EC EC2 A5 B5 I5 J5 hl
      go_wp2_with fail
      go_ret
      exact ⟨rfl, hq5.out⟩
    · have p18 : wc.cell? ⟨w.heap.size, 18, none⟩ = some (.int .i64 s.wt) := B5.out 18 _ (by rw [EC.out]; rfl)
      have p19 : wc.cell? ⟨w.heap.size, 19, none⟩ = some (.slice ea s.mn ec) := B5.out 19 _ (by rw [EC.out]; rfl)
      have q18 : wc.cell? ⟨g2, 18, none⟩ = some (.int .i64 s.wt) := A5.out 18 _ (by rw [EC2.out]; rfl)
      have q19 : wc.cell? ⟨g2, 19, none⟩ = some (.slice ea2 s.mn ec2) := A5.out 19 _ (by rw [EC2.out]; rfl)
      have q22 : wc.cell? ⟨g2, 22, none⟩ = some (.bool t.en) := A5.out 22 _ (by rw [EC2.out]; rfl)
      rw [hten] at q22
      have er : t.r = s.r := (sen hten).2
      have heq : ∀ W, (binOp .eql 27 (.agg (regsV s.r)) (.agg (regsV s.r))).run Tryd.prog W = .ok (.bool true) W := fun W => by have h := run_eql_regs W s.r s.r; rwa [regsB_self] at h
      have RS : Hid (wc.rangeAt w.heap.size 1 (regsV s.r).toList) := regs_range B5.out J5.out
      have RT : Hid (wc.rangeAt g2 1 (regsV s.r).toList) := by have h := regs_range A5.out I5.out; rwa [er] at h
      clear sm so si sb sen hm1 hm2 hi1 hi2 ho1 ho2 EC EC2 A5 B5 I5 J5 hl
      go_wp2_with (first
        | ((with_reducible show wpList _ _ _ (Oper.mk _ (Op.load _ _) _ _ _ _ :: _) _ _); refine wpList_load_if (by rfl) 27 (.tmp 139) rfl g2 1 rfl (regsV s.r).toList _ RT.out Tryd.underlying27 rfl regs_info16 ?_)
        | ((with_reducible show wpList _ _ _ (Oper.mk _ (Op.load _ _) _ _ _ _ :: _) _ _); refine wpList_load_if (by rfl) 27 (.tmp 138) rfl g2 1 rfl (regsV s.r).toList _ RT.out Tryd.underlying27 rfl regs_info16 ?_)
        | ((with_reducible show wpList _ _ _ (Oper.mk _ (Op.load _ _) _ _ _ _ :: _) _ _); refine wpList_load_if (by rfl) 27 (.tmp 140) rfl w.heap.size 1 rfl (regsV s.r).toList _ RS.out Tryd.underlying27 rfl regs_info16 ?_))
      go_ret
      exact ⟨rfl, hq5.out⟩
theorem walk (w : World) (a : Option Addr) (n c : Nat) (f : Nat → Int) (h0 : n ≤ c ∧ c ≤ maxLen ∧ (a = none → c = 0) ∧ RowK .u32 w a n f)
    (at1 : Int) (r1 : Nat → Int) (ba1 : Option Addr) (bn1 bc1 : Nat) (bf1 : Nat → Int) (wt1 : Int) (ma1 : Option Addr) (mn1 mc1 : Nat) (mf1 : Nat → Int) (ia1 : Option Addr) (in1 ic1 : Nat) (if1 : Nat → Int) (oa1 : Option Addr) (on1 oc1 : Nat) (of1 : Nat → Int) (en1 : Bool) (cd1 ft1 : Int)
    (h1 : (Lit.int .i64 at1).wf = true ∧ (∀ j, (Lit.int .u32 (r1 j)).wf = true) ∧ (bn1 ≤ bc1 ∧ bc1 ≤ maxLen ∧ (ba1 = none → bc1 = 0) ∧ RowK .i64 w ba1 bn1 bf1) ∧ (Lit.int .i64 wt1).wf = true ∧ (mn1 ≤ mc1 ∧ mc1 ≤ maxLen ∧ (ma1 = none → mc1 = 0) ∧ Bytes w ma1 mn1 mf1) ∧
      (in1 ≤ ic1 ∧ ic1 ≤ maxLen ∧ (ia1 = none → ic1 = 0) ∧ Bytes w ia1 in1 if1) ∧ (on1 ≤ oc1 ∧ oc1 ≤ maxLen ∧ (oa1 = none → oc1 = 0) ∧ Bytes w oa1 on1 of1) ∧ (Lit.int .u32 cd1).wf = true ∧ (Lit.int .i64 ft1).wf = true) (hT : Tab w) :
    Calls Tryd.prog 4 #[.slice a n c, stateV at1 r1 ba1 bn1 bc1 wt1 ma1 mn1 mc1 ia1 in1 ic1 oa1 on1 oc1 en1 cd1 ft1] w fun e w' => e = .returned (.bool true) ∧ Below w.heap.size w w' := by
  obtain ⟨hn0, hm0, hnil0, hw⟩ := h0
  obtain ⟨hat, hr, ⟨b1, b2, b3, hB⟩, hwt, ⟨m1, m2, m3, hM⟩, ⟨i1, i2, i3, hI⟩, ⟨o1, o2, o3, hO⟩, hcd, hft⟩ := h1
  unfold maxLen at hm0 b2 m2 i2 o2
  obtain ⟨s, es⟩ : ∃ s : St, s = ⟨at1, r1, bn1, bf1, wt1, mn1, mf1, in1, if1, on1, of1, en1, cd1, ft1⟩ := ⟨_, rfl⟩
  obtain ⟨C, eC⟩ : ∃ C : Array Value, Value.agg C = stateV at1 r1 ba1 bn1 bc1 wt1 ma1 mn1 mc1 ia1 in1 ic1 oa1 on1 oc1 en1 cd1 ft1 := ⟨_, rfl⟩
  rw [← eC]
  have hS : IsSt w (.agg C) s := by rw [es]; exact ⟨ba1, bc1, ma1, mc1, ia1, ic1, oa1, oc1, eC, ⟨⟨b1, b3⟩, hB⟩, ⟨⟨m1, m3⟩, hM⟩, ⟨⟨i1, i3⟩, hI⟩, ⟨o1, o3⟩, hO⟩
  have hl : s.bn ≤ 9223372036854775807 ∧ s.mn ≤ 9223372036854775807 ∧ s.inn ≤ 9223372036854775807 ∧ s.on_ ≤ 9223372036854775807 := by rw [es]; exact ⟨by simp only []; omega, by simp only []; omega, by simp only []; omega, by simp only []; omega⟩
  have hr' : ∀ j, (Lit.int .u32 (s.r j)).wf = true := by rw [es]; exact hr
  have hwt' : (Lit.int .i64 s.wt).wf = true := by rw [es]; exact hwt
  have hcd' : (Lit.int .u32 s.cd).wf = true := by rw [es]; exact hcd
  have hft' : (Lit.int .i64 s.ft).wf = true := by rw [es]; exact hft
  clear es eC
  cases hf : fewZ s
  · exact alone_few hS hl a n c f (by omega) hw hT hf
  · have hs := small_few hf hr' hwt' hcd' hft'
    by_cases h5 : (500 : Int) < n
    · exact alone_long hS hl a n c f (by omega) hw hT hf h5
    · cases he : s.en
      · exact alone_main hS hl a n c f (by omega) hw hT hf (by omega) hs ⟨hn0, hnil0⟩ he
      · exact alone_ended hS hl a n c f (by omega) hw hT hf (by omega) hs ⟨hn0, hnil0⟩ he

/-! ### The row's step -/
set_option maxRecDepth 100000 in
theorem lifted (os : Os) (started : os.Started) (H : Type) (enc : TypeId × Value → H) :
    ReturnsInHanded {} Tryd.checked os 4 .any (fun w args => (Rows.cpuAloneSpec.pre enc Tryd.prog Tryd.f4 [] false w args ∧ laidMetH Tryd.prog laidL w) ∧ sizedMet enc Tryd.prog Tryd.f4 (OpenSpec.ofChange Rows.cpuAloneSpec) false w args)
      (Rows.cpuAloneSpec.post enc Tryd.prog Tryd.f4 false true false false) := by
  refine returnsInHanded_of_change_and (C := Tryd.checked) (X := fun w _ => laidMetH Tryd.prog laidL w) (fun _ _ _ hh h => h.of_heap hh) own started (by kernel_rfl) Tryd.func4
    (ChangeSpec.witness_shaped (enc := enc) (C := Tryd.checked) (os := os) (X := fun w _ => laidMetH Tryd.prog laidL w) false (World.doorLaid Tryd.prog 40 os) #[.slice none 0 0, .agg #[.int .i64 0, .int .u32 0, .int .u32 0, .int .u32 0, .int .u32 0, .int .u32 0, .int .u32 0, .int .u32 0, .int .u32 0, .int .u32 0, .int .u32 0, .int .u32 0, .int .u32 0, .int .u32 0, .int .u32 0, .int .u32 0, .int .u32 0, .slice none 0 0, .int .i64 0, .slice none 0 0, .slice none 0 0, .slice none 0 0, .bool false, .int .u32 0, .int .i64 0]] 8 rfl (World.shaped_of_RefB (by kernel_rfl) (by kernel_rfl)) (by kernel_rfl) (by kernel_rfl) (by kernel_rfl) (door_met os _)) ?_
  intro W base args ds gs before hval0 hW _ _ hL _
  have hval : ∀ (j : Nat) t v, Tryd.f4.params[j]? = some t → args[j]? = some v → Value.okWide Tryd.prog W .any base t v := hval0
  have hW' := hW
  obtain ⟨p, q, hA0, hV, rfl, hfz, hnd⟩ := hW
  have hA : DataW.TrodAll enc Tryd.prog W 0 (fun _ => true) true Tryd.f4.params.toList args.toList ds p := hA0
  rw [Tryd.params4] at hA hval
  obtain ⟨v0, vs0, d0, ds0, p0, q0, hargs, rfl, rfl, h0, r0⟩ := trodAll_cons hA
  obtain ⟨v1, vs1, d1, ds1, p1, q1, rfl, rfl, rfl, h1, r1⟩ := trodAll_cons r0
  obtain ⟨rfl, rfl, rfl⟩ := trodAll_nil r1
  obtain rfl : args = #[v0, v1] := by cases args; simp_all
  obtain ⟨rfl, rfl⟩ := trodVars_none hV
  have hT := tab_of hL
  have k0 := h0
  have lt0 : ∀ x ∈ p0, x.block < W.heap.size := by obtain ⟨m, hm⟩ := k0; exact DataW.trod_lt m _ _ _ hm
  obtain ⟨va0, vn0, vc0, vf0, rfl, w0⟩ := open_sl Tryd.underlying22 Tryd.underlying26 (by kernel_rfl) (hval 0 22 v0 rfl rfl) h0
  have k1 := h1
  have lt1 : ∀ x ∈ p1, x.block < W.heap.size := by obtain ⟨m, hm⟩ := k1; exact DataW.trod_lt m _ _ _ hm
  obtain ⟨vat1, vr1, vba1, vbn1, vbc1, vbf1, vwt1, vma1, vmn1, vmc1, vmf1, via1, vin1, vic1, vif1, voa1, von1, voc1, vof1, ven1, vcd1, vft1, rfl, w1⟩ := open_state (hval 1 32 v1 rfl rfl) h1
  clear hA0 hval0
  refine (walk W va0 vn0 vc0 vf0 w0 vat1 vr1 vba1 vbn1 vbc1 vbf1 vwt1 vma1 vmn1 vmc1 vmf1 via1 vin1 vic1 vif1 voa1 von1 voc1 vof1 ven1 vcd1 vft1 w1 hT).mono fun e W' ⟨he, bel⟩ => ?_
  subst he
  exact ⟨_, rfl, _, _, _, [], _, [], hW', trodAll_mk1 (shut_bool Tryd.underlying4 _), (trodAll_cons_mk (Below.trod laidOut (by kernel_rfl) (of_decide_eq_true (by kernel_rfl)) k0 bel lt0) (trodAll_cons_mk (Below.trod laidOut (by kernel_rfl) (of_decide_eq_true (by kernel_rfl)) k1 bel lt1) trodAll_mk0)), rfl, bel.frame _, fun h => by cases h⟩

theorem over : Rows.CpuAloneSaid :=
  OpenClaim.holds_of_wide 4 Tryd.f4 rfl rfl rfl rfl rfl rfl rfl ⟨rfl, rfl, rfl, rfl, rfl⟩ rfl rfl rfl rfl rfl (by kernel_rfl) Tryd.func4 (by kernel_rfl)
    (of_decide_eq_true (by kernel_rfl)) (by unfold Func.isWrapper; first | (rw [if_pos (by decide +kernel)]; kernel_rfl) | (rw [if_neg (by decide +kernel)]; exact ⟨rfl, rfl⟩))
    (fun os started H enc _ => lifted os started H enc)

/-- The tied card. -/
theorem card : Rows.CpuAloneCardSaid :=
  Claim7.holds_tied_plain_at .later [] [.data] true (true, "2ae3b24d0b1c2a4f435f061728b50183ea705ec5160814cbbfb91f673c3328a8") false
    over (fun _ h => by cases h) (by kernel_rfl) (fun _ h => by cases h) cpuAlone_row_tie rfl ⟨rfl, rfl⟩ (by kernel_rfl) rfl
    (fun f fn hf hfn => by
      obtain rfl : f = 4 := Option.some.inj ((show Tryd.prog.funcNamed "splice/splicelaw06.CpuAlone" = some 4 by kernel_rfl).symm.trans hf) |>.symm
      obtain rfl : fn = Tryd.f4 := (Option.some.inj (Tryd.func4.symm.trans hfn)).symm
      exact ⟨by kernel_rfl, fun j t ht => by
        rw [Tryd.params4] at ht
        have hm : t ∈ [22, 32] := by simpa using Array.mem_of_getElem? ht
        have hall : ([22, 32].all fun u => !Tryd.prog.wantsStandIn u) = true := by kernel_rfl
        exact (show Tryd.prog.wantsStandIn t = false by simpa using List.all_eq_true.1 hall t hm)⟩)
    (by kernel_rfl)
end Go.Proofs.YtcibifgbnpcpmaaDoor.cpuAlone

namespace Go.Proofs.YtcibifgbnpcpmaaDoor
theorem CpuAlone_holds : Rows.CpuAloneCardSaid := cpuAlone.card
#print axioms CpuAlone_holds
end Go.Proofs.YtcibifgbnpcpmaaDoor
