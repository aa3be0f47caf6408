/- For all words, every state and every byte CpuCalls returns true: of a right and small state that didn't end, at a place up to 200, a call to another place leads there, and the Ret there leads behind the call, with all else as it was. No condition. -/
import Derived.Test.YtcibifgbnpcpmaaDoorDoorFrame
import Derived.Test.YtcibifgbnpcpmaaDoorCpuAwake
import Derived.Test.YtcibifgbnpcpmaaDoorCpuRows
import Derived.WalkKit
import Derived.ProofKit
namespace Go.Proofs.YtcibifgbnpcpmaaDoor.cpuCalls
open Go.ChangeShapes Go.WideShapes Go.ChangeAt Go.RowKit Go.Deep
set_option linter.unusedVariables false

set_option maxRecDepth 100000 in
theorem calls_few {w : World} {C : Array Value} {s : St} (hI : IsSt w (.agg C) s) (hl : s.bn ≤ 9223372036854775807 ∧ s.mn ≤ 9223372036854775807 ∧ s.inn ≤ 9223372036854775807 ∧ s.on_ ≤ 9223372036854775807) (a : Option Addr) (n c : Nat) (f : Nat → Int) (hn : n ≤ 9223372036854775807) (hw : RowK .u32 w a n f) (hT : Tab w) (p : Nat) (hp : p < 256) (hf : fewZ s = false) :
    Calls Tryd.prog 5 #[.slice a n c, .agg C, .int .u8 (p : Int)] w fun e w' => e = .returned (.bool true) ∧ Below w.heap.size w w' := by
  have HA : Hid (Below w.heap.size w (w.alloc (.cells C 32))) := (Below.refl _ w).alloc (Nat.le_refl _) _
  have A1 : Hid (At (w.alloc (.cells C 32)) w.heap.size C) := At.new _ _ _
  have I1 : Hid (IsSt (w.alloc (.cells C 32)) (.agg C) s) := hI.later HA.out
  have T1 : Hid (Tab (w.alloc (.cells C 32))) := hT.later HA.out
  have R1 : Hid (RowK .u32 (w.alloc (.cells C 32)) a n f) := hw.later HA.out
  have Z1 : Hid ((w.alloc (.cells C 32)).frozen? ⟨w.heap.size, 0, none⟩ = false) := by simp [Hid, go_sem]
  have hzC : Hid ((Tryd.prog.info? 32).map (·.size) = some C.toList.length) := (st_info hI).2
  have V1 : Hid (Avoids C w.heap.size) := avoids_new hI (Nat.le_refl _)
  have hgt : w.heap.size < (w.alloc (.cells C 32)).heap.size := by simp
  obtain ⟨ba, bc, ma, mc, ia, ic, oa, oc, eC, -⟩ := st_cells hI
  have EC : Hid (C = _) := eC
  clear hI hT hw eC
  go_enter Tryd.func5, Tryd.ntmps5
  go_upto_region 1 with fail
  generalize w.alloc (.cells C 32) = w0 at HA A1 I1 T1 R1 Z1 hgt ⊢
  have F : Hid (∀ W, Below w0.heap.size w0 W → Calls Tryd.prog 8 #[.agg C] W fun e w' => e = .returned (.bool false) ∧ Below W.heap.size W w') := fun W hW => by have h := few6_st (I1.out.later hW) hl; rwa [hf] at h
  go_wp2_with (first
    | (go_at_call 7; revert hb2; intro hb2; refine (awake_st _ (T1.out.later (bnext hb1 hb2))).mono ?_; rintro e w3 ⟨rfl, hb3⟩)
    | (go_at_call 7; refine (awake_st _ T1.out).mono ?_; rintro e w1 ⟨rfl, hb1⟩)
    | ((with_reducible show wpList _ _ _ (Oper.mk _ (Op.load _ _) _ _ _ _ :: _) _ _); refine wpList_load_if (by rfl) 32 (.tmp 4) rfl w.heap.size 0 rfl C.toList _ (at_range (A1.out.later hb1)) Tryd.underlying32 rfl hzC.out ?_)
    | (go_at_call 8; refine (F.out _ hb1).mono ?_; rintro e w2 ⟨rfl, hb2⟩))
  go_ret
  exact ⟨rfl, bnext (bnext (HA.out.trans (hb1.mono HA.out.size)) hb2) hb3⟩
set_option maxRecDepth 100000 in
theorem calls_long {w : World} {C : Array Value} {s : St} (hI : IsSt w (.agg C) s) (hl : s.bn ≤ 9223372036854775807 ∧ s.mn ≤ 9223372036854775807 ∧ s.inn ≤ 9223372036854775807 ∧ s.on_ ≤ 9223372036854775807) (a : Option Addr) (n c : Nat) (f : Nat → Int) (hn : n ≤ 9223372036854775807) (hw : RowK .u32 w a n f) (hT : Tab w) (p : Nat) (hp : p < 256) (hf : fewZ s = true) (h3 : (300 : Int) < n) :
    Calls Tryd.prog 5 #[.slice a n c, .agg C, .int .u8 (p : Int)] w fun e w' => e = .returned (.bool true) ∧ Below w.heap.size w w' := by
  have HA : Hid (Below w.heap.size w (w.alloc (.cells C 32))) := (Below.refl _ w).alloc (Nat.le_refl _) _
  have A1 : Hid (At (w.alloc (.cells C 32)) w.heap.size C) := At.new _ _ _
  have I1 : Hid (IsSt (w.alloc (.cells C 32)) (.agg C) s) := hI.later HA.out
  have T1 : Hid (Tab (w.alloc (.cells C 32))) := hT.later HA.out
  have R1 : Hid (RowK .u32 (w.alloc (.cells C 32)) a n f) := hw.later HA.out
  have Z1 : Hid ((w.alloc (.cells C 32)).frozen? ⟨w.heap.size, 0, none⟩ = false) := by simp [Hid, go_sem]
  have hzC : Hid ((Tryd.prog.info? 32).map (·.size) = some C.toList.length) := (st_info hI).2
  have V1 : Hid (Avoids C w.heap.size) := avoids_new hI (Nat.le_refl _)
  have hgt : w.heap.size < (w.alloc (.cells C 32)).heap.size := by simp
  obtain ⟨ba, bc, ma, mc, ia, ic, oa, oc, eC, -⟩ := st_cells hI
  have EC : Hid (C = _) := eC
  clear hI hT hw eC
  go_enter Tryd.func5, Tryd.ntmps5
  go_upto_region 1 with fail
  generalize w.alloc (.cells C 32) = w0 at HA A1 I1 T1 R1 Z1 hgt ⊢
  have F : Hid (∀ W, Below w0.heap.size w0 W → Calls Tryd.prog 8 #[.agg C] W fun e w' => e = .returned (.bool true) ∧ Below W.heap.size W w') := fun W hW => by have h := few6_st (I1.out.later hW) hl; rwa [hf] at h
  go_wp2_with (first
    | (go_at_call 7; revert hb2; intro hb2; refine (awake_st _ (T1.out.later (bnext hb1 hb2))).mono ?_; rintro e w3 ⟨rfl, hb3⟩)
    | (go_at_call 7; refine (awake_st _ T1.out).mono ?_; rintro e w1 ⟨rfl, hb1⟩)
    | ((with_reducible show wpList _ _ _ (Oper.mk _ (Op.load _ _) _ _ _ _ :: _) _ _); refine wpList_load_if (by rfl) 32 (.tmp 4) rfl w.heap.size 0 rfl C.toList _ (at_range (A1.out.later hb1)) Tryd.underlying32 rfl hzC.out ?_)
    | (go_at_call 8; refine (F.out _ hb1).mono ?_; rintro e w2 ⟨rfl, hb2⟩))
  go_ret
  exact ⟨rfl, bnext (bnext (HA.out.trans (hb1.mono HA.out.size)) hb2) hb3⟩
set_option maxRecDepth 100000 in
theorem calls_far {w : World} {C : Array Value} {s : St} (hI : IsSt w (.agg C) s) (hl : s.bn ≤ 9223372036854775807 ∧ s.mn ≤ 9223372036854775807 ∧ s.inn ≤ 9223372036854775807 ∧ s.on_ ≤ 9223372036854775807) (a : Option Addr) (n c : Nat) (f : Nat → Int) (hn : n ≤ 9223372036854775807) (hw : RowK .u32 w a n f) (hT : Tab w) (p : Nat) (hp : p < 256) (hf : fewZ s = true) (h3 : (n : Int) ≤ 300) (h2 : 200 < s.at_) :
    Calls Tryd.prog 5 #[.slice a n c, .agg C, .int .u8 (p : Int)] w fun e w' => e = .returned (.bool true) ∧ Below w.heap.size w w' := by
  have HA : Hid (Below w.heap.size w (w.alloc (.cells C 32))) := (Below.refl _ w).alloc (Nat.le_refl _) _
  have A1 : Hid (At (w.alloc (.cells C 32)) w.heap.size C) := At.new _ _ _
  have I1 : Hid (IsSt (w.alloc (.cells C 32)) (.agg C) s) := hI.later HA.out
  have T1 : Hid (Tab (w.alloc (.cells C 32))) := hT.later HA.out
  have R1 : Hid (RowK .u32 (w.alloc (.cells C 32)) a n f) := hw.later HA.out
  have Z1 : Hid ((w.alloc (.cells C 32)).frozen? ⟨w.heap.size, 0, none⟩ = false) := by simp [Hid, go_sem]
  have hzC : Hid ((Tryd.prog.info? 32).map (·.size) = some C.toList.length) := (st_info hI).2
  have V1 : Hid (Avoids C w.heap.size) := avoids_new hI (Nat.le_refl _)
  have hgt : w.heap.size < (w.alloc (.cells C 32)).heap.size := by simp
  obtain ⟨ba, bc, ma, mc, ia, ic, oa, oc, eC, -⟩ := st_cells hI
  have EC : Hid (C = _) := eC
  clear hI hT hw eC
  go_enter Tryd.func5, Tryd.ntmps5
  go_upto_region 1 with fail
  generalize w.alloc (.cells C 32) = w0 at HA A1 I1 T1 R1 Z1 hgt ⊢
  have F : Hid (∀ W, Below w0.heap.size w0 W → Calls Tryd.prog 8 #[.agg C] W fun e w' => e = .returned (.bool true) ∧ Below W.heap.size W w') := fun W hW => by have h := few6_st (I1.out.later hW) hl; rwa [hf] at h
  go_wp2_with (first
    | (go_at_call 7; revert hb2; intro hb2; refine (awake_st _ (T1.out.later (bnext hb1 hb2))).mono ?_; rintro e w3 ⟨rfl, hb3⟩)
    | (go_at_call 7; refine (awake_st _ T1.out).mono ?_; rintro e w1 ⟨rfl, hb1⟩)
    | ((with_reducible show wpList _ _ _ (Oper.mk _ (Op.load _ _) _ _ _ _ :: _) _ _); refine wpList_load_if (by rfl) 32 (.tmp 4) rfl w.heap.size 0 rfl C.toList _ (at_range (A1.out.later hb1)) Tryd.underlying32 rfl hzC.out ?_)
    | (go_at_call 8; refine (F.out _ hb1).mono ?_; rintro e w2 ⟨rfl, hb2⟩; have x0 : w2.cell? ⟨w.heap.size, 0, none⟩ = some (.int .i64 s.at_) := (A1.out.later (bnext hb1 hb2)) 0 _ (by rw [EC.out]; rfl)))
  go_ret
  exact ⟨rfl, bnext (bnext (HA.out.trans (hb1.mono HA.out.size)) hb2) hb3⟩
set_option maxRecDepth 100000 in
theorem calls_ended {w : World} {C : Array Value} {s : St} (hI : IsSt w (.agg C) s) (hl : s.bn ≤ 9223372036854775807 ∧ s.mn ≤ 9223372036854775807 ∧ s.inn ≤ 9223372036854775807 ∧ s.on_ ≤ 9223372036854775807) (a : Option Addr) (n c : Nat) (f : Nat → Int) (hn : n ≤ 9223372036854775807) (hw : RowK .u32 w a n f) (hT : Tab w) (p : Nat) (hp : p < 256) (hf : fewZ s = true) (h3 : (n : Int) ≤ 300) (h2 : s.at_ ≤ 200) (he : s.en = true) :
    Calls Tryd.prog 5 #[.slice a n c, .agg C, .int .u8 (p : Int)] w fun e w' => e = .returned (.bool true) ∧ Below w.heap.size w w' := by
  have HA : Hid (Below w.heap.size w (w.alloc (.cells C 32))) := (Below.refl _ w).alloc (Nat.le_refl _) _
  have A1 : Hid (At (w.alloc (.cells C 32)) w.heap.size C) := At.new _ _ _
  have I1 : Hid (IsSt (w.alloc (.cells C 32)) (.agg C) s) := hI.later HA.out
  have T1 : Hid (Tab (w.alloc (.cells C 32))) := hT.later HA.out
  have R1 : Hid (RowK .u32 (w.alloc (.cells C 32)) a n f) := hw.later HA.out
  have Z1 : Hid ((w.alloc (.cells C 32)).frozen? ⟨w.heap.size, 0, none⟩ = false) := by simp [Hid, go_sem]
  have hzC : Hid ((Tryd.prog.info? 32).map (·.size) = some C.toList.length) := (st_info hI).2
  have V1 : Hid (Avoids C w.heap.size) := avoids_new hI (Nat.le_refl _)
  have hgt : w.heap.size < (w.alloc (.cells C 32)).heap.size := by simp
  obtain ⟨ba, bc, ma, mc, ia, ic, oa, oc, eC, -⟩ := st_cells hI
  have EC : Hid (C = _) := eC
  clear hI hT hw eC
  go_enter Tryd.func5, Tryd.ntmps5
  go_upto_region 1 with fail
  generalize w.alloc (.cells C 32) = w0 at HA A1 I1 T1 R1 Z1 hgt ⊢
  have F : Hid (∀ W, Below w0.heap.size w0 W → Calls Tryd.prog 8 #[.agg C] W fun e w' => e = .returned (.bool true) ∧ Below W.heap.size W w') := fun W hW => by have h := few6_st (I1.out.later hW) hl; rwa [hf] at h
  go_wp2_with (first
    | (go_at_call 7; revert hb2; intro hb2; refine (awake_st _ (T1.out.later (bnext hb1 hb2))).mono ?_; rintro e w3 ⟨rfl, hb3⟩)
    | (go_at_call 7; refine (awake_st _ T1.out).mono ?_; rintro e w1 ⟨rfl, hb1⟩)
    | ((with_reducible show wpList _ _ _ (Oper.mk _ (Op.load _ _) _ _ _ _ :: _) _ _); refine wpList_load_if (by rfl) 32 (.tmp 4) rfl w.heap.size 0 rfl C.toList _ (at_range (A1.out.later hb1)) Tryd.underlying32 rfl hzC.out ?_)
    | (go_at_call 8; refine (F.out _ hb1).mono ?_; rintro e w2 ⟨rfl, hb2⟩; have x0 : w2.cell? ⟨w.heap.size, 0, none⟩ = some (.int .i64 s.at_) := (A1.out.later (bnext hb1 hb2)) 0 _ (by rw [EC.out]; rfl); have x22 : w2.cell? ⟨w.heap.size, 22, none⟩ = some (.bool true) := (A1.out.later (bnext hb1 hb2)) 22 _ (by rw [EC.out, he]; rfl)))
  go_ret
  exact ⟨rfl, bnext (bnext (HA.out.trans (hb1.mono HA.out.size)) hb2) hb3⟩
set_option maxRecDepth 100000 in
set_option maxHeartbeats 4000000 in
theorem calls_main {w : World} {C : Array Value} {s : St} (hI : IsSt w (.agg C) s) (hl : s.bn ≤ 9223372036854775807 ∧ s.mn ≤ 9223372036854775807 ∧ s.inn ≤ 9223372036854775807 ∧ s.on_ ≤ 9223372036854775807) (a : Option Addr) (n c : Nat) (f : Nat → Int) (hn : n ≤ 9223372036854775807) (hw : RowK .u32 w a n f) (hT : Tab w) (p : Nat) (hp : p < 256) (hf : fewZ s = true) (h3 : (n : Int) ≤ 300) (hs : Small s) (hh : Head a n c) (h2 : s.at_ ≤ 200) (he : s.en = false) (hb100 : s.bn ≤ 100) :
    Calls Tryd.prog 5 #[.slice a n c, .agg C, .int .u8 (p : Int)] w fun e w' => e = .returned (.bool true) ∧ Below w.heap.size w w' := by
  have HA : Hid (Below w.heap.size w (w.alloc (.cells C 32))) := (Below.refl _ w).alloc (Nat.le_refl _) _
  have A1 : Hid (At (w.alloc (.cells C 32)) w.heap.size C) := At.new _ _ _
  have I1 : Hid (IsSt (w.alloc (.cells C 32)) (.agg C) s) := hI.later HA.out
  have T1 : Hid (Tab (w.alloc (.cells C 32))) := hT.later HA.out
  have R1 : Hid (RowK .u32 (w.alloc (.cells C 32)) a n f) := hw.later HA.out
  have Z1 : Hid ((w.alloc (.cells C 32)).frozen? ⟨w.heap.size, 0, none⟩ = false) := by simp [Hid, go_sem]
  have hzC : Hid ((Tryd.prog.info? 32).map (·.size) = some C.toList.length) := (st_info hI).2
  have V1 : Hid (Avoids C w.heap.size) := avoids_new hI (Nat.le_refl _)
  have hgt : w.heap.size < (w.alloc (.cells C 32)).heap.size := by simp
  obtain ⟨ba, bc, ma, mc, ia, ic, oa, oc, eC, -⟩ := st_cells hI
  have EC : Hid (C = _) := eC
  clear hI hT hw eC
  go_enter Tryd.func5, Tryd.ntmps5
  go_upto_region 1 with fail
  generalize w.alloc (.cells C 32) = w0 at HA A1 I1 T1 R1 Z1 hgt ⊢
  have F : Hid (∀ W, Below w0.heap.size w0 W → Calls Tryd.prog 8 #[.agg C] W fun e w' => e = .returned (.bool true) ∧ Below W.heap.size W w') := fun W hW => by have h := few6_st (I1.out.later hW) hl; rwa [hf] at h
  have hw1 : Hid (∀ i, (Lit.int .u32 (f i)).wf = true) := R1.out.1
  have ha0 : 0 ≤ s.at_ := hs.2.1.1
  obtain ⟨i, hi⟩ : ∃ i : Nat, s.at_ = i := ⟨s.at_.toNat, by omega⟩
  have HI : Hid (s.at_ = i) := hi
  have hi200 : i ≤ 200 := by omega
  rw [hi] at h2
  clear hi ha0
  go_upto_region 3 with (first
    | (go_at_call 7; refine (awake_st _ T1.out).mono ?_; rintro e w1 ⟨rfl, hb1⟩)
    | ((with_reducible show wpList _ _ _ (Oper.mk _ (Op.load _ _) _ _ _ _ :: _) _ _); refine wpList_load_if (by rfl) 32 (.tmp 4) rfl w.heap.size 0 rfl C.toList _ (at_range (A1.out.later hb1)) Tryd.underlying32 rfl hzC.out ?_)
    | (go_at_call 8; refine (F.out _ hb1).mono ?_; rintro e w2 ⟨rfl, hb2⟩; have x0 : w2.cell? ⟨w.heap.size, 0, none⟩ = some (.int .i64 i) := (A1.out.later (bnext hb1 hb2)) 0 _ (by rw [EC.out, HI.out]; rfl); have x22 : w2.cell? ⟨w.heap.size, 22, none⟩ = some (.bool false) := (A1.out.later (bnext hb1 hb2)) 22 _ (by rw [EC.out, he]; rfl)))
  have B2 : Hid (Below w0.heap.size w0 w2) := bnext hb1 hb2
  have A2 : Hid (At w2 w.heap.size C) := A1.out.later B2.out
  have J2 : Hid (IsSt w2 (.agg C) s) := I1.out.later B2.out
  have T2 : Hid (Tab w2) := T1.out.later B2.out
  have R2 : Hid (RowK .u32 w2 a n f) := R1.out.later B2.out
  have Z2 : Hid (w2.frozen? ⟨w.heap.size, 0, none⟩ = false) := (B2.out.frozen (p := ⟨w.heap.size, 0, none⟩) hgt).trans Z1.out
  have Q2 : Hid (Below w.heap.size w w2) := HA.out.trans (B2.out.mono HA.out.size)
  have g2 : w.heap.size < w2.heap.size := Nat.lt_of_lt_of_le hgt B2.out.size
  have hn3 : n ≤ 300 := by omega
  clear hb1 hb2 F HA A1 I1 T1 R1 Z1 B2 x22 hgt
  go_upto_region 4 with (at_builtin; refine wpList_append_fresh w2 rfl (.tmp 33) (.tmp 34) 22 rfl 26 (.int .u32 0) 4 Tryd.underlying22 infoW rfl rfl a n c (cellsK .u32 n f) rfl (cellsK_len _ _ _) (head_nil hh) (row_cells R2.out) (cellsK_one _ _ _) (by unfold maxLen; omega) (by omega) ?_; intro a3 c3 w3 own3 hb3)
  have K3 : Hid (w3.ownsRow w2.heap.size 26 1 (.slice a3 n c3) n (cellsK .u32 n f)) := own3
  clear own3
  obtain ⟨i0, hi0, hz0, hz1, hz2⟩ := info_parts infoW
  go_wp2
  go_loopw [7] (fun l wr => ∃ (m : Nat) (a' : Option Addr) (c' : Nat) (F : Nat → Int), l = .slice a' m c' ∧ m ≤ 300 ∧ wr.ownsRow w2.heap.size 26 1 (.slice a' m c') m (cellsK .u32 m F) ∧ (∀ k, (Lit.int .u32 (F k)).wf = true) ∧ Below w2.heap.size w2 wr) (fun l _ => 400 - lenV l)
  case atStart => exact ⟨n, a3, c3, f, rfl, hn3, K3.out, hw1.out, hb3⟩
  case round =>
    obtain ⟨m, a', c', F, rfl, hm, hown, hF, hbl⟩ := hrel
    have HO : Hid (wr.ownsRow w2.heap.size 26 1 (.slice a' m c') m (cellsK .u32 m F)) := hown
    have HB : Hid (Below w2.heap.size w2 wr) := hbl
    have HF : Hid (∀ k, (Lit.int .u32 (F k)).wf = true) := hF
    have y0 : wr.cell? ⟨w.heap.size, 0, none⟩ = some (.int .i64 i) := cell_later' x0 hbl
    clear hown hbl hF K3 hb3
    by_cases hgo : m ≤ i ∨ m ≤ p
    · by_cases h1 : m ≤ i
      · have h1' : (m : Int) ≤ i := by omega
        go_wp2_with (at_builtin; refine wpList_append_all _ rfl (.tmp 49) (.tmp 50) 22 rfl w2.heap.size 26 i0 _ 1 4 Tryd.underlying22 hi0 hz0 hz1 hz2 rfl (by decide) (.slice a' m c') m (cellsK .u32 m F) rfl (HO.out.alloc _) (some ⟨wr.heap.size, 0, none⟩) 1 1 (cellsK .u32 1 (fun _ => 402653184)) rfl rfl (fun e => by cases e) (fun ad ha j u hu => by simp only [Option.some.injEq] at ha; subst ha; rcases j with _ | j <;> simp [cellsK] at hu; subst hu; simp [Addr.add, go_sem]) (cellsK_one _ _ _) (by unfold maxLen; omega) (by omega) (by have := HB.out.size; simp; omega) ?_; intro a5 c5 w5 own5 hgrow5)
        go_roundw
        case rel => exact ⟨m + 1, a5, c5, _, rfl, by omega, by rw [cellsK_add] at own5; exact own5, by intro k; by_cases hk : k < m; (rw [if_pos hk]; exact HF.out k); (rw [if_neg hk]; rfl), (HB.out.alloc HB.out.size _).grown hgrow5 (by have := HB.out.size; simp; omega) (fun q hq => (HO.out.lt q hq).1)⟩
        case measure => simp [lenV]; omega
      · have h1' : (i : Int) < m := by omega
        have h4 : m ≤ p := by omega
        have h4' : (m : Int) ≤ p := by omega
        go_wp2_with (at_builtin; refine wpList_append_all _ rfl (.tmp 49) (.tmp 50) 22 rfl w2.heap.size 26 i0 _ 1 4 Tryd.underlying22 hi0 hz0 hz1 hz2 rfl (by decide) (.slice a' m c') m (cellsK .u32 m F) rfl (HO.out.alloc _) (some ⟨wr.heap.size, 0, none⟩) 1 1 (cellsK .u32 1 (fun _ => 402653184)) rfl rfl (fun e => by cases e) (fun ad ha j u hu => by simp only [Option.some.injEq] at ha; subst ha; rcases j with _ | j <;> simp [cellsK] at hu; subst hu; simp [Addr.add, go_sem]) (cellsK_one _ _ _) (by unfold maxLen; omega) (by omega) (by have := HB.out.size; simp; omega) ?_; intro a5 c5 w5 own5 hgrow5)
        go_roundw
        case rel => exact ⟨m + 1, a5, c5, _, rfl, by omega, by rw [cellsK_add] at own5; exact own5, by intro k; by_cases hk : k < m; (rw [if_pos hk]; exact HF.out k); (rw [if_neg hk]; rfl), (HB.out.alloc HB.out.size _).grown hgrow5 (by have := HB.out.size; simp; omega) (fun q hq => (HO.out.lt q hq).1)⟩
        case measure => simp [lenV]; omega
    · have h1 : i < m := by omega
      have h4 : p < m := by omega
      have h1' : (i : Int) < m := by omega
      have h4' : (p : Int) < m := by omega
      obtain ⟨g, rfl, hg, hU, hcap⟩ := rowU_of_own HO.out (by omega)
      clear HO hi0 hz0 hz1 hz2 hgo
      have HU : Hid (RowU wr g m F) := hU
      clear hU
      by_cases hpi : p = i
      · subst hpi
        go_wp2
        go_ret
        exact ⟨rfl, Q2.out.trans (HB.out.mono Q2.out.size)⟩
      · have hpi' : ¬ ((p : Int) = i) := by omega
        have hpi2 : ¬ ((i : Int) = p) := by omega
        have hr : rightB 20 0 0 0 ((p : Int) - i - 1) = true := by
          have e1 : regsOf 20 = 0 := rfl
          have e2 : widthOf 20 = 24 := rfl
          have e3 : signedOf 20 = true := rfl
          unfold rightB
          rw [e1, e2, e3]
          simp [regB, immB, fitsB]
          omega
        obtain ⟨X, eX⟩ : ∃ X, X = putZ 20 0 0 0 ((p : Int) - i - 1) := ⟨_, rfl⟩
        have HX : Hid ((0 ≤ X ∧ X < 4294967296) ∧ okG X = true ∧ gO X = 20 ∧ gI X = (p : Int) - i - 1) := by
          obtain ⟨q0, q1, _, _, _, q5⟩ := put_fields 20 0 0 0 ((p : Int) - i - 1) hr
          rw [eX]; exact ⟨q0, put_ok 20 0 0 0 _ hr, q1, q5⟩
        have CP : Hid (∀ W, Calls Tryd.prog 17 #[.agg #[.int .i64 20, .int .i64 0, .int .i64 0, .int .i64 0, .int .i64 ((p : Int) - i - 1)]] W fun e w' => e = .returned (.int .u32 X) ∧ Below W.heap.size W w') := fun W => by rw [eX]; exact rput_any 20 0 0 0 _ W hr
        have wr1 : IntKind.i64.wrap ((p : Int) - i) = (p : Int) - i := by simp [IntKind.wrap, IntKind.bits, IntKind.signed]; omega
        have wr2 : IntKind.i64.wrap ((p : Int) - i - 1) = (p : Int) - i - 1 := by simp [IntKind.wrap, IntKind.bits, IntKind.signed]; omega
        have i0' : (0 : Int) ≤ i := by omega
        have p0' : (0 : Int) ≤ p := by omega
        clear eX hr
        go_upto_region 9 with fail
        go_cut [7] from 38 to 66 (fun q wx => q = .slice (some ⟨g, 0, none⟩) m c' ∧ RowU wx g m (fun k => if k = i then X else F k) ∧ Below w2.heap.size w2 wx)
        case first =>
          have HK : Hid (∀ W, Below wr.heap.size wr W → W.cell? ⟨w.heap.size, 0, none⟩ = some (.int .i64 i)) := fun W hW => cell_later' y0 hW
          have HK2 : Hid (∀ W (v : Value), Below wr.heap.size wr W → (W.setCell ⟨g, i, none⟩ v).cell? ⟨w.heap.size, 0, none⟩ = some (.int .i64 i)) := fun W v hW => (World.cell?_setCell_other _ _ _ _ (fun e => by have h : w.heap.size = g := (congrArg Addr.block e).symm; omega)).trans (cell_later' y0 hW)
          go_region_held3 (fun w' => w'.cell? ⟨w.heap.size, 0, none⟩ = some (.int .i64 i))
            (first
            | exact HK2.out _ _ hb5
            | exact HK.out _ hb5
            | exact HK.out _ (Below.refl _ _)
            | exact HK.out _ (Below.refl _ _).drew)
            (first
            | (go_at_call 17; refine (CP.out _).mono ?_; rintro e w5 ⟨rfl, hb5'⟩; have hb5 : Below wr.heap.size wr w5 := (by first | exact bnext (Below.refl _ _).drew hb5' | exact hb5'); have d5 := (HU.out.later hb5).1 i h1; have z5 := (HU.out.later hb5).2.1 i))
          all_goals go_wp2_with fail
          all_goals go_meet
          all_goals exact ⟨rfl, (HU.out.later hb5).put i h1 X, (HB.out.trans (hb5.mono HB.out.size)).setCell (p := ⟨g, i, none⟩) hg _⟩
        obtain ⟨rfl, hU9, hB9⟩ := hcut
        have d9 := hU9.1 p h4
        have z9 := hU9.2.1 p
        have U9 : Hid (RowU wc g m (fun k => if k = i then X else F k)) := hU9
        have B9 : Hid (Below w2.heap.size w2 wc) := hB9
        clear hU9 hB9 HU HB CP wr1 wr2 y0
        go_upto_region 11 with fail
        obtain ⟨F2, eF2⟩ : ∃ F2 : Nat → Int, F2 = fun k => if k = p then 352321536 else (if k = i then X else F k) := ⟨_, rfl⟩
        have U10 : Hid (RowU (wc.setCell ⟨g, p, none⟩ (.int .u32 352321536)) g m F2) := by rw [eF2]; exact U9.out.put p h4 _
        have B10 : Hid (Below w2.heap.size w2 (wc.setCell ⟨g, p, none⟩ (.int .u32 352321536))) := B9.out.setCell (p := ⟨g, p, none⟩) hg _
        have fi : F2 i = X := by rw [eF2]; show (if i = p then (352321536 : Int) else if i = i then X else F i) = X; rw [if_neg (fun e => hpi e.symm), if_pos rfl]
        have fp : F2 p = 352321536 := by rw [eF2]; show (if p = p then (352321536 : Int) else if p = i then X else F p) = 352321536; rw [if_pos rfl]
        have HF2 : Hid (∀ k, (Lit.int .u32 (F2 k)).wf = true) := by
          intro k
          rw [eF2]
          simp only []
          split
          · rfl
          · split
            · obtain ⟨q0, q1⟩ := HX.out.1; simp [Lit.wf, IntKind.min, IntKind.max, IntKind.signed, IntKind.bits]; omega
            · exact HF.out k
        generalize wc.setCell ⟨g, p, none⟩ (.int .u32 352321536) = w10 at U10 B10 ⊢
        obtain ⟨Tt, eT⟩ : ∃ Tt : St, Tt = { s with at_ := (p : Int), bn := s.bn + 1, bf := fun k => if k = s.bn then s.at_ + 1 else s.bf k } := ⟨_, rfl⟩
        have e1 : stepZ m F2 s = Tt := by
          rw [step_call m F2 s he i HI.out h1 X fi HX.out.2.1 HX.out.2.2.1, eT, HX.out.2.2.2, show s.at_ + 1 + ((p : Int) - i - 1) = p from by rw [HI.out]; omega]
        have e2 : stepZ m F2 Tt = { Tt with at_ := Tt.bf (Tt.bn - 1), bn := Tt.bn - 1 } := step_ret m F2 Tt (by rw [eT]; exact he) p (by rw [eT]) h4 352321536 fp (by decide) (by decide) (by rw [eT]; simp)
        have sT : Small Tt := by
          obtain ⟨q1, q2, q3, q4, q5, q6⟩ := hs
          rw [eT]
          exact ⟨q1, ⟨by simp only []; omega, by simp only []; omega⟩, ⟨by simp only []; omega, q3.2⟩, q4, q5, q6⟩
        have eS : sameZ (stepZ m F2 Tt) { s with at_ := s.at_ + 1 } = true := by
          rw [e2, eT]
          have h := call_back s p
          simpa using h
        have RW : Hid (RowK .u32 w10 (some ⟨g, 0, none⟩) m F2) := U10.out.row HF2.out
        have J10 : Hid (IsSt w10 (.agg C) s) := J2.out.later B10.out
        have T10 : Hid (Tab w10) := T2.out.later B10.out
        have S10 : Hid (At w10 w.heap.size C) := A2.out.later B10.out
        have Z10 : Hid (w10.frozen? ⟨w.heap.size, 0, none⟩ = false) := (B10.out.frozen (p := ⟨w.heap.size, 0, none⟩) g2).trans Z2.out
        have Q10 : Hid (Below w.heap.size w w10) := Q2.out.trans (B10.out.mono Q2.out.size)
        have hh10 : Head (some ⟨g, 0, none⟩ : Option Addr) m c' := ⟨hcap, fun e => by cases e⟩
        have lt10 : w.heap.size < w10.heap.size := Nat.lt_of_lt_of_le g2 B10.out.size
        clear U9 U10 B9 B10 J2 T2 A2 Z2 Q2 R2 HF HF2 fi fp eF2 d9 z9 HX
        go_upto_region 13 with (first
          | (go_at_call 13; revert hb12; intro hb12; refine (step_full (I11.out.later hb12) sT _ m c' F2 (by omega) hh10 (RW.out.later (bnext hb11 hb12)) (T10.out.later (bnext hb11 hb12))).mono ?_; rintro e w13 ⟨C3, rfl, I13, V13, hb13⟩)
          | (go_at_call 13; refine (step_full J10.out hs _ m c' F2 (by omega) hh10 RW.out T10.out).mono ?_; rintro e w11 ⟨C2, rfl, I11', V11, hb11⟩; have I11 : Hid (IsSt w11 (.agg C2) Tt) := (by rw [e1] at I11'; exact I11'))
          | ((with_reducible show wpList _ _ _ (Oper.mk _ (Op.load _ _) _ _ _ _ :: _) _ _); refine wpList_load_if (by rfl) 32 (.tmp 9) rfl w11.heap.size 0 rfl C2.toList _ (at_range (A12.out)) Tryd.underlying32 rfl (st_info I11.out).2 ?_)
          | ((with_reducible show wpList _ _ _ (Oper.mk _ (Op.load _ _) _ _ _ _ :: _) _ _); refine wpList_load_if (by rfl) 32 (.tmp 4) rfl w.heap.size 0 rfl C.toList _ (at_range (S10.out)) Tryd.underlying32 rfl hzC.out ?_)
          | ((with_reducible show wpList _ _ _ (Oper.mk _ (Op.store _ _ _) _ _ _ _ :: _) _ _); refine wpList_store_fresh rfl 32 (.tmp 10) (.tmp 75) rfl w13 _ _ C3 rfl rfl (by rw [(st_shape I13).1]; rfl) (st_info I13).1 (st_shape I13).2 ?_; intro w14 hb14 A14 Z14)
          | ((with_reducible show wpList _ _ _ (Oper.mk _ (Op.store _ _ _) _ _ _ _ :: _) _ _); refine wpList_store_fresh rfl 32 (.tmp 9) (.tmp 72) rfl w11 _ _ C2 rfl rfl (by rw [(st_shape I11.out).1]; rfl) (st_info I11.out).1 (st_shape I11.out).2 ?_; intro w12 hb12 A12 Z12))
        have hb : Hid (Below w10.heap.size w10 w14) := bnext (bnext (bnext hb11 hb12) hb13) hb14
        have l11 : w.heap.size < w11.heap.size := Nat.lt_of_lt_of_le lt10 hb11.size
        have l12 : w.heap.size < w12.heap.size := Nat.lt_of_lt_of_le l11 hb12.size
        have l13 : w.heap.size < w13.heap.size := Nat.lt_of_lt_of_le l12 hb13.size
        have av2 : Avoids C2 w.heap.size := V11 _ lt10 V1.out
        have av3 : Avoids C3 w.heap.size := V13 _ l12 av2
        have x14 : w14.cell? ⟨w.heap.size, 0, none⟩ = some (.int .i64 i) := (S10.out.later hb.out) 0 _ (by rw [EC.out, HI.out]; rfl)
        have z14 : w14.frozen? ⟨w.heap.size, 0, none⟩ = false := (hb.out.frozen (p := ⟨w.heap.size, 0, none⟩) lt10).trans Z10.out
        have wri : IntKind.i64.wrap ((i : Int) + 1) = (i : Int) + 1 := by simp [IntKind.wrap, IntKind.bits, IntKind.signed]; omega
        have JS : Hid (IsSt (w14.setCell ⟨w.heap.size, 0, none⟩ (.int .i64 ((i : Int) + 1))) (.agg (C.setIfInBounds 0 (.int .i64 ((i : Int) + 1)))) { s with at_ := s.at_ + 1 }) := by rw [HI.out]; exact st_at ((J10.out.later hb.out).set V1.out _ _) _
        have JU : Hid (IsSt (w14.setCell ⟨w.heap.size, 0, none⟩ (.int .i64 ((i : Int) + 1))) (.agg C3) (stepZ m F2 Tt)) := (I13.later hb14).set av3 _ _
        have AS : Hid (At (w14.setCell ⟨w.heap.size, 0, none⟩ (.int .i64 ((i : Int) + 1))) w.heap.size (C.setIfInBounds 0 (.int .i64 ((i : Int) + 1)))) := (S10.out.later hb.out).set 0 (by rw [(st_shape J10.out).1]; decide) _
        have AU : Hid (At (w14.setCell ⟨w.heap.size, 0, none⟩ (.int .i64 ((i : Int) + 1))) w13.heap.size C3) := A14.out.far (by omega) _ _
        have t14 : (w14.setCell ⟨w.heap.size, 0, none⟩ (.int .i64 ((i : Int) + 1))).cell? ⟨w11.heap.size, 0, none⟩ = some (.int .i64 p) := ((A12.out.later (bnext hb13 hb14)).far (by omega) _ _) 0 _ (by obtain ⟨_, _, _, _, _, _, _, _, eC2, -⟩ := st_cells I11.out; rw [eC2, eT]; rfl)
        have QQ : Hid (Below w.heap.size w (w14.setCell ⟨w.heap.size, 0, none⟩ (.int .i64 ((i : Int) + 1)))) := (Q10.out.trans (hb.out.mono Q10.out.size)).setCell (p := ⟨w.heap.size, 0, none⟩) (Nat.le_refl _) _
        have hzS := (st_info JS.out).2
        have hzU := (st_info JU.out).2
        have SM : Hid (∀ W, Below (w14.setCell ⟨w.heap.size, 0, none⟩ (.int .i64 ((i : Int) + 1))).heap.size (w14.setCell ⟨w.heap.size, 0, none⟩ (.int .i64 ((i : Int) + 1))) W → Calls Tryd.prog 10 #[.agg C3, .agg (C.setIfInBounds 0 (.int .i64 ((i : Int) + 1)))] W fun e w' => e = .returned (.bool true) ∧ Below W.heap.size W w') := fun W hW => by
          have h := rsame6_st (JU.out.later hW) (JS.out.later hW) (by rw [e2, eT]; have := hs.2.2.1; simp only []; omega) (by have := hs.2.2.1; simp only []; omega)
          rwa [eS] at h
        have hzU' : Hid _ := hzU
        have hzS' : Hid _ := hzS
        clear hzU hzS JS JU eS e1 e2 av2 av3 V11 V13 I11 I13 A12 A14 S10 J10 T10 RW Z10 Q10 hb hb11 hb12 hb13 hb14 I11' eT sT
        go_upto_region 14 with fail
        generalize w14.setCell ⟨w.heap.size, 0, none⟩ (.int .i64 ((i : Int) + 1)) = w15 at AS AU t14 QQ SM ⊢
        generalize C.setIfInBounds 0 (.int .i64 ((i : Int) + 1)) = CS at AS hzS' SM
        go_wp2_with (first
          | ((with_reducible show wpList _ _ _ (Oper.mk _ (Op.load _ _) _ _ _ _ :: _) _ _); refine wpList_load_if (by rfl) 32 (.tmp 10) rfl w13.heap.size 0 rfl C3.toList _ (at_range AU.out) Tryd.underlying32 rfl hzU'.out ?_)
          | ((with_reducible show wpList _ _ _ (Oper.mk _ (Op.load _ _) _ _ _ _ :: _) _ _); refine wpList_load_if (by rfl) 32 (.tmp 4) rfl w.heap.size 0 rfl CS.toList _ (at_range AS.out) Tryd.underlying32 rfl hzS'.out ?_)
          | (go_at_call 10; refine (SM.out _ (Below.refl _ _)).mono ?_; rintro e w16 ⟨rfl, hb16⟩))
        go_ret
        exact ⟨rfl, bnext QQ.out hb16⟩
theorem walk (w : World) (a : Option Addr) (n c : Nat) (f : Nat → Int) (h0 : n ≤ c ∧ c ≤ maxLen ∧ (a = none → c = 0) ∧ RowK .u32 w a n f)
    (at1 : Int) (r1 : Nat → Int) (ba1 : Option Addr) (bn1 bc1 : Nat) (bf1 : Nat → Int) (wt1 : Int) (ma1 : Option Addr) (mn1 mc1 : Nat) (mf1 : Nat → Int) (ia1 : Option Addr) (in1 ic1 : Nat) (if1 : Nat → Int) (oa1 : Option Addr) (on1 oc1 : Nat) (of1 : Nat → Int) (en1 : Bool) (cd1 ft1 : Int)
    (h1 : (Lit.int .i64 at1).wf = true ∧ (∀ j, (Lit.int .u32 (r1 j)).wf = true) ∧ (bn1 ≤ bc1 ∧ bc1 ≤ maxLen ∧ (ba1 = none → bc1 = 0) ∧ RowK .i64 w ba1 bn1 bf1) ∧ (Lit.int .i64 wt1).wf = true ∧ (mn1 ≤ mc1 ∧ mc1 ≤ maxLen ∧ (ma1 = none → mc1 = 0) ∧ Bytes w ma1 mn1 mf1) ∧
      (in1 ≤ ic1 ∧ ic1 ≤ maxLen ∧ (ia1 = none → ic1 = 0) ∧ Bytes w ia1 in1 if1) ∧ (on1 ≤ oc1 ∧ oc1 ≤ maxLen ∧ (oa1 = none → oc1 = 0) ∧ Bytes w oa1 on1 of1) ∧ (Lit.int .u32 cd1).wf = true ∧ (Lit.int .i64 ft1).wf = true) (pz : Int) (wp : (Lit.int .u8 pz).wf = true) (hT : Tab w) :
    Calls Tryd.prog 5 #[.slice a n c, stateV at1 r1 ba1 bn1 bc1 wt1 ma1 mn1 mc1 ia1 in1 ic1 oa1 on1 oc1 en1 cd1 ft1, .int .u8 pz] w fun e w' => e = .returned (.bool true) ∧ Below w.heap.size w w' := by
  obtain ⟨hn0, hm0, hnil0, hw⟩ := h0
  obtain ⟨hat, hr, ⟨b1, b2, b3, hB⟩, hwt, ⟨m1, m2, m3, hM⟩, ⟨i1, i2, i3, hI⟩, ⟨o1, o2, o3, hO⟩, hcd, hft⟩ := h1
  unfold maxLen at hm0 b2 m2 i2 o2
  obtain ⟨s, es⟩ : ∃ s : St, s = ⟨at1, r1, bn1, bf1, wt1, mn1, mf1, in1, if1, on1, of1, en1, cd1, ft1⟩ := ⟨_, rfl⟩
  obtain ⟨C, eC⟩ : ∃ C : Array Value, Value.agg C = stateV at1 r1 ba1 bn1 bc1 wt1 ma1 mn1 mc1 ia1 in1 ic1 oa1 on1 oc1 en1 cd1 ft1 := ⟨_, rfl⟩
  obtain ⟨p0, p1⟩ := wf_u8_bd wp
  obtain ⟨p, rfl⟩ : ∃ p : Nat, pz = p := ⟨pz.toNat, by omega⟩
  have hp : p < 256 := by omega
  rw [← eC]
  have hS : IsSt w (.agg C) s := by rw [es]; exact ⟨ba1, bc1, ma1, mc1, ia1, ic1, oa1, oc1, eC, ⟨⟨b1, b3⟩, hB⟩, ⟨⟨m1, m3⟩, hM⟩, ⟨⟨i1, i3⟩, hI⟩, ⟨o1, o3⟩, hO⟩
  have hl : s.bn ≤ 9223372036854775807 ∧ s.mn ≤ 9223372036854775807 ∧ s.inn ≤ 9223372036854775807 ∧ s.on_ ≤ 9223372036854775807 := by rw [es]; exact ⟨by simp only []; omega, by simp only []; omega, by simp only []; omega, by simp only []; omega⟩
  have hr' : ∀ j, (Lit.int .u32 (s.r j)).wf = true := by rw [es]; exact hr
  have hwt' : (Lit.int .i64 s.wt).wf = true := by rw [es]; exact hwt
  have hcd' : (Lit.int .u32 s.cd).wf = true := by rw [es]; exact hcd
  have hft' : (Lit.int .i64 s.ft).wf = true := by rw [es]; exact hft
  clear es eC
  cases hf : fewZ s
  · exact calls_few hS hl a n c f (by omega) hw hT p hp hf
  · have hs := small_few hf hr' hwt' hcd' hft'
    have hb100 := (few_facts hf).2.2.2.2.1
    by_cases h3 : (300 : Int) < n
    · exact calls_long hS hl a n c f (by omega) hw hT p hp hf h3
    · by_cases h2 : 200 < s.at_
      · exact calls_far hS hl a n c f (by omega) hw hT p hp hf (by omega) h2
      · cases he : s.en
        · exact calls_main hS hl a n c f (by omega) hw hT p hp hf (by omega) hs ⟨hn0, hnil0⟩ (by omega) he hb100
        · exact calls_ended hS hl a n c f (by omega) hw hT p hp hf (by omega) (by omega) he

/-! ### The row's step -/
set_option maxRecDepth 100000 in
theorem lifted (os : Os) (started : os.Started) (H : Type) (enc : TypeId × Value → H) :
    ReturnsInHanded {} Tryd.checked os 5 .any (fun w args => (Rows.cpuCallsSpec.pre enc Tryd.prog Tryd.f5 [] false w args ∧ laidMetH Tryd.prog laidL w) ∧ sizedMet enc Tryd.prog Tryd.f5 (OpenSpec.ofChange Rows.cpuCallsSpec) false w args)
      (Rows.cpuCallsSpec.post enc Tryd.prog Tryd.f5 false true false false) := by
  refine returnsInHanded_of_change_and (C := Tryd.checked) (X := fun w _ => laidMetH Tryd.prog laidL w) (fun _ _ _ hh h => h.of_heap hh) own started (by kernel_rfl) Tryd.func5
    (ChangeSpec.witness_shaped (enc := enc) (C := Tryd.checked) (os := os) (X := fun w _ => laidMetH Tryd.prog laidL w) false (World.doorLaid Tryd.prog 40 os) #[.slice none 0 0, .agg #[.int .i64 0, .int .u32 0, .int .u32 0, .int .u32 0, .int .u32 0, .int .u32 0, .int .u32 0, .int .u32 0, .int .u32 0, .int .u32 0, .int .u32 0, .int .u32 0, .int .u32 0, .int .u32 0, .int .u32 0, .int .u32 0, .int .u32 0, .slice none 0 0, .int .i64 0, .slice none 0 0, .slice none 0 0, .slice none 0 0, .bool false, .int .u32 0, .int .i64 0], .int .u8 0] 8 rfl (World.shaped_of_RefB (by kernel_rfl) (by kernel_rfl)) (by kernel_rfl) (by kernel_rfl) (by kernel_rfl) (door_met os _)) ?_
  intro W base args ds gs before hval0 hW _ _ hL _
  have hval : ∀ (j : Nat) t v, Tryd.f5.params[j]? = some t → args[j]? = some v → Value.okWide Tryd.prog W .any base t v := hval0
  have hW' := hW
  obtain ⟨p, q, hA0, hV, rfl, hfz, hnd⟩ := hW
  have hA : DataW.TrodAll enc Tryd.prog W 0 (fun _ => true) true Tryd.f5.params.toList args.toList ds p := hA0
  rw [Tryd.params5] at hA hval
  obtain ⟨v0, vs0, d0, ds0, p0, q0, hargs, rfl, rfl, h0, r0⟩ := trodAll_cons hA
  obtain ⟨v1, vs1, d1, ds1, p1, q1, rfl, rfl, rfl, h1, r1⟩ := trodAll_cons r0
  obtain ⟨v2, vs2, d2, ds2, p2, q2, rfl, rfl, rfl, h2, r2⟩ := trodAll_cons r1
  obtain ⟨rfl, rfl, rfl⟩ := trodAll_nil r2
  obtain rfl : args = #[v0, v1, v2] := by cases args; simp_all
  obtain ⟨rfl, rfl⟩ := trodVars_none hV
  have hT := tab_of hL
  have k0 := h0
  have lt0 : ∀ x ∈ p0, x.block < W.heap.size := by obtain ⟨m, hm⟩ := k0; exact DataW.trod_lt m _ _ _ hm
  obtain ⟨va0, vn0, vc0, vf0, rfl, w0⟩ := open_sl Tryd.underlying22 Tryd.underlying26 (by kernel_rfl) (hval 0 22 v0 rfl rfl) h0
  have k1 := h1
  have lt1 : ∀ x ∈ p1, x.block < W.heap.size := by obtain ⟨m, hm⟩ := k1; exact DataW.trod_lt m _ _ _ hm
  obtain ⟨vat1, vr1, vba1, vbn1, vbc1, vbf1, vwt1, vma1, vmn1, vmc1, vmf1, via1, vin1, vic1, vif1, voa1, von1, voc1, vof1, ven1, vcd1, vft1, rfl, w1⟩ := open_state (hval 1 32 v1 rfl rfl) h1
  obtain ⟨a2, rfl, rfl, rfl, w2⟩ := open_int Tryd.underlying5 (hval 2 5 v2 rfl rfl) h2
  clear hA0 hval0
  refine (walk W va0 vn0 vc0 vf0 w0 vat1 vr1 vba1 vbn1 vbc1 vbf1 vwt1 vma1 vmn1 vmc1 vmf1 via1 vin1 vic1 vif1 voa1 von1 voc1 vof1 ven1 vcd1 vft1 w1 a2 w2 hT).mono fun e W' ⟨he, bel⟩ => ?_
  subst he
  exact ⟨_, rfl, _, _, _, [], _, [], hW', trodAll_mk1 (shut_bool Tryd.underlying4 _), (trodAll_cons_mk (Below.trod laidOut (by kernel_rfl) (of_decide_eq_true (by kernel_rfl)) k0 bel lt0) (trodAll_cons_mk (Below.trod laidOut (by kernel_rfl) (of_decide_eq_true (by kernel_rfl)) k1 bel lt1) (trodAll_cons_mk (shut_int Tryd.underlying5 w2) trodAll_mk0))), rfl, bel.frame _, fun h => by cases h⟩

theorem over : Rows.CpuCallsSaid :=
  OpenClaim.holds_of_wide 5 Tryd.f5 rfl rfl rfl rfl rfl rfl rfl ⟨rfl, rfl, rfl, rfl, rfl⟩ rfl rfl rfl rfl rfl (by kernel_rfl) Tryd.func5 (by kernel_rfl)
    (of_decide_eq_true (by kernel_rfl)) (by unfold Func.isWrapper; first | (rw [if_pos (by decide +kernel)]; kernel_rfl) | (rw [if_neg (by decide +kernel)]; exact ⟨rfl, rfl⟩))
    (fun os started H enc _ => lifted os started H enc)

/-- The tied card. -/
theorem card : Rows.CpuCallsCardSaid :=
  Claim7.holds_tied_plain_at .later [] [.data] true (true, "2ae3b24d0b1c2a4f435f061728b50183ea705ec5160814cbbfb91f673c3328a8") false
    over (fun _ h => by cases h) (by kernel_rfl) (fun _ h => by cases h) cpuCalls_row_tie rfl ⟨rfl, rfl⟩ (by kernel_rfl) rfl
    (fun f fn hf hfn => by
      obtain rfl : f = 5 := Option.some.inj ((show Tryd.prog.funcNamed "splice/splicelaw06.CpuCalls" = some 5 by kernel_rfl).symm.trans hf) |>.symm
      obtain rfl : fn = Tryd.f5 := (Option.some.inj (Tryd.func5.symm.trans hfn)).symm
      exact ⟨by kernel_rfl, fun j t ht => by
        rw [Tryd.params5] at ht
        have hm : t ∈ [22, 32, 5] := by simpa using Array.mem_of_getElem? ht
        have hall : ([22, 32, 5].all fun u => !Tryd.prog.wantsStandIn u) = true := by kernel_rfl
        exact (show Tryd.prog.wantsStandIn t = false by simpa using List.all_eq_true.1 hall t hm)⟩)
    (by kernel_rfl)
end Go.Proofs.YtcibifgbnpcpmaaDoor.cpuCalls

namespace Go.Proofs.YtcibifgbnpcpmaaDoor
theorem CpuCalls_holds : Rows.CpuCallsCardSaid := cpuCalls.card
#print axioms CpuCalls_holds
end Go.Proofs.YtcibifgbnpcpmaaDoor
