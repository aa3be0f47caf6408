/- What the code's Try returns. -/
import Derived.Test.YtlpmkbdoofbmiaaScanOwn
namespace Go.Proofs.Ytlpmkbdoofbmiaa
open Go.ChangeShapes Go.WideShapes Go.ChangeAt Go.RowKit
set_option linter.unusedVariables false
set_option linter.unusedSimpArgs false
set_option maxRecDepth 100000 in
theorem errno_of (er : Int) (w : World) :
    Calls Try.prog 28 #[.iface 28 (.int .i64 er)] w fun e w' => e = .returned (.int .i64 er) ∧ w' = w := by
  have hta : ∀ (t : TypeId) (w : World), (Instr.typeAssert (.iface 28 (.int .i64 er)) t 28 true).run Try.prog w = .ok (.tuple #[.int .i64 er, .bool true]) w := fun t w => by
    simp [Instr.typeAssert, run_underlying Try.underlying28]
  go_enter Try.func28, Try.ntmps28
  go_wp2
  go_ret
  exact ⟨rfl, rfl⟩
set_option maxRecDepth 100000 in
theorem catch_fail (p : Addr) (x er : Int) (w : World) (hc : w.cell? p = some (.int .i64 x)) (hz : w.frozen? p = false) :
    CallsD Try.prog 27 #[.pointer (some p)] (.panicking [{ v := .iface 28 (.int .i64 er), recovered := false }]) w fun e u' w' =>
      e = .returned (.tuple #[]) ∧ u' = .panicking [{ v := .iface 28 (.int .i64 er), recovered := true }] ∧ w' = w.setCell p (.int .i64 er) := by
  have ER : Hid (∀ W, Calls Try.prog 28 #[.iface 28 (.int .i64 er)] W fun e w' => e = .returned (.int .i64 er) ∧ w' = W) := fun W => errno_of er W
  refine callsD_of_wpS Try.func27 rfl fun c₀ cs hu => ?_
  apply wpS_seq
  apply wpS_region
  simp [wpOpsS, go_sem, recoverD, hu, Try.ntmps27, Exit.thenS]
  simp only [Array.replicate, List.replicate, List.set_toArray, List.setIfInBounds_toArray, List.set_cons_zero, List.set_cons_succ, List.append_toArray, List.cons_append, List.nil_append]
  refine wpS_of_wp ?_
  go_wp2_with (go_at_call 28; refine (ER.out _).mono ?_; rintro e w1 ⟨rfl, rfl⟩)
  simp [bodyPostS, results, Try.results27]
set_option maxRecDepth 100000 in
theorem catch_idle (p : Addr) (w : World) :
    CallsD Try.prog 27 #[.pointer (some p)] .returning w fun e u' w' => e = .returned (.tuple #[]) ∧ u' = .returning ∧ w' = w := by
  refine callsD_of_wpS Try.func27 rfl fun c₀ cs hu => ?_
  apply wpS_seq
  apply wpS_region
  simp [wpOpsS, go_sem, recoverD, hu, Try.ntmps27, Exit.thenS]
  simp only [Array.replicate, List.replicate, List.set_toArray, List.setIfInBounds_toArray, List.set_cons_zero, List.set_cons_succ, List.append_toArray, List.cons_append, List.nil_append]
  refine wpS_of_wp ?_
  go_wp2
  cases c₀
  simp_all [bodyPostS, results, Try.results27]
theorem left_sc' {B : Nat} {w : World} {v : Value} {n : Nat} {f : Nat → Int} (h : Sc B w v n f) :
    Calls Try.prog 30 #[v] w fun e w' => e = .returned (.int .i64 n) ∧ Below w.heap.size w w' := by
  obtain ⟨O, _, h⟩ := h; exact left_so h
set_option maxRecDepth 100000 in
set_option maxHeartbeats 2000000 in
theorem try_st (w : World) (a : Option Addr) (n c : Nat) (f : Nat → Int) (hn : n ≤ 2000000) (hh : Head a n c) (hb : Bytes w a n f) (G : FuncId) (hG : ∀ (args : Array Value) (w : World), (callFunc G args).run Try.prog w = .ok (.enter G args) w) (cap : Array Value) (Done : World → Int → Prop)
    (hst : ∀ W W' er, Done W er → Below w.heap.size W W' → Done W' er)
    (HR : ∀ W B v, Below w.heap.size w W → w.heap.size ≤ B → B ≤ W.heap.size → Sc B W v n f → Calls Try.prog G (#[v] ++ cap) W fun e W' => ((∃ m g, e = .returned (.tuple #[]) ∧ Sc B W' v m g ∧ Done W' (if m = 0 then 0 else 2)) ∨ (∃ er, e = failE er ∧ Done W' er)) ∧ Mid w.heap.size B W W') :
    Calls Try.prog 19 #[.slice a n c, .func (.func G) #[] cap] w fun e w' => ∃ er, e = .returned (.int .i64 er) ∧ Done w' er ∧ (w'.os = w.os ∧ w'.tape = w.tape ∧ w'.output = w.output ∧ w.heap.size ≤ w'.heap.size) := by
  have hmf : ∀ (fn : Fn) (first cap : Array Value) (w : World), (Instr.makeFunc fn first cap).run Try.prog w = .ok (.func fn first cap) w := fun _ _ _ _ => rfl
  have NW : Hid (∀ W, Below w.heap.size w W → Calls Try.prog 29 #[.slice a n c] W fun e w' => ∃ v, e = .returned v ∧ Sc W.heap.size w' v n f ∧ Below W.heap.size W w') := fun W hW => new_sc W a n c f hn hh (hb.later hW)
  have H : Hid (∀ W B v, Below w.heap.size w W → w.heap.size ≤ B → B ≤ W.heap.size → Sc B W v n f → Calls Try.prog G (#[v] ++ cap) W fun e W' => ((∃ m g, e = .returned (.tuple #[]) ∧ Sc B W' v m g ∧ Done W' (if m = 0 then 0 else 2)) ∨ (∃ er, e = .panicked [{ v := .iface 28 (.int .i64 er), recovered := false }] ∧ Done W' er)) ∧ Mid w.heap.size B W W') := HR
  clear hb HR
  go_enter_defers Try.func19, Try.ntmps19
  have B1 : Hid (Below w.heap.size w (w.alloc (.cells #[.int .i64 0] 28))) := (Below.refl _ _).alloc (Nat.le_refl _) _
  have C1 : Hid ((w.alloc (.cells #[.int .i64 0] 28)).cell? ⟨w.heap.size, 0, none⟩ = some (.int .i64 0)) := new_cell' w _ _ 0 _ rfl
  have Z1 : Hid ((w.alloc (.cells #[.int .i64 0] 28)).frozen? ⟨w.heap.size, 0, none⟩ = false) := by show _ = _; simp [go_sem]
  have E1 : Hid (w.heap.size < (w.alloc (.cells #[.int .i64 0] 28)).heap.size) := by show _ < _; simp
  go_upto_region 1 with fail
  generalize w.alloc (.cells #[.int .i64 0] 28) = w1 at B1 C1 Z1 E1 ⊢
  go_upto_region 3 with (go_at_call 29; refine (NW.out _ B1.out).mono ?_; rintro e w2 ⟨v, rfl, hS, hb2⟩)
  go_upto_region 4 with (refine (H.out w2 w1.heap.size v (bnext B1.out hb2) B1.out.size hb2.size hS).mono ?_; rintro e w3 ⟨⟨m, g, rfl, hS3, hd⟩ | ⟨er, rfl, hd⟩, hM⟩)
  · have LF : Hid (Calls Try.prog 30 #[v] w3 fun e w' => e = .returned (.int .i64 m) ∧ Below w3.heap.size w3 w') := left_sc' hS3
    have HD : Hid (Done w3 (if m = 0 then 0 else 2)) := hd
    have lt1 := E1.out
    have e3 : w3.heap[w.heap.size]? = w1.heap[w.heap.size]? := (hM.block w.heap.size (Nat.le_refl _) lt1).trans (hb2.block _ lt1)
    have C3 : Hid (w3.cell? ⟨w.heap.size, 0, none⟩ = some (.int .i64 0)) := (World.cell?_of_block (a := ⟨w.heap.size, 0, none⟩) e3).trans C1.out
    have Z3 : Hid (w3.frozen? ⟨w.heap.size, 0, none⟩ = false) := (World.frozen?_of_block (a := ⟨w.heap.size, 0, none⟩) e3).trans Z1.out
    have W3 : Hid (w3.os = w.os ∧ w3.tape = w.tape ∧ w3.output = w.output ∧ w.heap.size < w3.heap.size) := ⟨hM.os.trans (hb2.os.trans B1.out.os), hM.tape.trans (hb2.tape.trans B1.out.tape), hM.output.trans (hb2.output.trans B1.out.output), Nat.lt_of_lt_of_le lt1 (Nat.le_trans hb2.size hM.size)⟩
    clear hS hS3 hd hM e3 lt1
    have c3 := C3.out
    have z3 := Z3.out
    have fin : Hid (∀ w4 er, Below w3.heap.size w3 w4 → er = (if m = 0 then 0 else 2) → Done (w4.setCell ⟨w.heap.size, 0, none⟩ (.int .i64 er)) er ∧ (w4.setCell ⟨w.heap.size, 0, none⟩ (.int .i64 er)).os = w.os ∧ (w4.setCell ⟨w.heap.size, 0, none⟩ (.int .i64 er)).tape = w.tape ∧ (w4.setCell ⟨w.heap.size, 0, none⟩ (.int .i64 er)).output = w.output ∧ w.heap.size ≤ (w4.setCell ⟨w.heap.size, 0, none⟩ (.int .i64 er)).heap.size) := fun w4 er hb he => by
      subst he
      obtain ⟨q1, q2, q3, q4⟩ := W3.out
      refine ⟨hst _ _ _ HD.out (((hb.mono (Nat.le_of_lt q4)).setCell (p := ⟨w.heap.size, 0, none⟩) (Nat.le_refl _) _)), hb.os.trans q1, hb.tape.trans q2, hb.output.trans q3, by have := hb.size; simp; omega⟩
    by_cases hm : m = 0
    · subst hm
      go_wp2_with (go_at_call 30; refine LF.out.mono ?_; rintro e w4 ⟨rfl, hb4⟩; have c4 := cell_later' c3 hb4; have z4 : w4.frozen? ⟨w.heap.size, 0, none⟩ = false := (hb4.frozen (p := ⟨w.heap.size, 0, none⟩) W3.out.2.2.2).trans Z3.out)
      have hF := fin.out w4 0 hb4 rfl
      have c5 : (w4.setCell ⟨w.heap.size, 0, none⟩ (.int .i64 0)).cell? ⟨w.heap.size, 0, none⟩ = some (.int .i64 0) := World.cell?_setCell_same _ _ _ c4
      generalize w4.setCell ⟨w.heap.size, 0, none⟩ (.int .i64 0) = w5 at hF c5 ⊢
      refine leaves_cons (f := 27) (args := #[.pointer (some ⟨w.heap.size, 0, none⟩)]) (by simp) (by simp [go_sem]) ?_
      refine (catch_idle ⟨w.heap.size, 0, none⟩ _).mono ?_
      rintro e u' w'' ⟨rfl, rfl, rfl⟩
      simp [Leaves, settle, results, Try.results19, go_sem, c5]
      exact hF
    · have hm' : (0 : Int) < m := by omega
      go_wp2_with (go_at_call 30; refine LF.out.mono ?_; rintro e w4 ⟨rfl, hb4⟩; have c4 := cell_later' c3 hb4; have z4 : w4.frozen? ⟨w.heap.size, 0, none⟩ = false := (hb4.frozen (p := ⟨w.heap.size, 0, none⟩) W3.out.2.2.2).trans Z3.out)
      have hF := fin.out w4 2 hb4 (by rw [if_neg hm])
      have c5 : (w4.setCell ⟨w.heap.size, 0, none⟩ (.int .i64 2)).cell? ⟨w.heap.size, 0, none⟩ = some (.int .i64 2) := World.cell?_setCell_same _ _ _ c4
      generalize w4.setCell ⟨w.heap.size, 0, none⟩ (.int .i64 2) = w5 at hF c5 ⊢
      refine leaves_cons (f := 27) (args := #[.pointer (some ⟨w.heap.size, 0, none⟩)]) (by simp) (by simp [go_sem]) ?_
      refine (catch_idle ⟨w.heap.size, 0, none⟩ _).mono ?_
      rintro e u' w'' ⟨rfl, rfl, rfl⟩
      simp [Leaves, settle, results, Try.results19, go_sem, c5]
      exact hF
  · have HD : Hid (Done w3 er) := hd
    have lt1 := E1.out
    have e3 : w3.heap[w.heap.size]? = w1.heap[w.heap.size]? := (hM.block w.heap.size (Nat.le_refl _) lt1).trans (hb2.block _ lt1)
    have C3 : Hid (w3.cell? ⟨w.heap.size, 0, none⟩ = some (.int .i64 0)) := (World.cell?_of_block (a := ⟨w.heap.size, 0, none⟩) e3).trans C1.out
    have Z3 : Hid (w3.frozen? ⟨w.heap.size, 0, none⟩ = false) := (World.frozen?_of_block (a := ⟨w.heap.size, 0, none⟩) e3).trans Z1.out
    have W3 : Hid (w3.os = w.os ∧ w3.tape = w.tape ∧ w3.output = w.output ∧ w.heap.size < w3.heap.size) := ⟨hM.os.trans (hb2.os.trans B1.out.os), hM.tape.trans (hb2.tape.trans B1.out.tape), hM.output.trans (hb2.output.trans B1.out.output), Nat.lt_of_lt_of_le lt1 (Nat.le_trans hb2.size hM.size)⟩
    obtain ⟨q1, q2, q3, q4⟩ := W3.out
    have hF : Done (w3.setCell ⟨w.heap.size, 0, none⟩ (.int .i64 er)) er ∧ (w3.setCell ⟨w.heap.size, 0, none⟩ (.int .i64 er)).os = w.os ∧ (w3.setCell ⟨w.heap.size, 0, none⟩ (.int .i64 er)).tape = w.tape ∧ (w3.setCell ⟨w.heap.size, 0, none⟩ (.int .i64 er)).output = w.output ∧ w.heap.size ≤ (w3.setCell ⟨w.heap.size, 0, none⟩ (.int .i64 er)).heap.size :=
      ⟨hst _ _ _ HD.out ((Below.refl _ _).setCell (p := ⟨w.heap.size, 0, none⟩) (Nat.le_refl _) _), q1, q2, q3, by simp; omega⟩
    have c5 : (w3.setCell ⟨w.heap.size, 0, none⟩ (.int .i64 er)).cell? ⟨w.heap.size, 0, none⟩ = some (.int .i64 er) := World.cell?_setCell_same _ _ _ C3.out
    refine leaves_cons (f := 27) (args := #[.pointer (some ⟨w.heap.size, 0, none⟩)]) (by simp) (by simp [go_sem]) ?_
    refine (catch_fail ⟨w.heap.size, 0, none⟩ 0 er _ C3.out Z3.out).mono ?_
    rintro e u' w'' ⟨rfl, rfl, rfl⟩
    generalize w3.setCell ⟨w.heap.size, 0, none⟩ (.int .i64 er) = w5 at hF c5 ⊢
    simp [Leaves, settle, results, Try.results19, go_sem, c5]
    exact hF
end Go.Proofs.Ytlpmkbdoofbmiaa
