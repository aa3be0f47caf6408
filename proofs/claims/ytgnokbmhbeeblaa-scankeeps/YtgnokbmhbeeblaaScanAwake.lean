/- The statements' check of answers that the document fixes. -/
import Derived.Test.YtgnokbmhbeeblaaScanLow
namespace Go.Proofs.Ytgnokbmhbeeblaa
open Go.ChangeShapes Go.WideShapes Go.ChangeAt Go.RowKit
set_option linter.unusedVariables false
set_option linter.unusedSimpArgs false
theorem Mid.of_below {A B : Nat} {w w' : World} (h : Below B w w') : Mid A B w w' := ⟨h.os, h.tape, h.output, h.size, fun k _ hk => h.block k hk⟩
theorem Mid.set {A B : Nat} {w w' : World} (h : Mid A B w w') {b : Nat} (hb : b < A) (o : Nat) (v : Value) : Mid A B w (w'.setCell ⟨b, o, none⟩ v) :=
  ⟨h.os, h.tape, h.output, by simpa using h.size, fun k h1 h2 => (Below.heap_setCell _ _ _ _ (by simp only [ne_eq]; omega)).trans (h.block k h1 h2)⟩
theorem cell_low {B : Nat} {w w' : World} {b o : Nat} {v : Value} (h : w.cell? ⟨b, o, none⟩ = some v) (hb : Below B w w') (hl : b < B) : w'.cell? ⟨b, o, none⟩ = some v := (hb.cell (p := ⟨b, o, none⟩) hl).trans h
theorem frozen_low {B : Nat} {w w' : World} {b o : Nat} {v : Bool} (h : w.frozen? ⟨b, o, none⟩ = v) (hb : Below B w w') (hl : b < B) : w'.frozen? ⟨b, o, none⟩ = v := (hb.frozen (p := ⟨b, o, none⟩) hl).trans h
set_option maxRecDepth 100000 in
theorem awake1_cl {B : Nat} {W : World} {v : Value} {n : Nat} {f : Nat → Int} (hS : Sc B W v n f) (hB : B ≤ W.heap.size) (h : Nat) (hh : h < B) (s0 : ByteArray) (hc : W.cell? ⟨h, 0, none⟩ = some (.string s0)) (hz : W.frozen? ⟨h, 0, none⟩ = false) :
    Calls Try.prog 33 #[v, .pointer (some ⟨h, 0, none⟩)] W fun e W' => (errZ n f 2 0 ≠ 0 ∧ e = failE (errZ n f 2 0) ∧ Below B W W') ∨ (errZ n f 2 0 = 0 ∧ e = .returned (.tuple #[]) ∧ ∃ W1, Below B W W1 ∧ Sc B W1 v (n - (wantZ f 2 0).toNat) (fun i => f (i + (wantZ f 2 0).toNat)) ∧ W1.cell? ⟨h, 0, none⟩ = some (.string s0) ∧ W' = W1.setCell ⟨h, 0, none⟩ (.string (textF (f 0).toNat fun i => f (i + 1)))) := by
  have NM : Hid (Calls Try.prog 15 #[v] W (ActPost B W v n f 2 0 (.string (textF (f 0).toNat fun i => f (i + 1))))) := name_sc hS hB 0
  obtain ⟨g, rfl, hg⟩ := hS.ptr
  have C0 : Hid (W.cell? ⟨h, 0, none⟩ = some (.string s0)) := hc
  have Z0 : Hid (W.frozen? ⟨h, 0, none⟩ = false) := hz
  clear hc hz hS
  by_cases he : errZ n f 2 0 = 0
  · have HE : Hid (errZ n f 2 0 = 0) := he
    clear he
    go_enter Try.func33, Try.ntmps33
    go_wp2_with (go_at_call 15; refine NM.out.mono ?_; rintro e w1 hp; obtain ⟨rfl, hS, hb⟩ := hp.ok HE.out; have c1 := cell_low C0.out hb hh; have z1 := frozen_low Z0.out hb hh)
    go_end0
    exact .inr ⟨HE.out, rfl, w1, hb, hS, c1, rfl⟩
  · have HE : Hid (errZ n f 2 0 ≠ 0) := he
    clear he
    go_enter Try.func33, Try.ntmps33
    go_wp2_with (go_at_call 15; refine NM.out.mono ?_; rintro e w1 hp; obtain ⟨rfl, hb⟩ := hp.bad HE.out)
    exact ⟨rfl, .inl ⟨HE.out, rfl, hb⟩⟩
set_option maxRecDepth 100000 in
theorem awake2_cl {B : Nat} {W : World} {v : Value} {n : Nat} {f : Nat → Int} (hS : Sc B W v n f) (hB : B ≤ W.heap.size) :
    Calls Try.prog 34 #[v] W fun e W' => (errZ n f 2 0 ≠ 0 ∧ e = failE (errZ n f 2 0) ∧ Below B W W') ∨ (errZ n f 2 0 = 0 ∧ e = .returned (.tuple #[]) ∧ Below B W W' ∧ Sc B W' v (n - (wantZ f 2 0).toNat) (fun i => f (i + (wantZ f 2 0).toNat))) := by
  have NM : Hid (Calls Try.prog 15 #[v] W (ActPost B W v n f 2 0 (.string (textF (f 0).toNat fun i => f (i + 1))))) := name_sc hS hB 0
  obtain ⟨g, rfl, hg⟩ := hS.ptr
  clear hS
  by_cases he : errZ n f 2 0 = 0
  · have HE : Hid (errZ n f 2 0 = 0) := he
    clear he
    go_enter Try.func34, Try.ntmps34
    go_wp2_with (go_at_call 15; refine NM.out.mono ?_; rintro e w1 hp; obtain ⟨rfl, hS, hb⟩ := hp.ok HE.out)
    go_end0
    exact .inr ⟨HE.out, rfl, hb, hS⟩
  · have HE : Hid (errZ n f 2 0 ≠ 0) := he
    clear he
    go_enter Try.func34, Try.ntmps34
    go_wp2_with (go_at_call 15; refine NM.out.mono ?_; rintro e w1 hp; obtain ⟨rfl, hb⟩ := hp.bad HE.out)
    exact ⟨rfl, .inl ⟨HE.out, rfl, hb⟩⟩
theorem makes (fn : Fn) (first cap : Array Value) (w : World) : (Instr.makeFunc fn first cap).run Try.prog w = .ok (.func fn first cap) w := rfl
theorem grown_then {w W W' : World} {r : Option Nat} (h : w.grownBy W r) (hb : Below w.heap.size W W') : w.grownBy W' r :=
  ⟨hb.os.trans h.os, hb.tape.trans h.tape, hb.output.trans h.output, Nat.le_trans h.size hb.size, fun k hk hne => (hb.block k hk).trans (h.block k hk hne)⟩
theorem grown_set' {w W : World} {b : Nat} (h : Below w.heap.size w W) (o : Nat) (v : Value) : w.grownBy (W.setCell ⟨b, o, none⟩ v) (some b) :=
  ⟨h.os, h.tape, h.output, by simpa using h.size, fun k hk hne => (Below.heap_setCell _ _ _ _ (fun e => hne (by rw [e]))).trans (h.block k hk)⟩
/-- The first one: the name is stored. -/
theorem try1 (w : World) (a : Option Addr) (n c : Nat) (f : Nat → Int) (hn : n ≤ 1000) (hh : Head a n c) (hb : Bytes w a n f) (he : errZ n f 2 0 = 0) (hm : n - (wantZ f 2 0).toNat = 0) (h : Nat) (hl : h < w.heap.size) (s0 : ByteArray) (hc : w.cell? ⟨h, 0, none⟩ = some (.string s0)) (hz : w.frozen? ⟨h, 0, none⟩ = false) :
    Calls Try.prog 10 #[.slice a n c, .func (.func 33) #[] #[.pointer (some ⟨h, 0, none⟩)]] w fun e w' => e = .returned (.int .i64 0) ∧ w'.cell? ⟨h, 0, none⟩ = some (.string (textF (f 0).toNat fun i => f (i + 1))) ∧ w.grownBy w' (some h) := by
  refine (try_st w a n c f hn hh hb 33 (enters Try.func33 (by kernel_rfl) rfl) #[.pointer (some ⟨h, 0, none⟩)] (fun W er => er = 0 ∧ W.cell? ⟨h, 0, none⟩ = some (.string (textF (f 0).toNat fun i => f (i + 1))) ∧ w.grownBy W (some h)) ?_ ?_).mono ?_
  · rintro W W' er ⟨h1, h2, h3⟩ hB
    exact ⟨h1, cell_low h2 hB hl, grown_then h3 hB⟩
  · intro W B v hW hB1 hB2 hS
    refine (awake1_cl hS hB2 h (by omega) s0 (cell_low hc hW hl) (frozen_low hz hW hl)).mono ?_
    rintro e W' (⟨h1, -⟩ | ⟨-, rfl, W1, hb1, hS1, c1, rfl⟩)
    · exact absurd he h1
    · refine ⟨.inl ⟨_, _, rfl, hS1.low (b := h) (by omega) (grown_set' (Below.refl _ _) _ _), by rw [if_pos hm], World.cell?_setCell_same _ _ _ c1, grown_set' (hW.trans (hb1.mono hB1)) _ _⟩, (Mid.of_below hb1).set hl _ _⟩
  · rintro e w' ⟨er, rfl, ⟨rfl, h2, h3⟩, -⟩
    exact ⟨rfl, h2, h3⟩
/-- The second one: an error. -/
theorem try2 (w : World) (a : Option Addr) (n c : Nat) (f : Nat → Int) (hn : n ≤ 1000) (hh : Head a n c) (hb : Bytes w a n f) (he : errZ n f 2 0 ≠ 0) :
    Calls Try.prog 10 #[.slice a n c, .func (.func 34) #[] #[]] w fun e w' => e = .returned (.int .i64 (errZ n f 2 0)) ∧ Below w.heap.size w w' := by
  refine (try_st w a n c f hn hh hb 34 (enters Try.func34 (by kernel_rfl) rfl) #[] (fun W er => er = errZ n f 2 0 ∧ Below w.heap.size w W) ?_ ?_).mono ?_
  · rintro W W' er ⟨h1, h2⟩ hB
    exact ⟨h1, h2.trans hB⟩
  · intro W B v hW hB1 hB2 hS
    refine (awake2_cl hS hB2).mono ?_
    rintro e W' (⟨h1, rfl, h2⟩ | ⟨h1, -⟩)
    · exact ⟨.inr ⟨_, rfl, rfl, hW.trans (h2.mono hB1)⟩, Mid.of_below h2⟩
    · exact absurd h1 he
  · rintro e w' ⟨er, rfl, ⟨rfl, h2⟩, -⟩
    exact ⟨rfl, h2⟩
def abcF : Nat → Int := fun i => if i = 0 then 3 else if i = 1 then 97 else if i = 2 then 98 else if i = 3 then 99 else 0
def cutAF : Nat → Int := fun i => if i = 0 then 3 else if i = 1 then 97 else 0
theorem abc_bd (i : Nat) : 0 ≤ abcF i ∧ abcF i < 256 := by unfold abcF; repeat' split
                                                           all_goals omega
theorem cutA_bd (i : Nat) : 0 ≤ cutAF i ∧ cutAF i < 256 := by unfold cutAF; repeat' split
                                                              all_goals omega
theorem abc_text : textF 3 (fun i => abcF (i + 1)) = ⟨#[97, 98, 99]⟩ := by kernel_rfl
theorem abc_zero : (abcF 0).toNat = 3 := by kernel_rfl
theorem abc_row (w : World) : Bytes (w.alloc (.cells #[.int .u8 3, .int .u8 97, .int .u8 98, .int .u8 99] 5)) (some ⟨w.heap.size, 0, none⟩) 4 abcF := ⟨abc_bd, .inr ⟨_, 0, rfl, fun i hi => by
      rw [Nat.zero_add]
      exact new_cell' w _ _ i _ (by rcases (by omega : i = 0 ∨ i = 1 ∨ i = 2 ∨ i = 3) with rfl | rfl | rfl | rfl <;> rfl)⟩⟩
theorem cutA_row (w : World) : Bytes (w.alloc (.cells #[.int .u8 3, .int .u8 97] 5)) (some ⟨w.heap.size, 0, none⟩) 2 cutAF := ⟨cutA_bd, .inr ⟨_, 0, rfl, fun i hi => by
      rw [Nat.zero_add]
      exact new_cell' w _ _ i _ (by rcases (by omega : i = 0 ∨ i = 1) with rfl | rfl <;> rfl)⟩⟩
theorem abc_ok : errZ 4 abcF 2 0 = 0 := by kernel_rfl
theorem abc_all : 4 - (wantZ abcF 2 0).toNat = 0 := by kernel_rfl
theorem cutA_err : errZ 2 cutAF 2 0 = 2 := by kernel_rfl
set_option maxRecDepth 100000 in
set_option maxHeartbeats 1000000 in
theorem awake_true (w : World) : Calls Try.prog 8 #[] w fun e w' => e = .returned (.bool true) ∧ Below w.heap.size w w' := by
  have hmf := makes
  go_enter Try.func8, Try.ntmps8
  go_upto_region 2 with fail
  have C0 : Hid ((w.alloc (.cells #[.string ⟨#[]⟩] 9)).cell? ⟨w.heap.size, 0, none⟩ = some (.string ⟨#[]⟩)) := new_cell' w _ _ 0 _ rfl
  have Z0 : Hid ((w.alloc (.cells #[.string ⟨#[]⟩] 9)).frozen? ⟨w.heap.size, 0, none⟩ = false) := by show _ = _; simp [go_sem]
  have B0 : Hid (Below w.heap.size w (w.alloc (.cells #[.string ⟨#[]⟩] 9))) := (Below.refl _ _).alloc (Nat.le_refl _) _
  have e0 : Hid ((w.alloc (.cells #[.string ⟨#[]⟩] 9)).heap.size = w.heap.size + 1) := by show _ = _; simp
  generalize w.alloc (.cells #[.string ⟨#[]⟩] 9) = w0 at C0 Z0 B0 e0 ⊢
  have T1 : Hid (Calls Try.prog 10 #[.slice (some ⟨w0.heap.size, 0, none⟩) 4 4, .func (.func 33) #[] #[.pointer (some ⟨w.heap.size, 0, none⟩)]] (w0.alloc (.cells #[.int .u8 3, .int .u8 97, .int .u8 98, .int .u8 99] 5)) fun e w' => e = .returned (.int .i64 0) ∧ w'.cell? ⟨w.heap.size, 0, none⟩ = some (.string (textF 3 fun i => abcF (i + 1))) ∧ Below w.heap.size w w') := by
    have b1 : Below w0.heap.size w0 (w0.alloc (.cells #[.int .u8 3, .int .u8 97, .int .u8 98, .int .u8 99] 5)) := (Below.refl _ _).alloc (Nat.le_refl _) _
    have hr := abc_row w0
    have h := try1 _ _ 4 4 abcF (by omega) ⟨Nat.le_refl _, fun e => by cases e⟩ hr abc_ok abc_all w.heap.size (by have := e0.out; simp; omega) ⟨#[]⟩ (cell_later' C0.out b1) (frozen_low Z0.out b1 (by have := e0.out; omega))
    rw [abc_zero] at h
    refine Calls.mono h ?_
    rintro e w' ⟨rfl, h2, h3⟩
    refine ⟨rfl, h2, ?_⟩
    have h4 : Below w.heap.size w (w0.alloc (.cells #[.int .u8 3, .int .u8 97, .int .u8 98, .int .u8 99] 5)) := bnext B0.out b1
    exact h4.grown h3 h4.size (fun k hk => by simp only [Option.some.injEq] at hk; omega)
  go_upto_region 3 with (go_at_call 10; refine T1.out.mono ?_; rintro e w1 ⟨rfl, c1, b1⟩)
  have B1 : Hid (Below w.heap.size w w1) := b1
  clear T1 C0 Z0 B0 e0 b1
  have T2 : Hid (Calls Try.prog 10 #[.slice (some ⟨w1.heap.size, 0, none⟩) 2 2, .func (.func 34) #[] #[]] (w1.alloc (.cells #[.int .u8 3, .int .u8 97] 5)) fun e w' => e = .returned (.int .i64 2) ∧ w'.cell? ⟨w.heap.size, 0, none⟩ = some (.string (textF 3 fun i => abcF (i + 1))) ∧ Below w.heap.size w w') := by
    have b2 : Below w1.heap.size w1 (w1.alloc (.cells #[.int .u8 3, .int .u8 97] 5)) := (Below.refl _ _).alloc (Nat.le_refl _) _
    have hr := cutA_row w1
    have h := try2 _ _ 2 2 cutAF (by omega) ⟨Nat.le_refl _, fun e => by cases e⟩ hr (by rw [cutA_err]; decide)
    rw [cutA_err] at h
    refine Calls.mono h ?_
    rintro e w' ⟨rfl, h2⟩
    exact ⟨rfl, cell_later' c1 (bnext b2 h2), bnext B1.out (bnext b2 h2)⟩
  go_upto_region 4 with (go_at_call 10; refine T2.out.mono ?_; rintro e w2 ⟨rfl, c2, b2⟩)
  rw [abc_text] at c2
  have B2 : Hid (Below w.heap.size w w2) := b2
  have N1 : Hid (∀ W, Calls Try.prog 18 #[.string ⟨#[97, 95, 49, 46, 66]⟩] W fun e w' => e = .returned (.bool true) ∧ Below W.heap.size W w') := fun W => by
    have h := named_any ⟨#[97, 95, 49, 46, 66]⟩ W (by decide)
    rwa [show namedB ⟨#[97, 95, 49, 46, 66]⟩ = true from by kernel_rfl] at h
  have N2 : Hid (∀ W, Calls Try.prog 18 #[.string ⟨#[97, 32, 98]⟩] W fun e w' => e = .returned (.bool false) ∧ Below W.heap.size W w') := fun W => by
    have h := named_any ⟨#[97, 32, 98]⟩ W (by decide)
    rwa [show namedB ⟨#[97, 32, 98]⟩ = false from by kernel_rfl] at h
  have PF : Hid (∀ W, Calls Try.prog 25 #[.float .f64 4607182418800017408] W fun e w' => ∃ a c, e = .returned (.slice a 8 c) ∧ w'.ownsRow W.heap.size 5 1 (.slice a 8 c) 8 (cellsK .u8 8 fun i => ((4607182418800017408 : Nat) : Int) / 256 ^ i % 256) ∧ Below W.heap.size W w') := fun W => putfloat_own 4607182418800017408 W (by decide)
  clear T2 B1 b2
  go_wp2_with (first
    | (go_at_call_of 18 (Value.string ⟨#[97, 95, 49, 46, 66]⟩); refine (N1.out _).mono ?_; rintro e w3 ⟨rfl, b3⟩)
    | (go_at_call_of 18 (Value.string ⟨#[97, 32, 98]⟩); refine (N2.out _).mono ?_; rintro e w4 ⟨rfl, b4⟩)
    | (go_at_call 25; refine (PF.out _).mono ?_; rintro e w5 ⟨a5, c5, rfl, -, b5⟩))
  go_ret
  exact ⟨rfl, bnext B2.out (bnext b3 (bnext b4 b5))⟩
end Go.Proofs.Ytgnokbmhbeeblaa
