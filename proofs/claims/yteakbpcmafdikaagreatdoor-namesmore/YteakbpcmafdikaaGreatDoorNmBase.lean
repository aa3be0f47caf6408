/- The plain arithmetic of layer 1: numbers in n bits, as Go's shifts spell them and as the document's own answer spells them. No condition. What each function of layer 1, and each of the document's own answers to it, returns: one contract a function. How an instruction that came in is opened, and what a row's frame wants, in a seat without a laid table. Maps as functions: what a map of the call's own holds of each key, and what look-ups and stores do. No condition. When two rows of numbers, two arrays of registers, are alike: exactly. What the functions of layer 1 that read slices return: one contract a function. 'append(buf, xs...)', buf the call's own, xs whatever: nil, empty or not. What the library's functions on slices return, at bytes and at integers: one contract a function. Names, and numbers of few bytes: in plain words. What is taken of bytes, in plain words; a scanner in memory. -/
import Derived.RowKit
import Derived.IntWalk
import Derived.Test.YteakbpcmafdikaaGreatDoorRows
import Derived.WalkKit
import Derived.WalkSpells
import Derived.ProofKit
import Derived.Below
import Derived.BigQuiet
import Derived.Deep.QuietTactic
import Derived.OpenShut
import Derived.ShutString
import Derived.ChangeOld
import Derived.Lib.SmallJoins
import Derived.Deep.Strs
import Derived.OwnWalk
import Derived.Maps.OwnSet
import Derived.Maps.OwnOps
import Derived.DeepKeys4
import Derived.ChangeKeysEq
import Derived.WalkSmall
import Derived.Laws.BitsAllLaws
import Derived.Deep.AppendLies
import Derived.Laws.OwnMore
import Derived.Lib.SliceRun
import Derived.Lib.AppendZeros
import Derived.Laws.BytesArg
import Derived.Lib.Bytes
namespace Go.Proofs.YteakbpcmafdikaaGreatDoor
open Go.RowKit

/-- Is x a number in n bits? -/
def fitsB (x n : Int) : Bool := decide (1 ≤ n ∧ n ≤ 32 ∧ -(2 ^ (n.toNat - 1)) ≤ x ∧ x < 2 ^ (n.toNat - 1))
/-- x's n lowest bits. -/
def cutZ (x n : Int) : Int := if 1 ≤ n ∧ n ≤ 32 then x % 2 ^ n.toNat else 0
/-- The number in n bits that stands in w's lowest bits. -/
def signZ (w n : Int) : Int := if 1 ≤ n ∧ n ≤ 32 then (if w % 2 ^ n.toNat < 2 ^ (n.toNat - 1) then w % 2 ^ n.toNat else w % 2 ^ n.toNat - 2 ^ n.toNat) else 0

/-- The two powers that part a word: 2^n = 2 * 2^(n-1), and 2^n * 2^(32-n) = 2^32. -/
theorem pow_facts (n : Int) (h1 : 1 ≤ n) (h2 : n ≤ 32) :
    ∃ h M : Int, (2 : Int) ^ (n.toNat - 1) = h ∧ (2 : Int) ^ n.toNat = 2 * h ∧ (2 : Int) ^ (32 - n).toNat = M ∧ 1 ≤ h ∧ 1 ≤ M ∧ h * M = 2147483648 ∧ h ≤ 2147483648 := by
  obtain ⟨k, hk⟩ := Int.eq_ofNat_of_zero_le (a := n - 1) (by omega)
  have e1 : n.toNat - 1 = k := by omega
  have e2 : n.toNat = k + 1 := by omega
  have e3 : (32 - n).toNat = 31 - k := by omega
  have hk31 : k ≤ 31 := by omega
  have hm : (2 : Int) ^ k * 2 ^ (31 - k) = 2147483648 := by
    rw [← Int.pow_add, show k + (31 - k) = 31 from by omega]; decide
  have p1 : (1 : Int) ≤ 2 ^ k := Int.pow_pos (by decide)
  have p2 : (1 : Int) ≤ 2 ^ (31 - k) := Int.pow_pos (by decide)
  refine ⟨2 ^ k, 2 ^ (31 - k), by rw [e1], by rw [e2, Int.pow_succ, Int.mul_comm], by rw [e3], p1, p2, hm, ?_⟩
  have := Int.mul_le_mul_of_nonneg_left p2 (show (0 : Int) ≤ 2 ^ k by omega)
  omega

theorem sign_core (x h M : Int) (hh : 1 ≤ h) (hM : 1 ≤ M) (e : h * M = 2147483648) :
    wrap32 (x * M % 4294967296) / M = if x % (2 * h) < h then x % (2 * h) else x % (2 * h) - 2 * h := by
  have e4 : (4294967296 : Int) = 2 * h * M := by rw [Int.mul_assoc, e]; rfl
  have hx : x * M % 4294967296 = x % (2 * h) * M := by
    rw [e4, Int.mul_comm x M, Int.mul_comm (2 * h) M, Int.mul_emod_mul_of_pos _ _ (by omega), Int.mul_comm]
  have r0 : 0 ≤ x % (2 * h) := Int.emod_nonneg _ (by omega)
  have r1 : x % (2 * h) < 2 * h := Int.emod_lt_of_pos _ (by omega)
  rw [hx]
  generalize x % (2 * h) = r at *
  by_cases hr : r < h
  · have u : r * M < h * M := Int.mul_lt_mul_of_pos_right hr (by omega)
    have l : 0 ≤ r * M := Int.mul_nonneg r0 (by omega)
    rw [if_pos hr, IntWalk.wrap32_in _ (by omega), Int.mul_ediv_cancel _ (by omega)]
  · have l : h * M ≤ r * M := Int.mul_le_mul_of_nonneg_right (by omega) (by omega)
    have u : r * M < 2 * h * M := Int.mul_lt_mul_of_pos_right r1 (by omega)
    have w : wrap32 (r * M) = (r - 2 * h) * M := by
      rw [Int.sub_mul, ← e4]; unfold wrap32; omega
    rw [if_neg hr, w, Int.mul_ediv_cancel _ (by omega)]

/-- bits.Sign as its shifts spell it. -/
theorem sign_eq (x n : Int) (h1 : 1 ≤ n) (h2 : n ≤ 32) :
    wrap64 (wrap32 (x * 2 ^ (32 - n).toNat % 4294967296) / 2 ^ (32 - n).toNat) = signZ x n := by
  obtain ⟨h, M, e1, e2, e3, hh, hM, e, hl⟩ := pow_facts n h1 h2
  unfold signZ
  rw [if_pos ⟨h1, h2⟩, e1, e2, e3, sign_core x h M hh hM e]
  have r0 : 0 ≤ x % (2 * h) := Int.emod_nonneg _ (by omega)
  have r1 : x % (2 * h) < 2 * h := Int.emod_lt_of_pos _ (by omega)
  exact IntWalk.wrap64_in _ (by split <;> omega)

/-- bits.Cut as its shifts spell it. -/
theorem cut_eq (x n : Int) (h1 : 1 ≤ n) (h2 : n ≤ 32) :
    x % 4294967296 * 2 ^ (32 - n).toNat % 4294967296 / 2 ^ (32 - n).toNat = cutZ x n := by
  obtain ⟨h, M, e1, e2, e3, hh, hM, e, hl⟩ := pow_facts n h1 h2
  unfold cutZ
  rw [if_pos ⟨h1, h2⟩, e2, e3]
  have e4 : (4294967296 : Int) = 2 * h * M := by rw [Int.mul_assoc, e]; rfl
  have e5 : x % 4294967296 * M % 4294967296 = x * M % 4294967296 := by
    rw [Int.mul_emod, Int.emod_emod_of_dvd _ (Int.dvd_refl _), ← Int.mul_emod]
  rw [e5, e4, Int.mul_comm x M, Int.mul_comm (2 * h) M, Int.mul_emod_mul_of_pos _ _ (by omega), Int.mul_comm, Int.mul_ediv_cancel _ (by omega)]

/-- bits.Fits as its shift spells it. -/
theorem fits_eq (x n : Int) (h1 : 1 ≤ n) (h2 : n ≤ 32) :
    (x / 2 ^ (n.toNat - 1) == 0 || x / 2 ^ (n.toNat - 1) == -1) = fitsB x n := by
  obtain ⟨h, M, e1, e2, e3, hh, hM, e, hl⟩ := pow_facts n h1 h2
  unfold fitsB
  rw [e1, Bool.eq_iff_iff]
  have d := Int.mul_ediv_add_emod x h
  have r0 : 0 ≤ x % h := Int.emod_nonneg _ (by omega)
  have r1 : x % h < h := Int.emod_lt_of_pos _ (by omega)
  simp only [Bool.or_eq_true, beq_iff_eq, decide_eq_true_eq]
  generalize x / h = q at *
  generalize x % h = r at *
  constructor
  · rintro (rfl | rfl)
    · exact ⟨h1, h2, by omega, by omega⟩
    · refine ⟨h1, h2, ?_, ?_⟩ <;> rw [← d] <;> omega
  · rintro ⟨_, _, l, u⟩
    by_cases q1 : 1 ≤ q
    · have := Int.mul_le_mul_of_nonneg_left q1 (show (0 : Int) ≤ h by omega); omega
    · by_cases q2 : q ≤ -2
      · have := Int.mul_le_mul_of_nonneg_left q2 (show (0 : Int) ≤ h by omega); omega
      · omega

theorem fits_out (x n : Int) (h : ¬ (1 ≤ n ∧ n ≤ 32)) : fitsB x n = false := by
  unfold fitsB; simp; omega
theorem cut_out (x n : Int) (h : ¬ (1 ≤ n ∧ n ≤ 32)) : cutZ x n = 0 := by unfold cutZ; rw [if_neg h]
theorem sign_out (x n : Int) (h : ¬ (1 ≤ n ∧ n ≤ 32)) : signZ x n = 0 := by unfold signZ; rw [if_neg h]

theorem cut_bd (x n : Int) : 0 ≤ cutZ x n ∧ cutZ x n < 4294967296 := by
  unfold cutZ; split
  · rename_i hn
    obtain ⟨h, M, e1, e2, e3, hh, hM, e, hl⟩ := pow_facts n hn.1 hn.2
    rw [e2]
    have r0 : 0 ≤ x % (2 * h) := Int.emod_nonneg _ (by omega)
    have r1 : x % (2 * h) < 2 * h := Int.emod_lt_of_pos _ (by omega)
    omega
  · omega
theorem sign_bd (x n : Int) : -2147483648 ≤ signZ x n ∧ signZ x n ≤ 2147483647 := by
  unfold signZ; split
  · rename_i hn
    obtain ⟨h, M, e1, e2, e3, hh, hM, e, hl⟩ := pow_facts n hn.1 hn.2
    rw [e1, e2]
    have r0 : 0 ≤ x % (2 * h) := Int.emod_nonneg _ (by omega)
    have r1 : x % (2 * h) < 2 * h := Int.emod_lt_of_pos _ (by omega)
    split <;> omega
  · omega
/-- What is read of n bits fits them. -/
theorem fits_sign (w n : Int) (h1 : 1 ≤ n) (h2 : n ≤ 32) : fitsB (signZ w n) n = true := by
  obtain ⟨h, M, e1, e2, e3, hh, hM, e, hl⟩ := pow_facts n h1 h2
  unfold fitsB signZ
  rw [if_pos ⟨h1, h2⟩, e1, e2]
  have r0 : 0 ≤ w % (2 * h) := Int.emod_nonneg _ (by omega)
  have r1 : w % (2 * h) < 2 * h := Int.emod_lt_of_pos _ (by omega)
  simp only [decide_eq_true_eq]
  split <;> omega
/-- What fits is cut and read as it was. -/
theorem sign_cut (x n : Int) (h : fitsB x n = true) : signZ (cutZ x n) n = x := by
  unfold fitsB at h
  simp only [decide_eq_true_eq] at h
  obtain ⟨h1, h2, l, u⟩ := h
  obtain ⟨h, M, e1, e2, e3, hh, hM, e, hl⟩ := pow_facts n h1 h2
  rw [e1] at l u
  unfold signZ cutZ
  simp only [if_pos (And.intro h1 h2)]
  rw [e1, e2, Int.emod_emod_of_dvd _ (Int.dvd_refl _)]
  by_cases hx : 0 ≤ x
  · rw [Int.emod_eq_of_lt hx (by omega), if_pos (by omega)]
  · have : x % (2 * h) = x + 2 * h := by
      rw [← Int.add_emod_right, Int.emod_eq_of_lt (by omega) (by omega)]
    rw [this, if_neg (by omega)]; omega
theorem cut_add (x n : Int) (h1 : 1 ≤ n) (h2 : n ≤ 32) : cutZ (x + 2 ^ n.toNat) n = cutZ x n := by
  unfold cutZ; rw [if_pos ⟨h1, h2⟩, if_pos ⟨h1, h2⟩, Int.add_emod_right]
theorem cut_sub (x n : Int) (h1 : 1 ≤ n) (h2 : n ≤ 32) : cutZ (x - 2 ^ n.toNat) n = cutZ x n := by
  unfold cutZ; rw [if_pos ⟨h1, h2⟩, if_pos ⟨h1, h2⟩, Int.sub_emod_right]
open Go.ChangeShapes Go.WideShapes Go.ChangeAt Go.RowKit

set_option linter.unusedVariables false
theorem ret_int {k : IntKind} {a b : Int} (h : a = b) : Ending.returned (.int k a) = .returned (.int k b) := by rw [h]
theorem ret_bool {a b : Bool} (h : a = b) : Ending.returned (.bool a) = .returned (.bool b) := by rw [h]

theorem sign_any (x n : Int) (w : World) (_x0 : 0 ≤ x) (_x1 : x < 4294967296) :
    Calls Tryz.prog 161 #[.int .u32 x, .int .i64 n] w fun e w' => e = .returned (.int .i64 (signZ x n)) ∧ w' = w := by
  by_cases h1 : 1 ≤ n
  · by_cases h2 : n ≤ 32
    · have H : Hid (_ = _) := sign_eq x n h1 h2
      go_enter Tryz.func161, Tryz.ntmps161
      go_wp2
      go_ret
      exact ⟨ret_int H.out, rfl⟩
    · go_enter Tryz.func161, Tryz.ntmps161
      go_wp2
      go_ret
      exact ⟨ret_int (sign_out x n (by omega)).symm, rfl⟩
  · go_enter Tryz.func161, Tryz.ntmps161
    go_wp2
    go_ret
    exact ⟨ret_int (sign_out x n (by omega)).symm, rfl⟩

theorem cut_any (x n : Int) (w : World) :
    Calls Tryz.prog 159 #[.int .i64 x, .int .i64 n] w fun e w' => e = .returned (.int .u32 (cutZ x n)) ∧ w' = w := by
  by_cases h1 : 1 ≤ n
  · by_cases h2 : n ≤ 32
    · have H : Hid (_ = _) := cut_eq x n h1 h2
      go_enter Tryz.func159, Tryz.ntmps159
      go_wp2
      go_ret
      exact ⟨ret_int H.out, rfl⟩
    · go_enter Tryz.func159, Tryz.ntmps159
      go_wp2
      go_ret
      exact ⟨ret_int (cut_out x n (by omega)).symm, rfl⟩
  · go_enter Tryz.func159, Tryz.ntmps159
    go_wp2
    go_ret
    exact ⟨ret_int (cut_out x n (by omega)).symm, rfl⟩

theorem fits_any (x n : Int) (w : World) :
    Calls Tryz.prog 165 #[.int .i64 x, .int .i64 n] w fun e w' => e = .returned (.bool (fitsB x n)) ∧ w' = w := by
  by_cases h1 : 1 ≤ n
  · by_cases h2 : n ≤ 32
    · have H : Hid (_ = _) := fits_eq x n h1 h2
      go_enter Tryz.func165, Tryz.ntmps165
      go_wp2
      · rename_i hq
        go_ret
        exact ⟨ret_bool (by rw [← H.out, hq]; rfl), rfl⟩
      · go_ret
        exact ⟨ret_bool H.out, rfl⟩
    · go_enter Tryz.func165, Tryz.ntmps165
      go_wp2
      go_ret
      exact ⟨ret_bool (fits_out x n (by omega)).symm, rfl⟩
  · go_enter Tryz.func165, Tryz.ntmps165
    go_wp2
    go_ret
    exact ⟨ret_bool (fits_out x n (by omega)).symm, rfl⟩

/-! ### The document's own answers -/

theorem power_any (n : Int) (w : World) (h0 : 0 ≤ n) (h1 : n ≤ 62) :
    Calls Tryz.prog 93 #[.int .i64 n] w fun e w' => e = .returned (.int .i64 (2 ^ n.toNat)) ∧ w' = w := by
  obtain ⟨m, rfl⟩ := Int.eq_ofNat_of_zero_le h0
  go_enter Tryz.func93, Tryz.ntmps93
  go_wp2
  go_loop [3, 4] (fun x i => ∃ k : Nat, k ≤ m ∧ i = .int .i64 k ∧ x = .int .i64 (2 ^ k)) (fun _ i => m - (intOf i).toNat)
  case atStart => exact ⟨0, Nat.zero_le _, rfl, rfl⟩
  case round =>
    obtain ⟨k, hk, rfl, rfl⟩ := hrel
    by_cases hlt : k < m
    · obtain ⟨q, H, q0, q1⟩ : ∃ q : Int, Hid ((2 : Int) ^ k = q) ∧ 0 ≤ q ∧ q ≤ 4611686018427387903 := by
        refine ⟨_, rfl, Int.pow_nonneg (by decide), ?_⟩
        have h2 : 2 ^ k ≤ 2 ^ 61 := Nat.pow_le_pow_right (by decide) (show k ≤ 61 by omega)
        have e : ((2 ^ k : Nat) : Int) = 2 ^ k := by simp
        have e1 : 2 ^ 61 = 2305843009213693952 := by decide
        omega
      rw [H.out]
      go_wp2
      go_round
      case rel => exact ⟨k + 1, by omega, by go_num, by rw [Int.pow_succ, H.out]; go_num⟩
      case measure => simp [intOf]; omega
    · obtain rfl : k = m := by omega
      go_wp2
      go_ret
      exact ⟨rfl, rfl⟩

theorem mod_eq (x n : Int) (h0 : 1 ≤ n) : x % n = if x.tmod n < 0 then x.tmod n + n else x.tmod n := by
  rw [Int.tmod_eq_emod]
  have r0 : 0 ≤ x % n := Int.emod_nonneg _ (by omega)
  have r1 : x % n < n := Int.emod_lt_of_pos _ (by omega)
  split <;> split <;> omega
/-- The four bytes of a word, the lowest first. -/
def bytesOf (x : Int) : Array Value := #[.int .u8 (x % 256), .int .u8 (x / 256 % 256), .int .u8 (x / 65536 % 256), .int .u8 (x / 16777216)]

theorem put_any (x : Int) (w : World) (x0 : 0 ≤ x) (x1 : x < 4294967296) :
    Calls Tryz.prog 144 #[.int .u32 x] w fun e w' => e = .returned (.agg (bytesOf x)) ∧ w' = w.alloc (.cells (bytesOf x) 197) := by
  go_enter Tryz.func144, Tryz.ntmps144
  go_wp2
  simp [bodyPost, results, Tryz.results144, go_sem, bytesOf]
theorem rsign_any (x n : Int) (w : World) (x0 : 0 ≤ x) (x1 : x < 4294967296) :
    Calls Tryz.prog 72 #[.int .u32 x, .int .i64 n] w fun e w' => e = .returned (.int .i64 (signZ x n)) ∧ w' = w := by
  by_cases h1 : 1 ≤ n
  · by_cases h2 : n ≤ 32
    · obtain ⟨h, M, e1, e2, e3, hh, hM, e, hl⟩ := pow_facts n h1 h2
      have H2 : Hid (_ = _) := e2
      have H3 : Hid (signZ x n = if x % (2 * h) < h then x % (2 * h) else x % (2 * h) - 2 * h) := by unfold signZ Hid; rw [if_pos ⟨h1, h2⟩, e1, e2]
      have r0 : 0 ≤ x % (2 * h) := Int.emod_nonneg _ (by omega)
      have r1 : x % (2 * h) < 2 * h := Int.emod_lt_of_pos _ (by omega)
      clear e1 e2 e3 e
      go_enter Tryz.func72, Tryz.ntmps72
      go_wp2_with (go_at_call 93; refine (power_any _ _ (by omega) (by omega)).mono ?_; rintro e w' ⟨rfl, rfl⟩; rw [H2.out])
      · rename_i hc _
        go_ret
        exact ⟨ret_int (by rw [H3.out, if_neg (by omega)]), rfl⟩
      · rename_i hc
        go_ret
        exact ⟨ret_int (by rw [H3.out, if_pos hc]), rfl⟩
    · go_enter Tryz.func72, Tryz.ntmps72
      go_wp2
      go_ret
      exact ⟨ret_int (sign_out x n (by omega)).symm, rfl⟩
  · go_enter Tryz.func72, Tryz.ntmps72
    go_wp2
    go_ret
    exact ⟨ret_int (sign_out x n (by omega)).symm, rfl⟩
open Go.ChangeShapes Go.WideShapes Go.ChangeAt Go.RowKit
set_option linter.unusedVariables false
set_option maxRecDepth 100000

theorem own : ownKnob Tryz.prog.godebug = none := by kernel_rfl
theorem laidOut : laidOutB Tryz.prog = true := by kernel_rfl
theorem wf_i64_bd {x : Int} (h : (Lit.int .i64 x).wf = true) : -9223372036854775808 ≤ x ∧ x ≤ 9223372036854775807 := by
  simp [Lit.wf, IntKind.min, IntKind.max, IntKind.signed, IntKind.bits] at h; omega
theorem wf_u32_bd {x : Int} (h : (Lit.int .u32 x).wf = true) : 0 ≤ x ∧ x < 4294967296 := by
  simp [Lit.wf, IntKind.min, IntKind.max, IntKind.signed, IntKind.bits] at h; omega
theorem wf_u8_bd {x : Int} (h : (Lit.int .u8 x).wf = true) : 0 ≤ x ∧ x < 256 := by
  simp [Lit.wf, IntKind.min, IntKind.max, IntKind.signed, IntKind.bits] at h; omega
theorem cell_later' {w w' : World} {k off : Nat} {v : Value} (h : w.cell? ⟨k, off, none⟩ = some v) (hb : Below w.heap.size w w') : w'.cell? ⟨k, off, none⟩ = some v :=
  (hb.cell (p := ⟨k, off, none⟩) (World.block_lt_of_cell? w ⟨k, off, none⟩ h)).trans h

theorem bnext {a b c : World} (h : Below a.heap.size a b) (k : Below b.heap.size b c) : Below a.heap.size a c := h.trans (k.mono h.size)

theorem new_cell' (w : World) (cs : Array Value) (t : TypeId) (i : Nat) (v : Value) (h : cs[i]? = some v) : (w.alloc (.cells cs t)).cell? ⟨w.heap.size, i, none⟩ = some v := by simp [go_sem, h]
/-- A Boolean that came in. -/
theorem open_bool {H : Type} {enc : TypeId × Value → H} {W : World} {r : Reach} {b0 base : Nat} {sp : Nat → Bool} {held : Bool} {t : TypeId} {v : Value} {d : DataW H} {p : List MemPlace} (ht : Tryz.prog.underlying t = some .bool)
    (hv : Value.okWide Tryz.prog W r b0 t v) (h : DataW.Trod enc Tryz.prog W base sp held t v d p) : ∃ b, v = .bool b ∧ d = .lit (.bool b) ∧ p = [] := by
  obtain ⟨b, rfl⟩ := okWide_bool ht hv
  obtain ⟨fuel, hf⟩ := h
  obtain ⟨b', e, hx⟩ := DataW.trod_bool ht hf
  simp [Value.cells] at e
  subst e
  simp only [Prod.mk.injEq] at hx
  exact ⟨b, rfl, hx.1, hx.2⟩
/-- A slice of integers that came in: nil, or a row of cells. -/
def IsRow (k : IntKind) (w : World) (a : Option Addr) (len cap : Nat) (zs : List Int) : Prop :=
  (a = none ∧ len = 0 ∧ cap = 0 ∧ zs = []) ∨
  ∃ x, a = some x ∧ len ≤ cap ∧ cap ≤ maxLen ∧ zs.length = cap ∧ (∀ i, i < zs.length → w.cell? (x.add i) = some (.int k (zs.getD i 0))) ∧ ∀ n ∈ zs, (Lit.int k n).wf = true
/-- A row's n numbers, as far as they are read; each of them is a byte. -/
def Bytes (w : World) (a : Option Addr) (n : Nat) (f : Nat → Int) : Prop :=
  (∀ i, 0 ≤ f i ∧ f i < 256) ∧ (n = 0 ∨ ∃ b off, a = some ⟨b, off, none⟩ ∧ ∀ i, i < n → w.cell? ⟨b, off + i, none⟩ = some (.int .u8 (f i)))
theorem Bytes.later {w w' : World} {a : Option Addr} {n : Nat} {f : Nat → Int} (h : Bytes w a n f) (hb : Below w.heap.size w w') : Bytes w' a n f :=
  ⟨h.1, h.2.imp id fun ⟨b, off, e, h⟩ => ⟨b, off, e, fun i hi => cell_later' (h i hi) hb⟩⟩
theorem bytes_of_row {w : World} {a : Option Addr} {len cap : Nat} {zs : List Int} (h : IsRow .u8 w a len cap zs) : len ≤ cap ∧ cap ≤ maxLen ∧ (a = none → cap = 0) ∧ ∃ f, Bytes w a len f := by
  rcases h with ⟨_, rfl, rfl, _⟩ | ⟨x, rfl, hl, hm, hz, hcell, hwz⟩
  · exact ⟨Nat.le_refl _, Nat.zero_le _, fun _ => rfl, fun _ => 0, fun i => ⟨by simp, by simp⟩, .inl rfl⟩
  · refine ⟨hl, hm, (fun h => nomatch h), fun i => zs.getD i 0, fun i => ?_, ?_⟩
    · by_cases hi : i < zs.length
      · have := hwz (zs.getD i 0) (by rw [List.getD_eq_getElem?_getD, List.getElem?_eq_getElem hi]; simp)
        simp [Lit.wf, IntKind.min, IntKind.max, IntKind.signed, IntKind.bits] at this
        simp only [List.getD_eq_getElem?_getD]; omega
      · have e : zs[i]? = none := List.getElem?_eq_none (by omega)
        simp [List.getD_eq_getElem?_getD, e]
    · by_cases h0 : len = 0
      · exact .inl h0
      · obtain ⟨b, off, spot⟩ := x
        have hc := hcell 0 (by omega)
        have hspot : spot = none := by simpa [Addr.add] using World.cell?_spot hc
        subst hspot
        exact .inr ⟨b, off, rfl, fun i hi => by have := hcell i (by omega); rwa [show (⟨b, off, none⟩ : Addr).add i = ⟨b, off + i, none⟩ from by cases i <;> simp [Addr.add]] at this⟩
/-- A row's n numbers of the kind k, as far as they are read. -/
def RowK (k : IntKind) (w : World) (a : Option Addr) (n : Nat) (f : Nat → Int) : Prop :=
  (∀ i, (Lit.int k (f i)).wf = true) ∧ (n = 0 ∨ ∃ b off, a = some ⟨b, off, none⟩ ∧ ∀ i, i < n → w.cell? ⟨b, off + i, none⟩ = some (.int k (f i)))
theorem RowK.later {k : IntKind} {w w' : World} {a : Option Addr} {n : Nat} {f : Nat → Int} (h : RowK k w a n f) (hb : Below w.heap.size w w') : RowK k w' a n f :=
  ⟨h.1, h.2.imp id fun ⟨b, off, e, h⟩ => ⟨b, off, e, fun i hi => cell_later' (h i hi) hb⟩⟩
theorem wf_zero (k : IntKind) : (Lit.int k 0).wf = true := by cases k <;> rfl
theorem rowK_of_row {k : IntKind} {w : World} {a : Option Addr} {len cap : Nat} {zs : List Int} (h : IsRow k w a len cap zs) : len ≤ cap ∧ cap ≤ maxLen ∧ (a = none → cap = 0) ∧ ∃ f, RowK k w a len f := by
  rcases h with ⟨_, rfl, rfl, _⟩ | ⟨x, rfl, hl, hm, hz, hcell, hwz⟩
  · exact ⟨Nat.le_refl _, Nat.zero_le _, fun _ => rfl, fun _ => 0, fun _ => wf_zero k, .inl rfl⟩
  · refine ⟨hl, hm, (fun h => nomatch h), fun i => zs.getD i 0, fun i => ?_, ?_⟩
    · by_cases hi : i < zs.length
      · exact hwz (zs.getD i 0) (by rw [List.getD_eq_getElem?_getD, List.getElem?_eq_getElem hi]; simp)
      · have e : zs[i]? = none := List.getElem?_eq_none (by omega)
        simp [List.getD_eq_getElem?_getD, e, wf_zero]
    · by_cases h0 : len = 0
      · exact .inl h0
      · obtain ⟨b, off, spot⟩ := x
        have hc := hcell 0 (by omega)
        have hspot : spot = none := by simpa [Addr.add] using World.cell?_spot hc
        subst hspot
        exact .inr ⟨b, off, rfl, fun i hi => by have := hcell i (by omega); rwa [show (⟨b, off, none⟩ : Addr).add i = ⟨b, off + i, none⟩ from by cases i <;> simp [Addr.add]] at this⟩
/-- A slice of integers that came in: its cell, opened. -/
theorem open_cell {H : Type} {enc : TypeId × Value → H} {W : World} {base : Nat} {held : Bool} {t e : TypeId} {k : IntKind} {fuel : Nat} {c : Value} {x : DataW H × List MemPlace} (ht : Tryz.prog.underlying t = some (.slice e)) (he : Tryz.prog.underlying e = some (.int k)) (hc : Tryz.prog.cellsOf e = 1)
    (h : DataW.trod enc Tryz.prog W base (fun _ => true) held fuel t [c] = some x) : ∃ a len cap f, c = .slice a len cap ∧ len ≤ cap ∧ cap ≤ maxLen ∧ (a = none → cap = 0) ∧ RowK k W a len f := by
  rcases open_ints ht he hc h with ⟨hcs, _⟩ | ⟨y, l, c', zs, hcs, _, hlc, hm, hz, _, hcell, hwz⟩
  · simp at hcs
    subst hcs
    obtain ⟨k0, k1, k3, f, k2⟩ := rowK_of_row (.inl ⟨rfl, rfl, rfl, rfl⟩ : IsRow k W none 0 0 [])
    exact ⟨none, 0, 0, f, rfl, k0, k1, k3, k2⟩
  · simp at hcs
    subst hcs
    obtain ⟨k0, k1, k3, f, k2⟩ := rowK_of_row (.inr ⟨y, rfl, hlc, hm, by simpa using hz, hcell, hwz⟩ : IsRow k W (some y) l c' zs)
    exact ⟨some y, l, c', f, rfl, k0, k1, k3, k2⟩
/-- A slice of integers that came in. -/
theorem open_sl {H : Type} {enc : TypeId × Value → H} {W : World} {r : Reach} {b0 base : Nat} {held : Bool} {t e : TypeId} {k : IntKind} {v : Value} {d : DataW H} {p : List MemPlace} (ht : Tryz.prog.underlying t = some (.slice e)) (he : Tryz.prog.underlying e = some (.int k)) (hc : Tryz.prog.cellsOf e = 1)
    (hv : Value.okWide Tryz.prog W r b0 t v) (h : DataW.Trod enc Tryz.prog W base (fun _ => true) held t v d p) : ∃ a len cap f, v = .slice a len cap ∧ (len ≤ cap ∧ cap ≤ maxLen ∧ (a = none → cap = 0) ∧ RowK k W a len f) := by
  obtain ⟨a, len, cap, rfl⟩ := okWide_slice ht hv
  obtain ⟨fuel, hf⟩ := h
  obtain ⟨a', l', c', f, e', h1⟩ := open_cell ht he hc hf
  simp only [Value.slice.injEq] at e'
  obtain ⟨rfl, rfl, rfl⟩ := e'
  exact ⟨a, len, cap, f, rfl, h1⟩
theorem bytes_of_rowK {w : World} {a : Option Addr} {n : Nat} {f : Nat → Int} (h : RowK .u8 w a n f) : Bytes w a n f :=
  ⟨fun i => wf_u8_bd (h.1 i), h.2⟩
theorem c3 : Tryz.prog.cellsOf 3 = 1 := by kernel_rfl
/-- An instruction that came in. -/
theorem open_ins {H : Type} {enc : TypeId × Value → H} {W : World} {r : Reach} {b0 base : Nat} {sp : Nat → Bool} {held : Bool} {v : Value} {d : DataW H} {p : List MemPlace}
    (hv : Value.okWide Tryz.prog W r b0 112 v) (h : DataW.Trod enc Tryz.prog W base sp held 112 v d p) :
    ∃ op a b c imm : Int, v = .agg (#[.int .i64 op, .int .i64 a, .int .i64 b, .int .i64 c, .int .i64 imm]) ∧ ((Lit.int .i64 op).wf = true ∧ (Lit.int .i64 a).wf = true ∧ (Lit.int .i64 b).wf = true ∧ (Lit.int .i64 c).wf = true ∧ (Lit.int .i64 imm).wf = true) := by
  obtain ⟨cs, rfl, hsz⟩ := Go.WideShapes.okWide_struct Tryz.underlying112 hv
  obtain ⟨fuel, hf⟩ := h
  obtain ⟨xs, n, _, hx, hl, hlen, hfs⟩ := DataW.trod_struct Tryz.underlying112 hf
  have hc : Tryz.prog.cellsOf 112 = 5 := by kernel_rfl
  rw [hc] at hsz
  have hl5 : xs.length = 5 := hlen
  have key : ∀ (i : Nat) (f : Field), i < 5 → f.type = 3 → f.offset = i → (#[{ name := "Op", type := 3, offset := 0, embedded := false, tag := "", pkgPath := "", byteOffset := 0 }, { name := "A", type := 3, offset := 1, embedded := false, tag := "", pkgPath := "", byteOffset := 8 }, { name := "B", type := 3, offset := 2, embedded := false, tag := "", pkgPath := "", byteOffset := 16 }, { name := "C", type := 3, offset := 3, embedded := false, tag := "", pkgPath := "", byteOffset := 24 }, { name := "Imm", type := 3, offset := 4, embedded := false, tag := "", pkgPath := "", byteOffset := 32 }] : Array Field)[i]? = some f → ∃ x : Int, cs.toList[i]? = some (.int .i64 x) ∧ (Lit.int .i64 x).wf = true := by
    intro i f hi ht ho hf'
    have h1 := hfs i f hf'
    rw [ht, ho, c3, List.getElem?_eq_getElem (by omega)] at h1
    obtain ⟨x, e, _, w⟩ := DataW.trod_int Tryz.underlying3 h1
    have g := congrArg (·[0]?) e
    simp [Value.cells] at g
    exact ⟨x, by simpa using g, w⟩
  obtain ⟨x0, g0, w0⟩ := key 0 _ (by omega) rfl rfl rfl
  obtain ⟨x1, g1, w1⟩ := key 1 _ (by omega) rfl rfl rfl
  obtain ⟨x2, g2, w2⟩ := key 2 _ (by omega) rfl rfl rfl
  obtain ⟨x3, g3, w3⟩ := key 3 _ (by omega) rfl rfl rfl
  obtain ⟨x4, g4, w4⟩ := key 4 _ (by omega) rfl rfl rfl
  refine ⟨x0, x1, x2, x3, x4, ?_, w0, w1, w2, w3, w4⟩
  obtain ⟨l⟩ := cs
  have hl' : l.length = 5 := hsz
  match l, hl' with
  | [c0, c1, c2, c3, c4], _ =>
    simp at g0 g1 g2 g3 g4
    subst g0 g1 g2 g3 g4
    rfl

/-- An instruction's five cells stand at the head of a block. -/
def InsAt (w : World) (k : Nat) (op a b c imm : Int) : Prop :=
  w.cell? ⟨k, 0, none⟩ = some (.int .i64 op) ∧ w.cell? ⟨k, 1, none⟩ = some (.int .i64 a) ∧ w.cell? ⟨k, 2, none⟩ = some (.int .i64 b) ∧ w.cell? ⟨k, 3, none⟩ = some (.int .i64 c) ∧ w.cell? ⟨k, 4, none⟩ = some (.int .i64 imm)
theorem InsAt.later {w w' : World} {k : Nat} {op a b c imm : Int} (h : InsAt w k op a b c imm) (hb : Below w.heap.size w w') : InsAt w' k op a b c imm :=
  ⟨cell_later' h.1 hb, cell_later' h.2.1 hb, cell_later' h.2.2.1 hb, cell_later' h.2.2.2.1 hb, cell_later' h.2.2.2.2 hb⟩
theorem InsAt.new (w : World) (op a b c imm : Int) (t : TypeId) : InsAt (w.alloc (.cells (#[.int .i64 op, .int .i64 a, .int .i64 b, .int .i64 c, .int .i64 imm]) t)) w.heap.size op a b c imm :=
  ⟨new_cell' w _ _ 0 _ rfl, new_cell' w _ _ 1 _ rfl, new_cell' w _ _ 2 _ rfl, new_cell' w _ _ 3 _ rfl, new_cell' w _ _ 4 _ rfl⟩
open Go.ChangeShapes Go.WideShapes Go.ChangeAt Go.RowKit Go.Maps
set_option linter.unusedVariables false
set_option linter.unusedSimpArgs false
/-- An element is what it is. -/
def rawE (v : Value) : Option (DataW Value × List MemPlace) := some (.held v, [])
theorem rawE_inv {v : Value} {d : DataW Value} {ps : List MemPlace} (h : rawE v = some (d, ps)) : d = .held v := by
  unfold rawE at h; simp at h; exact h.1.symm
/-- A type of keys: how a key is written, which keys serve. -/
structure KeyT (P : Program) (k : TypeId) (κ : Type) where
  ek : κ → Value
  good : κ → Prop
  key : Keyed P k
  reads : ∀ x, good x → ∃ l, keyOf P k (ek x) = some l
  inj : ∀ x y, good x → good y → ek x = ek y → x = y
section
variable {P : Program} {k : TypeId} {κ ν : Type}
/-- Block b is a map of at most n entries that holds f. -/
def MapAt (T : KeyT P k κ) (ev : ν → Value) (w : World) (b n : Nat) (f : κ → Option ν) : Prop :=
  ∃ D : DataW Value, w.ownsMap P k rawE b n D ∧ IsMap D ∧ ∀ x, T.good x → ∀ l, keyOf P k (T.ek x) = some l → (∀ z, D.atKey l (.held z) = .held ((f x).elim z ev)) ∧ Maps.has D l = (f x).isSome
variable {T : KeyT P k κ} {ev : ν → Value} {w w' : World} {b n : Nat} {f : κ → Option ν}
theorem mapAt_made (T : KeyT P k κ) (ev : ν → Value) (w : World) : MapAt T ev (w.alloc (.map #[] 0)) w.heap.size 0 fun _ => none :=
  ⟨.map [], World.ownsMap_made _ _ _ _, isMap_empty, fun x _ l _ => ⟨fun z => rfl, rfl⟩⟩
theorem MapAt.lt (h : MapAt T ev w b n f) : b < w.heap.size := by obtain ⟨D, h1, _⟩ := h; exact h1.lt
theorem MapAt.keep (h : MapAt T ev w b n f) (hk : w'.heap[b]? = w.heap[b]?) : MapAt T ev w' b n f := by
  obtain ⟨D, ⟨es, clock, hb, r⟩, h2⟩ := h
  exact ⟨D, ⟨es, clock, hk.trans hb, r⟩, h2⟩
theorem MapAt.later (h : MapAt T ev w b n f) (hb : Below w.heap.size w w') : MapAt T ev w' b n f := h.keep (hb.block b h.lt)
theorem MapAt.mono (h : MapAt T ev w b n f) {n' : Nat} (hn : n ≤ n') : MapAt T ev w b n' f := by obtain ⟨D, h1, h2⟩ := h; exact ⟨D, h1.mono hn, h2⟩
theorem MapAt.look {t e : TypeId} (h : MapAt T ev w b n f) (ht : P.underlying t = some (.map k e)) {z : Value} (hz : (zeroValue e).run P w = .ok z w) {x : κ} (hx : T.good x) :
    (Instr.lookup t (.map (some b)) (T.ek x) false).run P w = .ok ((f x).elim z ev) w := by
  obtain ⟨D, h1, h2, h3⟩ := h
  obtain ⟨l, hl⟩ := T.reads x hx
  obtain ⟨v, ps, hr, hv⟩ := h1.lookup T.key ht hz (zd := .held z) (zp := []) rfl hl
  have e1 := rawE_inv hv
  rw [(h3 x hx l hl).1 z] at e1
  injection e1 with e1
  rw [hr, e1]
theorem MapAt.look_ok {t e : TypeId} (h : MapAt T ev w b n f) (ht : P.underlying t = some (.map k e)) {z : Value} (hz : (zeroValue e).run P w = .ok z w) {x : κ} (hx : T.good x) :
    (Instr.lookup t (.map (some b)) (T.ek x) true).run P w = .ok (.tuple #[(f x).elim z ev, .bool (f x).isSome]) w := by
  obtain ⟨D, h1, h2, h3⟩ := h
  obtain ⟨l, hl⟩ := T.reads x hx
  obtain ⟨v, ps, hr, hv⟩ := h1.look_ok T.key ht hz (zd := .held z) (zp := []) rfl hl
  have e1 := rawE_inv hv
  rw [(h3 x hx l hl).1 z] at e1
  injection e1 with e1
  rw [hr, e1, (h3 x hx l hl).2]
/-- A store: whatever the key is, the others hold what they held. -/
theorem MapAt.store {t e : TypeId} (h : MapAt T ev w b n f) (ht : P.underlying t = some (.map k e)) (hn : n < maxLen) {x : κ} (hx : T.good x) {u : ν} {g : κ → Option ν} (h1 : g x = some u) (h2 : ∀ y, T.good y → y ≠ x → g y = f y) :
    ∃ w', (Instr.mapUpdate t (.map (some b)) (T.ek x) (ev u)).run P w = .ok () w' ∧ MapAt T ev w' b (n + 1) g ∧ w.grownBy w' (some b) := by
  obtain ⟨D, k1, k2, k3⟩ := h
  obtain ⟨l, hl⟩ := T.reads x hx
  obtain ⟨w', hr, r1, r2⟩ := k1.update T.key ht hn (val := ev u) (d := .held (ev u)) (ps := []) hl rfl
  refine ⟨w', hr, ⟨_, r1, k2.put _ _, fun y hy m hm => ?_⟩, r2⟩
  by_cases e : y = x
  · subst e
    rw [hl] at hm
    cases hm
    exact ⟨fun z => by rw [atKey_put_same k2 (T.key.key hl), h1]; rfl, by rw [has_put_same k2 (T.key.key hl), h1]; rfl⟩
  · have hne : m ≠ l := fun c => e (T.inj y x hy hx (T.key.inj hm (c ▸ hl)))
    rw [h2 y hy e]
    exact ⟨fun z => by rw [atKey_put_other hne]; exact (k3 y hy m hm).1 z, by rw [has_put_other hne]; exact (k3 y hy m hm).2⟩
/-! ### At the operation, for the walk -/
variable {ops : Array Oper} {rest : List Oper} {o : Oper} {a : Act} {Q : Exit → Act → World → Prop}
theorem wpList_map_look (hg : o.guard = none) (m x : Operand) (t : TypeId) (hop : o.op = Op.lookup t m x false) (h : MapAt T ev w b n f) (e : TypeId) (ht : P.underlying t = some (.map k e)) {z : Value} (hz : (zeroValue e).run P w = .ok z w)
    (hm : a.eval m = .map (some b)) (y : κ) (hx : a.eval x = T.ek y) (hy : T.good y) {r : Option ν} (hr : f y = r) (hK : wpList P ops Q rest (a.put o.dst (r.elim z ev)) w) : wpList P ops Q (o :: rest) a w := by
  refine wpList_plain hg fun K' hK' => ?_
  unfold Oper.wp
  simp [execOp, hop, hm, hx, h.look ht hz hy, hr, Result.andThen]
  exact hK' _ _ hK
theorem wpList_map_ok (hg : o.guard = none) (m x : Operand) (t : TypeId) (hop : o.op = Op.lookup t m x true) (h : MapAt T ev w b n f) (e : TypeId) (ht : P.underlying t = some (.map k e)) {z : Value} (hz : (zeroValue e).run P w = .ok z w)
    (hm : a.eval m = .map (some b)) (y : κ) (hx : a.eval x = T.ek y) (hy : T.good y) {r : Option ν} (hr : f y = r) (hK : wpList P ops Q rest (a.put o.dst (.tuple #[r.elim z ev, .bool r.isSome])) w) : wpList P ops Q (o :: rest) a w := by
  refine wpList_plain hg fun K' hK' => ?_
  unfold Oper.wp
  simp [execOp, hop, hm, hx, h.look_ok ht hz hy, hr, Result.andThen]
  exact hK' _ _ hK
theorem wpList_map_store (hg : o.guard = none) (m x v : Operand) (t : TypeId) (hop : o.op = Op.mapUpdate t m x v) (h : MapAt T ev w b n f) (e : TypeId) (ht : P.underlying t = some (.map k e)) (hn : n < maxLen)
    (hm : a.eval m = .map (some b)) (y : κ) (hx : a.eval x = T.ek y) (hy : T.good y) (u : ν) (hv : a.eval v = ev u) (g : κ → Option ν) (h1 : g y = some u) (h2 : ∀ y', T.good y' → y' ≠ y → g y' = f y')
    (hK : ∀ w', MapAt T ev w' b (n + 1) g → w.grownBy w' (some b) → wpList P ops Q rest (a.put o.dst undef) w') : wpList P ops Q (o :: rest) a w := by
  refine wpList_plain hg fun K' hK' => ?_
  obtain ⟨w', hrun, r1, r2⟩ := h.store ht hn hy h1 h2
  unfold Oper.wp
  simp [execOp, hop, hm, hx, hv, hrun, Result.andThen]
  exact hK' _ _ (hK w' r1 r2)
end
open Go.ChangeShapes Go.WideShapes Go.ChangeAt Go.RowKit
set_option linter.unusedVariables false

/-- The first n numbers of f and g are alike. -/
def eqB (n m : Nat) (f g : Nat → Int) : Bool := decide (n = m ∧ ∀ i, i < n → f i = g i)
/-- The 16 registers are alike. -/
def regsB (r q : Nat → Int) : Bool := (List.range 16).all fun j => r j == q j
/-- 16 words, as an array's cells. -/
def regsV (r : Nat → Int) : Array Value := #[.int .u32 (r 0), .int .u32 (r 1), .int .u32 (r 2), .int .u32 (r 3), .int .u32 (r 4), .int .u32 (r 5), .int .u32 (r 6), .int .u32 (r 7), .int .u32 (r 8), .int .u32 (r 9), .int .u32 (r 10), .int .u32 (r 11), .int .u32 (r 12), .int .u32 (r 13), .int .u32 (r 14), .int .u32 (r 15)]
theorem bytes_eq (w : World) (a1 a2 : Option Addr) (n m c1 c2 : Nat) (f g : Nat → Int) (hn : n ≤ 9223372036854775807) (hm : m ≤ 9223372036854775807) (h1 : Bytes w a1 n f) (h2 : Bytes w a2 m g) :
    Calls Tryz.prog 46 #[.slice a1 n c1, .slice a2 m c2] w fun e w' => e = .returned (.bool (eqB n m f g)) ∧ Below w.heap.size w w' := by
  by_cases hnm : n = m
  rotate_left
  · have e : eqB n m f g = false := by unfold eqB; exact decide_eq_false (fun h => hnm h.1)
    rw [e]
    have hq : ((n : Int) != (m : Int)) = true := by simp; omega
    have hq2 : (n != m) = true := by simp [hnm]
    clear h1 h2 e
    go_enter Tryz.func46, Tryz.ntmps46
    go_wp2
    go_ret
    exact ⟨rfl, Below.refl _ _⟩
  subst hnm
  have H1 : Hid (Bytes w a1 n f) := h1
  have H2 : Hid (Bytes w a2 n g) := h2
  have HE : Hid (∀ b, (b = true ↔ ∀ i, i < n → f i = g i) → eqB n n f g = b) := by
    intro b hb; unfold eqB; rw [Bool.eq_iff_iff, decide_eq_true_iff]; exact ⟨fun h => hb.2 h.2, fun h => ⟨rfl, hb.1 h⟩⟩
  generalize eqB n n f g = E at HE ⊢
  clear h1 h2
  go_enter Tryz.func46, Tryz.ntmps46
  go_wp2
  go_loopw [5] (fun i wr => ∃ k : Nat, k ≤ n ∧ i = .int .i64 k ∧ Below w.heap.size w wr ∧ ∀ j, j < k → f j = g j) (fun i _ => n - (intOf i).toNat)
  case atStart => exact ⟨0, Nat.zero_le _, rfl, Below.refl _ _, fun j hj => by omega⟩
  case round =>
    obtain ⟨k, hk, rfl, hbel, heq⟩ := hrel
    have HB : Hid (Below w.heap.size w wr) := hbel
    have HQ : Hid (∀ j, j < k → f j = g j) := heq
    clear heq
    by_cases hlt : k < n
    · obtain ⟨_, e | ⟨b1, o1, rfl, q1⟩⟩ := H1.out.later hbel
      · omega
      obtain ⟨_, e | ⟨b2, o2, rfl, q2⟩⟩ := H2.out.later hbel
      · omega
      have k1 := q1 k hlt
      have k2 := q2 k hlt
      clear q1 q2 hbel
      by_cases hfg : f k = g k
      · have HF : Hid (f k = g k) := hfg
        rw [hfg] at k1
        clear hfg
        generalize g k = x at k1 k2
        go_wp2
        go_quiet (fail)
        go_wp2
        go_roundw
        case rel =>
          refine ⟨k + 1, by omega, by go_num, below_drewN HB.out _, fun j hj => ?_⟩
          by_cases e : j = k
          · subst e; exact HF.out
          · exact HQ.out j (by omega)
        case measure => simp [intOf]; omega
      · have hq : (f k != g k) = true := by simpa using hfg
        have e : E = false := HE.out false ⟨fun h => by simp at h, fun h => absurd (h k hlt) hfg⟩
        subst e
        clear hfg
        generalize f k = x at k1 hq
        generalize g k = z at k2 hq
        go_wp2
        go_quiet (fail)
        go_wp2
        go_ret
        exact ⟨rfl, below_drewN HB.out _⟩
    · obtain rfl : k = n := by omega
      have e : E = true := HE.out true ⟨fun _ => HQ.out, fun _ => rfl⟩
      subst e
      clear hbel
      go_wp2
      go_ret
      exact ⟨rfl, HB.out⟩
open Go.ChangeShapes Go.WideShapes Go.ChangeAt Go.RowKit
set_option linter.unusedVariables false
/-! ### Slices -/
theorem same_any (w : World) (a b oa ob : Nat) (ys : List Int) (hlen : ys.length ≤ 1000)
    (ha : ∀ i, i < ys.length → w.cell? ⟨a, oa + i, none⟩ = some (.int .u8 (ys.getD i 0))) (hb : ∀ i, i < ys.length → w.cell? ⟨b, ob + i, none⟩ = some (.int .u8 (ys.getD i 0))) :
    Calls Tryz.prog 46 #[.slice (some ⟨a, oa, none⟩) ys.length ys.length, .slice (some ⟨b, ob, none⟩) ys.length ys.length] w fun e w' => e = .returned (.bool true) ∧ Below w.heap.size w w' := by
  go_enter Tryz.func46, Tryz.ntmps46
  go_wp2
  go_loopw [5] (fun i wr => ∃ k : Nat, k ≤ ys.length ∧ i = .int .i64 k ∧ (∀ x, wr.cell? x = w.cell? x) ∧ Below w.heap.size w wr) (fun i _ => ys.length - (intOf i).toNat)
  case atStart => exact ⟨0, Nat.zero_le _, rfl, fun _ => rfl, Below.refl _ _⟩
  case round =>
    obtain ⟨k, hk, rfl, hc, hbel⟩ := hrel
    by_cases hlt : k < ys.length
    · have c1 := (hc ⟨a, oa + k, none⟩).trans (ha k hlt)
      have c2 := (hc ⟨b, ob + k, none⟩).trans (hb k hlt)
      have hc' : Hid (∀ x, wr.cell? x = w.cell? x) := hc
      have hb' : Hid (Below w.heap.size w wr) := hbel
      clear hc hbel ha hb
      go_wp2
      go_quiet (fail)
      go_wp2
      go_roundw
      case rel => exact ⟨k + 1, by omega, by go_num, hc'.out, below_drewN hb'.out _⟩
      case measure => simp [intOf]; omega
    · obtain rfl : k = ys.length := by omega
      go_wp2
      go_ret
      exact ⟨rfl, hbel⟩

/-- The number that the first k of the bytes f make, the lowest first. -/
def sumZ (f : Nat → Int) : Nat → Int
  | 0 => 0
  | k + 1 => sumZ f k + f k * 256 ^ k
theorem sum_bd (f : Nat → Int) (hf : ∀ i, 0 ≤ f i ∧ f i < 256) : ∀ k, 0 ≤ sumZ f k ∧ sumZ f k < 256 ^ k
  | 0 => ⟨by simp [sumZ], by simp [sumZ]⟩
  | k + 1 => by
    have ih := sum_bd f hf k
    have hk := hf k
    have p : (0 : Int) < 256 ^ k := Int.pow_pos (by decide)
    have e : (256 : Int) ^ (k + 1) = 256 ^ k * 256 := Int.pow_succ ..
    have l : 0 ≤ f k * 256 ^ k := Int.mul_nonneg hk.1 (by omega)
    have u : f k * 256 ^ k ≤ 255 * 256 ^ k := Int.mul_le_mul_of_nonneg_right (by omega) (by omega)
    simp only [sumZ]
    omega
theorem or_round (f : Nat → Int) (hf : ∀ i, 0 ≤ f i ∧ f i < 256) (k : Nat) (hk : k < 4) :
    bits BinOp.or IntKind.u32 (sumZ f k) (f k * 2 ^ (8 * k) % 4294967296) = sumZ f (k + 1) := by
  have b := sum_bd f hf k
  have c := hf k
  have e : (2 : Int) ^ (8 * k) = 256 ^ k := by rw [Int.pow_mul]; rfl
  have b1 := sum_bd f hf (k + 1)
  simp only [sumZ] at b1 ⊢
  rw [e]
  generalize sumZ f k = s at *
  generalize f k = x at *
  rcases (by omega : k = 0 ∨ k = 1 ∨ k = 2 ∨ k = 3) with rfl | rfl | rfl | rfl <;> simp at b b1 ⊢
  all_goals
    rw [show ∀ y : Int, (0 ≤ y → y < 4294967296 → y % 4294967296 = y) from fun y h h' => Int.emod_eq_of_lt h h'] <;> try omega
    rw [u32_or _ _ (by omega) (by omega) (by omega) (by omega)]
  · have := nat_join 0 (x.toNat) s.toNat (by omega) (by omega)
    rw [Nat.or_comm, this]; omega
  · have := nat_join 8 ((x * 256).toNat) s.toNat (by omega) (by omega)
    rw [Nat.or_comm, this]; omega
  · have := nat_join 16 ((x * 65536).toNat) s.toNat (by omega) (by omega)
    rw [Nat.or_comm, this]; omega
  · have := nat_join 24 ((x * 16777216).toNat) s.toNat (by omega) (by omega)
    rw [Nat.or_comm, this]; omega
def hiZ (g : Nat → Int) : Nat → Int
  | 0 => 0
  | j + 1 => 256 * hiZ g j + g (3 - j)
theorem hi_bd (g : Nat → Int) (hg : ∀ i, 0 ≤ g i ∧ g i < 256) (j : Nat) (hj : j ≤ 4) : 0 ≤ hiZ g j ∧ hiZ g j < 256 ^ j := by
  have g0 := hg 0; have g1 := hg 1; have g2 := hg 2; have g3 := hg 3
  rcases (by omega : j = 0 ∨ j = 1 ∨ j = 2 ∨ j = 3 ∨ j = 4) with rfl | rfl | rfl | rfl | rfl <;> simp [hiZ] <;> omega
def cutF (f : Nat → Int) (len i : Nat) : Int := if i < len then f i else 0
theorem hi_sum (f : Nat → Int) (len : Nat) : hiZ (cutF f len) 4 = sumZ f (min len 4) := by
  rcases (by omega : len = 0 ∨ len = 1 ∨ len = 2 ∨ len = 3 ∨ 4 ≤ len) with rfl | rfl | rfl | rfl | h
  · simp [hiZ, sumZ, cutF]
  · simp [hiZ, sumZ, cutF]
  · simp [hiZ, sumZ, cutF]; omega
  · simp [hiZ, sumZ, cutF]; omega
  · rw [show min len 4 = 4 by omega]
    have h0 : 0 < len := by omega
    have h1 : 1 < len := by omega
    have h2 : 2 < len := by omega
    have h3 : 3 < len := by omega
    simp [hiZ, sumZ, cutF, h0, h1, h2, h3]; omega
open Go.ChangeShapes Go.WideShapes Go.ChangeAt Go.RowKit
set_option linter.unusedVariables false

theorem own_form {w : World} {base : Nat} {e : TypeId} {size : Nat} {v : Value} {n : Nat} {xs : List Value} (h : w.ownsRow base e size v n xs) : ∃ a cap, v = .slice a n cap := by
  rcases h.2 with ⟨e, h0⟩ | ⟨g, cap, cur, hv, _⟩
  · subst h0; exact ⟨none, 0, e⟩
  · exact ⟨some ⟨g, 0, none⟩, cap, hv⟩
theorem run_append_all {P : Program} (w : World) (t ty : TypeId) (base : Nat) (e : TypeId) (i : TypeInfo) (z : Value) (size bytes : Nat) (ht : P.underlying t = some (.slice e)) (hi : P.info? e = some i) (hz : i.zero = some z)
    (hsize : i.size = size) (hby : i.bytes = bytes) (hzs : z.cells.size = size) (hsz : 0 < size)
    (v : Value) (n : Nat) (xs : List Value) (hown : w.ownsRow base e size v n xs)
    (sp : Option Addr) (m c : Nat) (news : List Value) (hl : news.length = m * size) (hnil : sp = none → m = 0 ∧ c = 0) (hnews : ∀ ad, sp = some ad → ∀ j u, news[j]? = some u → w.cell? (ad.add j) = some u) (h1 : ∀ u ∈ news, u.oneCell' = true)
    (h63 : n + m ≤ maxLen) (hbytes : (n + m) * bytes ≤ 140737488355328) (hbase : base ≤ w.heap.size) :
    ∃ a' cap' w', (Builtin.append_ #[t, t] ty #[v, .slice sp m c]).run P w = .ok (.slice a' (n + m) cap') w' ∧ w'.ownsRow base e size (.slice a' (n + m) cap') (n + m) (xs ++ news) ∧ w.grownBy w' v.ownBlock := by
  cases sp with
  | none =>
    obtain ⟨rfl, rfl⟩ := hnil rfl
    obtain rfl : news = [] := List.eq_nil_of_length_eq_zero (by simpa using hl)
    obtain ⟨a, cap, rfl⟩ := own_form hown
    exact ⟨a, cap, w, run_append_owned_none (P := P) (w := w) base t ty e i size ht hi _ n xs hown, by simpa using hown, World.grownBy.refl w _⟩
  | some ad =>
    obtain ⟨v', w', hr, h2, h3, _, h5⟩ := run_append_own_at (P := P) w base t ty e i z size bytes ht hi hz hsize hby hzs hsz v n xs hown ad m c news hl (hnews ad rfl) h1 h63 hbytes hbase
    obtain ⟨a, cap, rfl⟩ := own_form h2
    exact ⟨a, cap, w', hr, h2, h3⟩
/-- At an operation. -/
theorem wp_append_all {P : Program} (w : World) {o : Oper} {a : Act} {K : Act → World → Prop} {Q : Exit → Act → World → Prop} (s x : Operand) (t : TypeId)
    (ho : o.op = .call { callee := .builtin .append, args := #[s, x], argTypes := #[t, t] })
    (base : Nat) (e : TypeId) (i : TypeInfo) (z : Value) (size bytes : Nat) (ht : P.underlying t = some (.slice e)) (hi : P.info? e = some i) (hz : i.zero = some z)
    (hsize : i.size = size) (hby : i.bytes = bytes) (hzs : z.cells.size = size) (hsz : 0 < size)
    (v : Value) (n : Nat) (xs : List Value) (hs : a.eval s = v) (hown : w.ownsRow base e size v n xs)
    (sp : Option Addr) (m c : Nat) (news : List Value) (hx : a.eval x = .slice sp m c) (hl : news.length = m * size) (hnil : sp = none → m = 0 ∧ c = 0) (hnews : ∀ ad, sp = some ad → ∀ j u, news[j]? = some u → w.cell? (ad.add j) = some u) (h1 : ∀ u ∈ news, u.oneCell' = true)
    (h63 : n + m ≤ maxLen) (hbytes : (n + m) * bytes ≤ 140737488355328) (hbase : base ≤ w.heap.size)
    (h : ∀ a' cap' w', w'.ownsRow base e size (.slice a' (n + m) cap') (n + m) (xs ++ news) → w.grownBy w' v.ownBlock → K (a.put o.dst (.slice a' (n + m) cap')) w') : o.wp P a w K Q := by
  obtain ⟨a', cap', w', hr, h2, h3⟩ := run_append_all (P := P) w t o.type base e i z size bytes ht hi hz hsize hby hzs hsz v n xs hown sp m c news hl hnil hnews h1 h63 hbytes hbase
  unfold Oper.wp execOp
  simp only [ho, resolve, invoke, builtin, Sem.run_bind, Sem.run_pure, Result.andThen_ok, List.map_toArray, List.map_cons, List.map_nil, hs, hx, hr]
  exact h a' cap' w' h2 h3
/-- At a plain region's list. -/
theorem wpList_append_all {P : Program} (w : World) {ops : Array Oper} {rest : List Oper} {o : Oper} {a : Act} {Q : Exit → Act → World → Prop} (hgd : o.guard = none) (s x : Operand) (t : TypeId)
    (ho : o.op = .call { callee := .builtin .append, args := #[s, x], argTypes := #[t, t] })
    (base : Nat) (e : TypeId) (i : TypeInfo) (z : Value) (size bytes : Nat) (ht : P.underlying t = some (.slice e)) (hi : P.info? e = some i) (hz : i.zero = some z)
    (hsize : i.size = size) (hby : i.bytes = bytes) (hzs : z.cells.size = size) (hsz : 0 < size)
    (v : Value) (n : Nat) (xs : List Value) (hs : a.eval s = v) (hown : w.ownsRow base e size v n xs)
    (sp : Option Addr) (m c : Nat) (news : List Value) (hx : a.eval x = .slice sp m c) (hl : news.length = m * size) (hnil : sp = none → m = 0 ∧ c = 0) (hnews : ∀ ad, sp = some ad → ∀ j u, news[j]? = some u → w.cell? (ad.add j) = some u) (h1 : ∀ u ∈ news, u.oneCell' = true)
    (h63 : n + m ≤ maxLen) (hbytes : (n + m) * bytes ≤ 140737488355328) (hbase : base ≤ w.heap.size)
    (h : ∀ a' cap' w', w'.ownsRow base e size (.slice a' (n + m) cap') (n + m) (xs ++ news) → w.grownBy w' v.ownBlock → wpList P ops Q rest (a.put o.dst (.slice a' (n + m) cap')) w') : wpList P ops Q (o :: rest) a w :=
  wpList_plain hgd fun _ hK => wp_append_all w s x t ho base e i z size bytes ht hi hz hsize hby hzs hsz v n xs hs hown sp m c news hx hl hnil hnews h1 h63 hbytes hbase fun a' cap' w' h2 h3 => hK _ _ (h a' cap' w' h2 h3)
/-- At a step of a region that draws its order. -/
theorem step_append_all {P : Program} (w : World) {ops : Array Oper} {o : Oper} {a : Act} {K : Act → World → Prop} {Q : Exit → Act → World → Prop} {E : Prop} (hgd : o.guard = none) (s x : Operand) (t : TypeId)
    (ho : o.op = .call { callee := .builtin .append, args := #[s, x], argTypes := #[t, t] })
    (base : Nat) (e : TypeId) (i : TypeInfo) (z : Value) (size bytes : Nat) (ht : P.underlying t = some (.slice e)) (hi : P.info? e = some i) (hz : i.zero = some z)
    (hsize : i.size = size) (hby : i.bytes = bytes) (hzs : z.cells.size = size) (hsz : 0 < size)
    (v : Value) (n : Nat) (xs : List Value) (hs : a.eval s = v) (hown : w.ownsRow base e size v n xs)
    (sp : Option Addr) (m c : Nat) (news : List Value) (hx : a.eval x = .slice sp m c) (hl : news.length = m * size) (hnil : sp = none → m = 0 ∧ c = 0) (hnews : ∀ ad, sp = some ad → ∀ j u, news[j]? = some u → w.cell? (ad.add j) = some u) (h1 : ∀ u ∈ news, u.oneCell' = true)
    (h63 : n + m ≤ maxLen) (hbytes : (n + m) * bytes ≤ 140737488355328) (hbase : base ≤ w.heap.size)
    (h : ∀ a' cap' w', w'.ownsRow base e size (.slice a' (n + m) cap') (n + m) (xs ++ news) → w.grownBy w' v.ownBlock → K (a.put o.dst (.slice a' (n + m) cap')) w') :
    if Region.wanted o (yielded ops a.tmps) = true then Oper.wp P o a w K Q else E := by
  have hw : Region.wanted o (yielded ops a.tmps) = true := by simp [Region.wanted, hgd]
  rw [if_pos hw]
  exact wp_append_all w s x t ho base e i z size bytes ht hi hz hsize hby hzs hsz v n xs hs hown sp m c news hx hl hnil hnews h1 h63 hbytes hbase h

/-- A slice's head: no more elements than there is room; nil has no room. -/
def Head (a : Option Addr) (n cap : Nat) : Prop := n ≤ cap ∧ (a = none → cap = 0)
/-- The cells of a list of numbers. -/
def cellsK (k : IntKind) (n : Nat) (f : Nat → Int) : List Value := (List.range n).map fun j => .int k (f j)
theorem cellsK_len (k : IntKind) (n : Nat) (f : Nat → Int) : (cellsK k n f).length = n := by simp [cellsK]
theorem cellsK_one (k : IntKind) (n : Nat) (f : Nat → Int) : ∀ u ∈ cellsK k n f, u.oneCell' = true := by simp [cellsK, Value.oneCell']
theorem cellsK_get (k : IntKind) (n : Nat) (f : Nat → Int) (j : Nat) (h : j < n) : (cellsK k n f)[j]? = some (.int k (f j)) := by simp [cellsK, h]
theorem cellsK_add (k : IntKind) (n : Nat) (f : Nat → Int) (m : Nat) (g : Nat → Int) : cellsK k n f ++ cellsK k m g = cellsK k (n + m) (fun j => if j < n then f j else g (j - n)) := by
  apply List.ext_getElem?
  intro j
  by_cases h : j < n
  · rw [List.getElem?_append_left (by rw [cellsK_len]; exact h), cellsK_get _ _ _ _ h, cellsK_get _ _ _ _ (by omega), if_pos h]
  · rw [List.getElem?_append_right (by rw [cellsK_len]; omega), cellsK_len]
    by_cases h2 : j < n + m
    · rw [cellsK_get _ _ _ _ (by omega), cellsK_get _ _ _ _ h2, if_neg h]
    · rw [List.getElem?_eq_none (by rw [cellsK_len]; omega), List.getElem?_eq_none (by rw [cellsK_len]; omega)]
theorem cellsK_nil (k : IntKind) (f : Nat → Int) : cellsK k 0 f = [] := rfl
theorem cellsK_one' (k : IntKind) (x : Int) : cellsK k 1 (fun _ => x) = [.int k x] := rfl
theorem head_nil {a : Option Addr} {n cap : Nat} (h : Head a n cap) : a = none → n = 0 ∧ cap = 0 := fun e => ⟨by have := h.2 e; have := h.1; omega, h.2 e⟩
/-- The cells of a slice's row, as append reads them. -/
theorem bytes_cells {w : World} {a : Option Addr} {n : Nat} {f : Nat → Int} (h : Bytes w a n f) : ∀ ad, a = some ad → ∀ j u, (cellsK .u8 n f)[j]? = some u → w.cell? (ad.add j) = some u := by
  intro ad ha j u hu
  have hj : j < n := by have := (List.getElem?_eq_some_iff.1 hu).1; rwa [cellsK_len] at this
  obtain ⟨_, h0 | ⟨b, off, e, hc⟩⟩ := h
  · omega
  · rw [ha] at e; simp only [Option.some.injEq] at e; subst e
    rw [cellsK_get _ _ _ _ hj] at hu
    rw [show (⟨b, off, none⟩ : Addr).add j = ⟨b, off + j, none⟩ from by cases j <;> simp [Addr.add], hc j hj, hu]
theorem row_cells {k : IntKind} {w : World} {a : Option Addr} {n : Nat} {f : Nat → Int} (h : RowK k w a n f) : ∀ ad, a = some ad → ∀ j u, (cellsK k n f)[j]? = some u → w.cell? (ad.add j) = some u := by
  intro ad ha j u hu
  have hj : j < n := by have := (List.getElem?_eq_some_iff.1 hu).1; rwa [cellsK_len] at this
  obtain ⟨_, h0 | ⟨b, off, e, hc⟩⟩ := h
  · omega
  · rw [ha] at e; simp only [Option.some.injEq] at e; subst e
    rw [cellsK_get _ _ _ _ hj] at hu
    rw [show (⟨b, off, none⟩ : Addr).add j = ⟨b, off + j, none⟩ from by cases j <;> simp [Addr.add], hc j hj, hu]
/-- What an owned row of numbers gives. -/
theorem own_row {k : IntKind} {w : World} {base : Nat} {e : TypeId} {a : Option Addr} {n cap : Nat} {f : Nat → Int} (h : w.ownsRow base e 1 (.slice a n cap) n (cellsK k n f)) : Head a n cap ∧ (n = 0 ∨ ∃ b, base ≤ b ∧ a = some ⟨b, 0, none⟩ ∧ (∀ i, i < n → w.cell? ⟨b, 0 + i, none⟩ = some (.int k (f i)))) := by
  rcases id h.2 with ⟨e, h0⟩ | ⟨g, cap', cur, hv, hb, _, hn, _⟩
  · simp only [Value.slice.injEq] at e; obtain ⟨rfl, rfl, rfl⟩ := e; exact ⟨⟨Nat.le_refl _, fun _ => rfl⟩, .inl rfl⟩
  · simp only [Value.slice.injEq] at hv; obtain ⟨rfl, _, rfl⟩ := hv
    refine ⟨⟨by omega, fun e => by cases e⟩, .inr ⟨g, hb, rfl, fun i hi => ?_⟩⟩
    have := h.cells (g := g) rfl i _ (cellsK_get k n f i hi)
    rwa [show (⟨g, 0, none⟩ : Addr).add i = ⟨g, 0 + i, none⟩ from by cases i <;> simp [Addr.add]] at this
theorem own_bytes {w : World} {base : Nat} {e : TypeId} {a : Option Addr} {n cap : Nat} {f : Nat → Int} (h : w.ownsRow base e 1 (.slice a n cap) n (cellsK .u8 n f)) (hf : ∀ i, 0 ≤ f i ∧ f i < 256) : Head a n cap ∧ Bytes w a n f := by
  obtain ⟨h1, h2⟩ := own_row h
  exact ⟨h1, hf, h2.imp id fun ⟨b, _, e, hc⟩ => ⟨b, 0, e, hc⟩⟩
theorem own_ints {k : IntKind} {w : World} {base : Nat} {e : TypeId} {a : Option Addr} {n cap : Nat} {f : Nat → Int} (h : w.ownsRow base e 1 (.slice a n cap) n (cellsK k n f)) (hf : ∀ i, (Lit.int k (f i)).wf = true) : Head a n cap ∧ RowK k w a n f := by
  obtain ⟨h1, h2⟩ := own_row h
  exact ⟨h1, hf, h2.imp id fun ⟨b, _, e, hc⟩ => ⟨b, 0, e, hc⟩⟩
theorem own_lt {w : World} {base : Nat} {e : TypeId} {size : Nat} {v : Value} {n : Nat} {xs : List Value} (h : w.ownsRow base e size v n xs) : ∀ q, v.ownBlock = some q → base ≤ q := fun q hq => (h.lt q hq).1
/-- A row of numbers as it stands in a later world. -/
theorem cell_any {w w' : World} {p : Addr} {v : Value} (h : w.cell? p = some v) (hb : Below w.heap.size w w') : w'.cell? p = some v := (hb.cell (World.block_lt_of_cell? w p h)).trans h
/-- 'append([]T{}, xs...)': T of one cell. -/
theorem wpList_append_fresh {P : Program} (w : World) {ops : Array Oper} {rest : List Oper} {o : Oper} {a : Act} {Q : Exit → Act → World → Prop} (hgd : o.guard = none) (s x : Operand) (t : TypeId)
    (ho : o.op = .call { callee := .builtin .append, args := #[s, x], argTypes := #[t, t] })
    (e : TypeId) (z : Value) (bytes : Nat) (ht : P.underlying t = some (.slice e)) (hi : (P.info? e).map (fun i => (i.zero, i.size, i.bytes)) = some (some z, 1, bytes)) (hzs : z.cells.size = 1)
    (hs : a.eval s = .slice (some ⟨w.heap.size, 0, none⟩) 0 0)
    (sp : Option Addr) (m c : Nat) (news : List Value) (hx : a.eval x = .slice sp m c) (hl : news.length = m) (hnil : sp = none → m = 0 ∧ c = 0) (hnews : ∀ ad, sp = some ad → ∀ j u, news[j]? = some u → w.cell? (ad.add j) = some u) (h1 : ∀ u ∈ news, u.oneCell' = true)
    (h63 : m ≤ maxLen) (hbytes : m * bytes ≤ 140737488355328)
    (h : ∀ a' cap' w', w'.ownsRow w.heap.size e 1 (.slice a' m cap') m news → Below w.heap.size w w' → wpList P ops Q rest (a.put o.dst (.slice a' m cap')) w') : wpList P ops Q (o :: rest) a (w.alloc (.cells #[] e)) := by
  obtain ⟨i, hi0, hz0, hz1, hz2⟩ := info_parts hi
  have hb : Below w.heap.size w (w.alloc (.cells #[] e)) := (Below.refl _ w).alloc (Nat.le_refl _) _
  refine wpList_append_all _ hgd s x t ho w.heap.size e i z 1 bytes ht hi0 hz0 hz1 hz2 hzs (by decide) _ 0 [] hs (World.ownsRow_made w #[] 0 (Nat.le_refl _) (Nat.zero_le _) rfl) sp m c news hx (by omega) hnil (fun ad ha j u hu => cell_any (hnews ad ha j u hu) hb) h1 (by omega) (by rwa [Nat.zero_add]) hb.size ?_
  intro a' cap' w' hown hgrow
  rw [Nat.zero_add, List.nil_append] at hown
  rw [Nat.zero_add]
  exact h a' cap' w' hown (Below.grown hb hgrow hb.size (fun q hq => by simp [Value.ownBlock] at hq; omega))
theorem own_far {w : World} {base : Nat} {e : TypeId} {a : Option Addr} {n cap : Nat} {xs : List Value} {size : Nat} (h : w.ownsRow base e size (.slice a n cap) n xs) : ∀ b off, a = some ⟨b, off, none⟩ → base ≤ b := fun b off e => (h.lt b (by rw [e]; rfl)).1
theorem Bytes.set {w : World} {a : Option Addr} {n : Nat} {f : Nat → Int} (h : Bytes w a n f) {g : Nat} (hf : ∀ b off, a = some ⟨b, off, none⟩ → b ≠ g) (o : Nat) (v : Value) : Bytes (w.setCell ⟨g, o, none⟩ v) a n f :=
  ⟨h.1, h.2.imp id fun ⟨b, off, e, hc⟩ => ⟨b, off, e, fun i hi => by rw [World.cell?_setCell_other _ _ _ _ (fun q => hf b off e (congrArg Addr.block q).symm)]; exact hc i hi⟩⟩
theorem RowK.set {k : IntKind} {w : World} {a : Option Addr} {n : Nat} {f : Nat → Int} (h : RowK k w a n f) {g : Nat} (hf : ∀ b off, a = some ⟨b, off, none⟩ → b ≠ g) (o : Nat) (v : Value) : RowK k (w.setCell ⟨g, o, none⟩ v) a n f :=
  ⟨h.1, h.2.imp id fun ⟨b, off, e, hc⟩ => ⟨b, off, e, fun i hi => by rw [World.cell?_setCell_other _ _ _ _ (fun q => hf b off e (congrArg Addr.block q).symm)]; exact hc i hi⟩⟩
theorem own_cap {w : World} {base : Nat} {e : TypeId} {a : Option Addr} {n cap : Nat} {xs : List Value} {size : Nat} (h : w.ownsRow base e size (.slice a n cap) n xs) : n ≤ cap := by
  rcases id h.2 with ⟨e, h0⟩ | ⟨g, cap', cur, hv, _, _, hn, _⟩
  · omega
  · simp only [Value.slice.injEq] at hv; omega
/-- The same onto an empty row of the call's own, at a step of a region that draws its order. -/
theorem step_append_empty {P : Program} (w : World) {ops : Array Oper} {o : Oper} {a : Act} {K : Act → World → Prop} {Q : Exit → Act → World → Prop} {E : Prop} (hgd : o.guard = none) (s x : Operand) (t : TypeId)
    (ho : o.op = .call { callee := .builtin .append, args := #[s, x], argTypes := #[t, t] })
    (base : Nat) (e : TypeId) (i : TypeInfo) (z : Value) (size bytes : Nat) (ht : P.underlying t = some (.slice e)) (hi : P.info? e = some i) (hz : i.zero = some z)
    (hsize : i.size = size) (hby : i.bytes = bytes) (hzs : z.cells.size = size) (hsz : 0 < size)
    (blk : Nat) (hs : a.eval s = .slice (some ⟨blk, 0, none⟩) 0 0) (hown : w.ownsRow base e size (.slice (some ⟨blk, 0, none⟩) 0 0) 0 [])
    (sp : Option Addr) (m c : Nat) (news : List Value) (hx : a.eval x = .slice sp m c) (hl : news.length = m * size) (hnil : sp = none → m = 0 ∧ c = 0) (hnews : ∀ ad, sp = some ad → ∀ j u, news[j]? = some u → w.cell? (ad.add j) = some u) (h1 : ∀ u ∈ news, u.oneCell' = true)
    (h63 : m ≤ maxLen) (hbytes : m * bytes ≤ 140737488355328) (hbase : base ≤ w.heap.size)
    (h : ∀ a' cap' w', w'.ownsRow base e size (.slice a' m cap') m news → w.grownBy w' (some blk) → K (a.put o.dst (.slice a' m cap')) w') :
    if Region.wanted o (yielded ops a.tmps) = true then Oper.wp P o a w K Q else E := by
  refine step_append_all w hgd s x t ho base e i z size bytes ht hi hz hsize hby hzs hsz _ 0 [] hs hown sp m c news hx hl hnil hnews h1 (by rwa [Nat.zero_add]) (by rwa [Nat.zero_add]) hbase ?_
  intro a' cap' w' h2 h3
  rw [Nat.zero_add, List.nil_append] at h2
  rw [Nat.zero_add]
  exact h a' cap' w' h2 h3
theorem cellsK_congr (k : IntKind) (n : Nat) {f g : Nat → Int} (h : ∀ j, j < n → f j = g j) : cellsK k n f = cellsK k n g := by
  unfold cellsK
  exact List.map_congr_left fun j hj => by rw [h j (by simpa using hj)]
open Go.ChangeShapes Go.WideShapes Go.ChangeAt Go.RowKit
set_option linter.unusedVariables false
set_option linter.unusedSimpArgs false
theorem slB : (Tryz.prog.info? 5).map (fun i => (i.zero, i.size, i.bytes)) = some (some (.int .u8 0), 1, 1) := by kernel_rfl
theorem slI : (Tryz.prog.info? 3).map (fun i => (i.zero, i.size, i.bytes)) = some (some (.int .i64 0), 1, 8) := by kernel_rfl
theorem own_none {w : World} {base : Nat} {e : TypeId} : w.ownsRow base e 1 (.slice none 0 0) 0 [] := ⟨rfl, .inl ⟨rfl, rfl⟩⟩
theorem own_grown {w : World} {e : TypeId} {cs : Array Value} {cap : Nat} (h1 : cs.size = cap) (h2 : cap ≤ maxLen) (base : Nat) (hb : base ≤ w.heap.size) : (w.alloc (.cells cs e)).ownsRow base e 1 (.slice (some ⟨w.heap.size, 0, none⟩) 0 cap) 0 [] :=
  ⟨rfl, .inr ⟨w.heap.size, cap, cs, rfl, hb, by show (w.heap.push _)[w.heap.size]? = _; simp, Nat.zero_le _, h2, by omega, by simp⟩⟩
theorem size_zeroCells1 (z : Value) (hz : z.cells.size = 1) (n : Nat) : (Builtin.zeroCells z.cells n).size = n := by
  rw [size_zeroCells, hz, Nat.mul_one]
theorem own_blk {w : World} {base : Nat} {e : TypeId} {a : Option Addr} {n cap : Nat} {xs : List Value} {size : Nat} (h : w.ownsRow base e size (.slice a n cap) n xs) : ∀ x, a = some x → base ≤ x.block := by
  intro x e
  rcases h.2 with ⟨q, _⟩ | ⟨g, cap, cur, q, hb, _⟩
  · simp only [Value.slice.injEq] at q; rw [q.1] at e; cases e
  · simp only [Value.slice.injEq] at q; rw [q.1] at e; cases e; exact hb
theorem iter2 {k : Nat} (h : k ≤ 2) : k = 0 ∨ k = 1 ∨ k = 2 := by omega
set_option maxRecDepth 100000 in
set_option maxHeartbeats 1000000 in
theorem clone_b (w : World) (a : Option Addr) (n c : Nat) (f : Nat → Int) (hn : n ≤ 100000) (hh : Head a n c) (hR : RowK .u8 w a n f) :
    Calls Tryz.prog 145 #[.slice a n c] w fun e w' => ∃ a' c', e = .returned (.slice a' n c') ∧ (Head a' n c' ∧ RowK .u8 w' a' n f) ∧ (∀ x, a' = some x → w.heap.size ≤ x.block) ∧ Below w.heap.size w w' := by
  have q : ∀ (w : World) (a : Option Addr) (n c n' c' : Nat), (binOp .eql 39 (.slice a n c) (.slice none n' c')).run Tryz.prog w = .ok (.bool a.isNone) w := fun w a n c n' c' => Lib.run_eql_slice_nil w _ _ a n c n' c' Tryz.underlying39
  have HR : Hid (RowK .u8 w a n f) := hR
  have HH : Hid (Head a n c) := hh
  clear hR hh
  rcases a with _ | a
  · obtain ⟨rfl, rfl⟩ := head_nil HH.out rfl
    go_enter Tryz.func145, Tryz.ntmps145
    go_wp2
    go_ret
    exact ⟨none, 0, rfl, ⟨HH.out, HR.out⟩, (fun x e => by cases e), Below.refl _ _⟩
  · go_enter Tryz.func145, Tryz.ntmps145
    go_wp2_with (at_builtin; refine wpList_append_fresh w rfl (.tmp 5) (.tmp 6) 39 rfl 5 (.int .u8 0) 1 Tryz.underlying39 slB rfl rfl (some a) n c (cellsK .u8 n f) rfl (cellsK_len _ _ _) (head_nil HH.out) (row_cells HR.out) (cellsK_one _ _ _) (by unfold maxLen; omega) (by omega) ?_; intro a1 c1 w1 own1 hb1)
    go_ret
    exact ⟨a1, c1, rfl, own_ints own1 HR.out.1, own_blk own1, hb1⟩
set_option maxRecDepth 100000 in
set_option maxHeartbeats 1000000 in
theorem grow_b (w : World) (n : Nat) (hn : n ≤ 100000) :
    Calls Tryz.prog 155 #[.slice none 0 0, .int .i64 n] w fun e w' => ∃ a c, e = .returned (.slice a 0 c) ∧ w'.ownsRow w.heap.size 5 1 (.slice a 0 c) 0 [] ∧ Below w.heap.size w w' := by
  by_cases h0 : n = 0
  · subst h0
    go_enter Tryz.func155, Tryz.ntmps155
    go_wp2
    go_ret
    exact ⟨none, 0, rfl, own_none, Below.refl _ _⟩
  · have hn0 : 0 < (n : Int) := by omega
    have hn1 : (n : Int) ≤ 100000 := by omega
    obtain ⟨i0, hi, hz0, hz1, hz2⟩ := info_parts slB
    have happ := fun ty => Lib.run_append_nil_zeros (P := Tryz.prog) w 39 3 ty 5 i0 (.int .u8 0) .i64 .i64 Tryz.underlying39 Tryz.underlying3 hi hz0 n (by omega) (by omega) (by omega) (by rw [hz2]; omega)
    have hcapge : n ≤ grownCap w n 0 5 := grownCap_ge w _ 0 _
    have hcaple : grownCap w n 0 5 ≤ maxLen := grownCap_le_maxLen w _ 0 _ (by unfold maxLen; omega)
    generalize grownCap w n 0 5 = cap2 at happ hcapge hcaple
    have hZ : (Builtin.zeroCells (Value.int .u8 0).cells n ++ Builtin.zeroCells (Value.int .u8 0).cells (cap2 - n)).size = cap2 := by rw [Array.size_append, size_zeroCells1 _ rfl, size_zeroCells1 _ rfl]; omega
    generalize Builtin.zeroCells (Value.int .u8 0).cells n ++ Builtin.zeroCells (Value.int .u8 0).cells (cap2 - n) = Z at happ hZ
    have HZ : Hid (Z.size = cap2) := hZ
    have HL : Hid (cap2 ≤ maxLen) := hcaple
    have hl9 : cap2 ≤ 9223372036854775807 := by unfold maxLen at hcaple; omega
    clear hi hz0 hz1 hz2 hZ hcaple
    go_enter Tryz.func155, Tryz.ntmps155
    go_wp2_with (at_builtin; refine Lib.wpList_append_run _ rfl _ _ _ _ rfl _ _ rfl rfl _ _ (happ _) ?_)
    go_ret
    exact ⟨some ⟨w.heap.size, 0, none⟩, cap2, rfl, own_grown (w := w.drew) HZ.out HL.out _ (Nat.le_refl _), (below_drewN (Below.refl _ w) 1).alloc (Nat.le_refl _) _⟩
set_option maxRecDepth 100000 in
set_option maxHeartbeats 1000000 in
theorem concat_b (w : World) (p : Nat) (a b : Option Addr) (n m c d : Nat) (f g : Nat → Int) (hnm : n + m ≤ 100000) (h1 : Head a n c) (h2 : Head b m d) (hf : RowK .u8 w a n f) (hg : RowK .u8 w b m g)
    (p0 : w.cell? ⟨p, 0, none⟩ = some (.slice a n c)) (p1 : w.cell? ⟨p, 1, none⟩ = some (.slice b m d)) :
    Calls Tryz.prog 146 #[.slice (some ⟨p, 0, none⟩) 2 2] w fun e w' => ∃ a' c', e = .returned (.slice a' (n + m) c') ∧ w'.ownsRow w.heap.size 5 1 (.slice a' (n + m) c') (n + m) (cellsK .u8 (n + m) fun j => if j < n then f j else g (j - n)) ∧ Below w.heap.size w w' := by
  have HF : Hid (RowK .u8 w a n f) := hf
  have HG : Hid (RowK .u8 w b m g) := hg
  have H1 : Hid (Head a n c) := h1
  have H2 : Hid (Head b m d) := h2
  have P0 : Hid (w.cell? ⟨p, 0, none⟩ = some (.slice a n c)) := p0
  have P1 : Hid (w.cell? ⟨p, 1, none⟩ = some (.slice b m d)) := p1
  have hn' : (n : Int) ≤ 100000 := by omega
  have hm' : (m : Int) ≤ 100000 := by omega
  have HN : Hid (n + m ≤ 100000) := hnm
  obtain ⟨i0, hi0, hz0, hz1, hz2⟩ := info_parts slB
  have GR : Hid (∀ W, Calls Tryz.prog 155 #[.slice none 0 0, .int .i64 ((n : Int) + m)] W fun e w' => ∃ a c, e = .returned (.slice a 0 c) ∧ w'.ownsRow W.heap.size 5 1 (.slice a 0 c) 0 [] ∧ Below W.heap.size W w') := fun W => by
    have h := grow_b W (n + m) (by omega)
    rwa [Int.natCast_add] at h
  clear hf hg h1 h2 hnm
  go_enter Tryz.func146, Tryz.ntmps146
  go_wp2
  go_loop [3, 11] (fun sz k => (k = .int .i64 0 ∧ sz = .int .i64 0) ∨ (k = .int .i64 1 ∧ sz = .int .i64 n) ∨ (k = .int .i64 2 ∧ sz = .int .i64 ((n : Int) + m))) (fun _ k => (2 - intOf k).toNat)
  case atStart => exact .inl ⟨rfl, rfl⟩
  case round =>
    rcases hrel with ⟨rfl, rfl⟩ | ⟨rfl, rfl⟩ | ⟨rfl, rfl⟩
    · go_wp2
      go_round
      case rel => exact .inr (.inl ⟨rfl, rfl⟩)
      case measure => simp [intOf]
    · go_wp2
      go_round
      case rel => exact .inr (.inr ⟨rfl, rfl⟩)
      case measure => simp [intOf]
    · clear p0 p1
      go_wp2_with (go_at_call 155; refine (GR.out _).mono ?_; rintro e w1 ⟨a0, c0, rfl, own0, hb0⟩)
      go_loopw [6, 27] (fun l k wr => ∃ a' c', Below w.heap.size w wr ∧ ((k = .int .i64 0 ∧ l = .slice a' 0 c' ∧ wr.ownsRow w.heap.size 5 1 (.slice a' 0 c') 0 []) ∨ (k = .int .i64 1 ∧ l = .slice a' n c' ∧ wr.ownsRow w.heap.size 5 1 (.slice a' n c') n (cellsK .u8 n f)) ∨ (k = .int .i64 2 ∧ l = .slice a' (n + m) c' ∧ wr.ownsRow w.heap.size 5 1 (.slice a' (n + m) c') (n + m) (cellsK .u8 (n + m) fun j => if j < n then f j else g (j - n))))) (fun _ k _ => (2 - intOf k).toNat)
      case atStart => exact ⟨a0, c0, hb0, .inl ⟨rfl, rfl, own0⟩⟩
      case round =>
        obtain ⟨a', c', hb, hrel⟩ := hrel
        have HB : Hid (Below w.heap.size w wr) := hb
        have q0 := cell_later' P0.out hb
        have q1 := cell_later' P1.out hb
        clear hb own0 hb0
        rcases hrel with ⟨rfl, rfl, hown⟩ | ⟨rfl, rfl, hown⟩ | ⟨rfl, rfl, hown⟩
        · have HO : Hid (wr.ownsRow w.heap.size 5 1 (.slice a' 0 c') 0 []) := hown
          clear hown
          go_wp2_with (at_builtin; refine wpList_append_all _ rfl (.tmp 31) (.tmp 32) 39 rfl w.heap.size 5 i0 _ 1 1 Tryz.underlying39 hi0 hz0 hz1 hz2 rfl (by decide) (.slice a' 0 c') 0 [] rfl HO.out a n c (cellsK .u8 n f) rfl (by rw [cellsK_len, Nat.mul_one]) (head_nil H1.out) (row_cells (HF.out.later HB.out)) (cellsK_one _ _ _) (by have := HN.out; unfold maxLen; omega) (by have := HN.out; omega) HB.out.size ?_; intro a5 c5 w5 own5 hgrow5)
          go_roundw
          case rel =>
            rw [Nat.zero_add, List.nil_append] at own5
            exact ⟨a5, c5, HB.out.grown hgrow5 HB.out.size (fun q hq => own_lt HO.out q hq), .inr (.inl ⟨rfl, by first | rfl | rw [Nat.zero_add], own5⟩)⟩
          case measure => simp [intOf]
        · have HO : Hid (wr.ownsRow w.heap.size 5 1 (.slice a' n c') n (cellsK .u8 n f)) := hown
          clear hown
          go_wp2_with (at_builtin; refine wpList_append_all _ rfl (.tmp 31) (.tmp 32) 39 rfl w.heap.size 5 i0 _ 1 1 Tryz.underlying39 hi0 hz0 hz1 hz2 rfl (by decide) (.slice a' n c') n (cellsK .u8 n f) rfl HO.out b m d (cellsK .u8 m g) rfl (by rw [cellsK_len, Nat.mul_one]) (head_nil H2.out) (row_cells (HG.out.later HB.out)) (cellsK_one _ _ _) (by have := HN.out; unfold maxLen; omega) (by have := HN.out; omega) HB.out.size ?_; intro a5 c5 w5 own5 hgrow5)
          go_roundw
          case rel =>
            rw [cellsK_add] at own5
            exact ⟨a5, c5, HB.out.grown hgrow5 HB.out.size (fun q hq => own_lt HO.out q hq), .inr (.inr ⟨rfl, rfl, own5⟩)⟩
          case measure => simp [intOf]
        · go_wp2
          go_ret
          exact ⟨a', c', rfl, hown, HB.out⟩
open Go.ChangeShapes Go.WideShapes Go.ChangeAt Go.RowKit
set_option linter.unusedVariables false
set_option linter.unusedSimpArgs false
/-- May the byte stand in a name? -/
def letterB (c : Int) : Bool := decide (97 ≤ c ∧ c ≤ 122 ∨ 65 ≤ c ∧ c ≤ 90 ∨ 48 ≤ c ∧ c ≤ 57 ∨ c = 95 ∨ c = 46)
/-- A text's byte. -/
def byteZ (s : ByteArray) (i : Nat) : Int := (s.data.getD i 0).toNat
/-- Is the text a name? -/
def namedB (s : ByteArray) : Bool := decide (1 ≤ s.size ∧ s.size ≤ 32 ∧ ∀ i, i < s.size → letterB (byteZ s i) = true)
theorem byteZ_bd (s : ByteArray) (i : Nat) : 0 ≤ byteZ s i ∧ byteZ s i < 256 := by
  unfold byteZ
  have := (s.data.getD i 0).toNat_lt
  omega
theorem index_str {P : Program} (t : TypeId) (ht : P.underlying t = some .string) (s : ByteArray) (k : Nat) (W : World) (hk : k < s.size) : (Instr.index t (.string s) (.int .i64 k)).run P W = .ok (.int .u8 (byteZ s k)) W := by
  rw [run_index_string W t s .i64 k ht, dif_pos ⟨by omega, by omega⟩]
  unfold byteZ
  have hk' : k < s.data.size := hk
  have e : s.data.getD k 0 = s.data[k] := by rw [Array.getD_eq_getD_getElem?, Array.getElem?_eq_getElem hk']; rfl
  rw [e]
  rfl
open Go.ChangeShapes Go.WideShapes Go.ChangeAt Go.RowKit
set_option linter.unusedVariables false
set_option linter.unusedSimpArgs false
/-- The text that the first n numbers make. -/
def textF (n : Nat) (f : Nat → Int) : ByteArray := strOfNums ((List.range n).map f)
theorem textF_size (n : Nat) (f : Nat → Int) : (textF n f).size = n := by
  unfold textF
  rw [strOfNums_size, List.length_map, List.length_range]
theorem textF_byte (n : Nat) (f : Nat → Int) (hf : ∀ i, 0 ≤ f i ∧ f i < 256) (i : Nat) (hi : i < n) : byteZ (textF n f) i = f i := by
  unfold byteZ textF strOfNums
  have := hf i
  simp [hi]
  omega
/-- Are the n bytes a name? -/
def nameF (n : Nat) (f : Nat → Int) : Bool := decide (1 ≤ n ∧ n ≤ 32 ∧ ∀ i, i < n → letterB (f i) = true)
theorem named_text (n : Nat) (f : Nat → Int) (hf : ∀ i, 0 ≤ f i ∧ f i < 256) : namedB (textF n f) = nameF n f := by
  unfold namedB nameF
  rw [textF_size, Bool.eq_iff_iff, decide_eq_true_eq, decide_eq_true_eq]
  constructor
  · rintro ⟨h1, h2, h3⟩
    exact ⟨h1, h2, fun i hi => by rw [← textF_byte n f hf i hi]; exact h3 i hi⟩
  · rintro ⟨h1, h2, h3⟩
    exact ⟨h1, h2, fun i hi => by rw [textF_byte n f hf i hi]; exact h3 i hi⟩
theorem text_eq (n m : Nat) (f g : Nat → Int) (hf : ∀ i, 0 ≤ f i ∧ f i < 256) (hg : ∀ i, 0 ≤ g i ∧ g i < 256) : ((textF n f).toList == (textF m g).toList) = eqB n m f g := by
  unfold textF eqB
  rw [Lib.strOfNums_toList, Lib.strOfNums_toList]
  unfold Lib.bytesOf
  rw [List.map_map, List.map_map, Bool.eq_iff_iff, beq_iff_eq, decide_eq_true_iff]
  constructor
  · intro h
    have hl := congrArg List.length h
    simp at hl
    subst hl
    refine ⟨rfl, fun i hi => ?_⟩
    have h2 := congrArg (·[i]?) h
    simp [hi] at h2
    have h3 := congrArg UInt8.toNat h2
    have := hf i
    have := hg i
    simp at h3
    omega
  · rintro ⟨rfl, h⟩
    exact List.map_congr_left fun i hi => by simp [h i (by simpa using hi)]
theorem text_conv (w : World) (a : Option Addr) (n c : Nat) (f : Nat → Int) (h : Bytes w a n f) : (convert 39 9 (.slice a n c)).run Tryz.prog w = .ok (.string (textF n f)) w := by
  obtain ⟨hf, h0 | ⟨b, off, rfl, hc⟩⟩ := h
  · subst h0
    have hl : ∀ a, (loadCells a 0).run Tryz.prog w = .ok #[] w := fun a => by
      have := run_loadCells_list (P := Tryz.prog) w a [] (fun j v hj => by simp at hj)
      simpa using this
    rw [run_convert_bytes_string w 39 9 5 a 0 c Tryz.underlying39 Tryz.underlying5 Tryz.underlying9]
    cases a with
    | none => simp [Conv.bytesToString, textF, strOfNums, ByteArray.empty, ByteArray.emptyWithCapacity]; rfl
    | some b =>
      rw [run_bytesToString w b 0 c [] (by simpa using hl b)]
      rfl
  · exact run_convert_bytes_arg (P := Tryz.prog) w 39 5 Tryz.underlying39 Tryz.underlying5 b off n c ((List.range n).map f) (by simp) (fun i hi => by rw [hc i hi]; simp [hi]) 9 Tryz.underlying9
/-- How many bytes an act wants. -/
def wantZ (f : Nat → Int) (d x : Int) : Int := if d = 0 then 1 + x % 4 else if d = 1 then x else if d = 2 then 1 + f 0 else if d = 3 then 8 else if d = 4 then 2 else 0
/-- The error that an act meets: of n bytes. -/
def errZ (n : Nat) (f : Nat → Int) (d x : Int) : Int :=
  if d = 2 ∧ n = 0 then 2 else if (n : Int) < wantZ f d x then 2
  else if (d = 2 ∧ nameF (f 0).toNat (fun i => f (i + 1)) = false) ∨ (d = 4 ∧ x < f 0 + 256 * f 1) then 4 else 0
theorem want_bd {f : Nat → Int} (hf : ∀ i, 0 ≤ f i ∧ f i < 256) (d x : Int) (hx : 0 ≤ x ∧ x ≤ 65535) : 0 ≤ wantZ f d x ∧ wantZ f d x ≤ 65535 := by
  have := hf 0
  unfold wantZ
  repeat' split
  all_goals omega
/-- A number of eight bytes. -/
def eightZ (f : Nat → Int) : Int := sumZ f 4 + 4294967296 * sumZ (fun i => f (i + 4)) 4
theorem eight_bd {f : Nat → Int} (hf : ∀ i, 0 ≤ f i ∧ f i < 256) : 0 ≤ eightZ f ∧ eightZ f < 18446744073709551616 := by
  have h1 := sum_bd f hf 4
  have h2 := sum_bd (fun i => f (i + 4)) (fun i => hf _) 4
  unfold eightZ
  omega
end Go.Proofs.YteakbpcmafdikaaGreatDoor
