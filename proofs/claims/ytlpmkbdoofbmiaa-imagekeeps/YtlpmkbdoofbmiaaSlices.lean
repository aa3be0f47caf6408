/- What the functions of layer 1 that read slices return: one contract a function. -/
import Derived.Test.YtlpmkbdoofbmiaaCalls
import Derived.WalkSmall
import Derived.Laws.BitsAllLaws
namespace Go.Proofs.Ytlpmkbdoofbmiaa
open Go.ChangeShapes Go.WideShapes Go.ChangeAt Go.RowKit
set_option linter.unusedVariables false
/-! ### Slices -/
theorem same_any (w : World) (a b oa ob : Nat) (ys : List Int) (hlen : ys.length ≤ 1000)
    (ha : ∀ i, i < ys.length → w.cell? ⟨a, oa + i, none⟩ = some (.int .u8 (ys.getD i 0))) (hb : ∀ i, i < ys.length → w.cell? ⟨b, ob + i, none⟩ = some (.int .u8 (ys.getD i 0))) :
    Calls Try.prog 11 #[.slice (some ⟨a, oa, none⟩) ys.length ys.length, .slice (some ⟨b, ob, none⟩) ys.length ys.length] w fun e w' => e = .returned (.bool true) ∧ Below w.heap.size w w' := by
  go_enter Try.func11, Try.ntmps11
  go_wp2
  go_loopw [5] (fun i wr => ∃ k : Nat, k ≤ ys.length ∧ i = .int .i64 k ∧ (∀ x, wr.cell? x = w.cell? x) ∧ Below w.heap.size w wr) (fun i _ => ys.length - (intOf i).toNat)
  case atStart => exact ⟨0, Nat.zero_le _, rfl, fun _ => rfl, Below.refl _ _⟩
  case round =>
    obtain ⟨k, hk, rfl, hc, hbel⟩ := hrel
    by_cases hlt : k < ys.length
    · have c1 := (hc ⟨a, oa + k, none⟩).trans (ha k hlt)
      have c2 := (hc ⟨b, ob + k, none⟩).trans (hb k hlt)
      have hc' : Hid (∀ x, wr.cell? x = w.cell? x) := hc
      have hb' : Hid (Below w.heap.size w wr) := hbel
      clear hc hbel ha hb
      go_wp2
      go_quiet (fail)
      go_wp2
      go_roundw
      case rel => exact ⟨k + 1, by omega, by go_num, hc'.out, below_drewN hb'.out _⟩
      case measure => simp [intOf]; omega
    · obtain rfl : k = ys.length := by omega
      go_wp2
      go_ret
      exact ⟨rfl, hbel⟩

/-- The number that the first k of the bytes f make, the lowest first. -/
def sumZ (f : Nat → Int) : Nat → Int
  | 0 => 0
  | k + 1 => sumZ f k + f k * 256 ^ k
theorem sum_bd (f : Nat → Int) (hf : ∀ i, 0 ≤ f i ∧ f i < 256) : ∀ k, 0 ≤ sumZ f k ∧ sumZ f k < 256 ^ k
  | 0 => ⟨by simp [sumZ], by simp [sumZ]⟩
  | k + 1 => by
    have ih := sum_bd f hf k
    have hk := hf k
    have p : (0 : Int) < 256 ^ k := Int.pow_pos (by decide)
    have e : (256 : Int) ^ (k + 1) = 256 ^ k * 256 := Int.pow_succ ..
    have l : 0 ≤ f k * 256 ^ k := Int.mul_nonneg hk.1 (by omega)
    have u : f k * 256 ^ k ≤ 255 * 256 ^ k := Int.mul_le_mul_of_nonneg_right (by omega) (by omega)
    simp only [sumZ]
    omega
theorem or_round (f : Nat → Int) (hf : ∀ i, 0 ≤ f i ∧ f i < 256) (k : Nat) (hk : k < 4) :
    bits BinOp.or IntKind.u32 (sumZ f k) (f k * 2 ^ (8 * k) % 4294967296) = sumZ f (k + 1) := by
  have b := sum_bd f hf k
  have c := hf k
  have e : (2 : Int) ^ (8 * k) = 256 ^ k := by rw [Int.pow_mul]; rfl
  have b1 := sum_bd f hf (k + 1)
  simp only [sumZ] at b1 ⊢
  rw [e]
  generalize sumZ f k = s at *
  generalize f k = x at *
  rcases (by omega : k = 0 ∨ k = 1 ∨ k = 2 ∨ k = 3) with rfl | rfl | rfl | rfl <;> simp at b b1 ⊢
  all_goals
    rw [show ∀ y : Int, (0 ≤ y → y < 4294967296 → y % 4294967296 = y) from fun y h h' => Int.emod_eq_of_lt h h'] <;> try omega
    rw [u32_or _ _ (by omega) (by omega) (by omega) (by omega)]
  · have := nat_join 0 (x.toNat) s.toNat (by omega) (by omega)
    rw [Nat.or_comm, this]; omega
  · have := nat_join 8 ((x * 256).toNat) s.toNat (by omega) (by omega)
    rw [Nat.or_comm, this]; omega
  · have := nat_join 16 ((x * 65536).toNat) s.toNat (by omega) (by omega)
    rw [Nat.or_comm, this]; omega
  · have := nat_join 24 ((x * 16777216).toNat) s.toNat (by omega) (by omega)
    rw [Nat.or_comm, this]; omega
theorem get_any (w : World) (b off len cap : Nat) (f : Nat → Int) (hm : len ≤ 9223372036854775807)
    (hc : ∀ i, i < len → i < 4 → w.cell? ⟨b, off + i, none⟩ = some (.int .u8 (f i))) (hf : ∀ i, 0 ≤ f i ∧ f i < 256) :
    Calls Try.prog 40 #[.slice (some ⟨b, off, none⟩) len cap] w fun e w' => e = .returned (.int .u32 (sumZ f (min len 4))) ∧ Below w.heap.size w w' := by
  go_enter Try.func40, Try.ntmps40
  go_wp2
  all_goals
    go_loop [3, 8] (fun v i => ∃ k : Nat, k ≤ min len 4 ∧ i = .int .i64 k ∧ v = .int .u32 (sumZ f k)) (fun _ i => 4 - (intOf i).toNat)
    case atStart => exact ⟨0, Nat.zero_le _, rfl, rfl⟩
    case round =>
      obtain ⟨k, hk, rfl, rfl⟩ := hrel
      by_cases hlt : k < min len 4
      · have c1 := hc k (by omega) (by omega)
        have k1 : k < len := by omega
        have k2 : k < 4 := by omega
        have H : Hid (_ = _) := or_round f hf k k2
        obtain ⟨f0, f1⟩ := hf k
        clear hc hf
        go_wp2
        go_round
        case rel => exact ⟨k + 1, by omega, by go_num, by rw [← H.out]⟩
        case measure => simp [intOf]; omega
      · obtain rfl : k = min len 4 := by omega
        clear hc hf
        go_wp2
        go_ret
        exact ⟨rfl, Below.refl _ _⟩

def hiZ (g : Nat → Int) : Nat → Int
  | 0 => 0
  | j + 1 => 256 * hiZ g j + g (3 - j)
theorem hi_bd (g : Nat → Int) (hg : ∀ i, 0 ≤ g i ∧ g i < 256) (j : Nat) (hj : j ≤ 4) : 0 ≤ hiZ g j ∧ hiZ g j < 256 ^ j := by
  have g0 := hg 0; have g1 := hg 1; have g2 := hg 2; have g3 := hg 3
  rcases (by omega : j = 0 ∨ j = 1 ∨ j = 2 ∨ j = 3 ∨ j = 4) with rfl | rfl | rfl | rfl | rfl <;> simp [hiZ] <;> omega
def cutF (f : Nat → Int) (len i : Nat) : Int := if i < len then f i else 0
theorem hi_sum (f : Nat → Int) (len : Nat) : hiZ (cutF f len) 4 = sumZ f (min len 4) := by
  rcases (by omega : len = 0 ∨ len = 1 ∨ len = 2 ∨ len = 3 ∨ 4 ≤ len) with rfl | rfl | rfl | rfl | h
  · simp [hiZ, sumZ, cutF]
  · simp [hiZ, sumZ, cutF]
  · simp [hiZ, sumZ, cutF]; omega
  · simp [hiZ, sumZ, cutF]; omega
  · rw [show min len 4 = 4 by omega]
    have h0 : 0 < len := by omega
    have h1 : 1 < len := by omega
    have h2 : 2 < len := by omega
    have h3 : 3 < len := by omega
    simp [hiZ, sumZ, cutF, h0, h1, h2, h3]; omega
theorem rget_any (w : World) (b off len cap : Nat) (f : Nat → Int) (hm : len ≤ 9223372036854775807)
    (hc : ∀ i, i < len → i < 4 → w.cell? ⟨b, off + i, none⟩ = some (.int .u8 (f i))) (hf : ∀ i, 0 ≤ f i ∧ f i < 256) :
    Calls Try.prog 35 #[.slice (some ⟨b, off, none⟩) len cap] w fun e w' => e = .returned (.int .u32 (sumZ f (min len 4))) ∧ Below w.heap.size w w' := by
  have hg : ∀ i, 0 ≤ cutF f len i ∧ cutF f len i < 256 := fun i => by have := hf i; unfold cutF; split <;> omega
  have HF : Hid (_ = _) := hi_sum f len
  have HB : Hid (∀ j, j ≤ 4 → 0 ≤ hiZ (cutF f len) j ∧ hiZ (cutF f len) j < 256 ^ j) := fun j hj => hi_bd _ hg j hj
  clear hg
  go_enter Try.func35, Try.ntmps35
  go_wp2
  go_loop [3, 4] (fun v i => ∃ t : Nat, t ≤ 4 ∧ i = .int .i64 (t - 1) ∧ v = .int .i64 (hiZ (cutF f len) (4 - t))) (fun _ i => (intOf i + 1).toNat)
  case atStart => exact ⟨4, Nat.le_refl _, rfl, rfl⟩
  case round =>
    obtain ⟨t, ht, rfl, rfl⟩ := hrel
    rcases t with _ | t
    · have hb := HB.out 4 (by omega)
      rw [show (4 - 0) = 4 from rfl]
      generalize hiZ (cutF f len) 4 = q at *
      clear hc hf
      go_wp2
      go_ret
      exact ⟨ret_int HF.out, Below.refl _ _⟩
    · rw [show ((t + 1 : Nat) : Int) - 1 = t by omega]
      have HS : Hid (hiZ (cutF f len) (4 - t) = 256 * hiZ (cutF f len) (4 - (t + 1)) + cutF f len t) := by
        rw [show 4 - t = (4 - (t + 1)) + 1 by omega]; show _ = _; simp only [hiZ]; rw [show 3 - (4 - (t + 1)) = t by omega]
      have hb := HB.out (4 - (t + 1)) (by omega)
      have hp : (256 : Int) ^ (4 - (t + 1)) ≤ 16777216 := by
        rcases (by omega : t = 0 ∨ t = 1 ∨ t = 2 ∨ t = 3) with rfl | rfl | rfl | rfl <;> decide
      have hb2 : hiZ (cutF f len) (4 - (t + 1)) < 16777216 := by omega
      have hb1 := hb.1
      clear hb hp
      generalize hiZ (cutF f len) (4 - (t + 1)) = q at *
      by_cases hl : t < len
      · have c1 := hc t hl (by omega)
        have HC : Hid (cutF f len t = f t) := by unfold cutF; exact if_pos hl
        obtain ⟨f0, f1⟩ := hf t
        clear hc hf
        go_wp2
        go_round
        case rel => exact ⟨t, by omega, by go_num, by rw [HS.out, HC.out]⟩
        case measure => simp [intOf]
      · have HC : Hid (cutF f len t = 0) := by unfold cutF; exact if_neg hl
        clear hc hf
        go_wp2
        go_round
        case rel => exact ⟨t, by omega, by go_num, by rw [HS.out, HC.out]; go_num⟩
        case measure => simp [intOf]

theorem get_nil (w : World) (cap : Nat) (a : Option Addr) :
    Calls Try.prog 40 #[.slice a 0 cap] w fun e w' => e = .returned (.int .u32 0) ∧ Below w.heap.size w w' := by
  go_enter Try.func40, Try.ntmps40
  go_wp2
  go_loop [3, 8] (fun v i => i = .int .i64 0 ∧ v = .int .u32 0) (fun _ i => 4 - (intOf i).toNat)
  case atStart => exact ⟨rfl, rfl⟩
  case round =>
    obtain ⟨rfl, rfl⟩ := hrel
    go_wp2
    go_ret
    exact ⟨rfl, Below.refl _ _⟩
theorem rget_nil (w : World) (cap : Nat) (a : Option Addr) :
    Calls Try.prog 35 #[.slice a 0 cap] w fun e w' => e = .returned (.int .u32 0) ∧ Below w.heap.size w w' := by
  go_enter Try.func35, Try.ntmps35
  go_wp2
  go_loop [3, 4] (fun v i => ∃ t : Nat, t ≤ 4 ∧ i = .int .i64 (t - 1) ∧ v = .int .i64 0) (fun _ i => (intOf i + 1).toNat)
  case atStart => exact ⟨4, Nat.le_refl _, rfl, rfl⟩
  case round =>
    obtain ⟨t, ht, rfl, rfl⟩ := hrel
    rcases t with _ | t
    · go_wp2
      go_ret
      exact ⟨rfl, Below.refl _ _⟩
    · rw [show ((t + 1 : Nat) : Int) - 1 = t by omega]
      go_wp2
      go_round
      case rel => exact ⟨t, by omega, by go_num, rfl⟩
      case measure => simp [intOf]
end Go.Proofs.Ytlpmkbdoofbmiaa
