/- A row of so many equal numbers, as the library makes it. -/
import Derived.Test.YtlmijnaimdknnaaPlcKit
import Derived.Test.YtlmijnaimdknnaaShelf
import Derived.Deep.RegionLaw
import Derived.WalkSmall
namespace Go.Proofs.Ytlmijnaimdknnaa
open Go.ChangeShapes Go.WideShapes Go.ChangeAt Go.RowKit
set_option linter.unusedVariables false
set_option linter.unusedSimpArgs false
theorem intI : (Try.prog.info? 3).map (fun i => (i.zero, i.size, i.bytes)) = some (some (.int .i64 0), 1, 8) := by kernel_rfl
theorem own_heap {w : World} {base g n : Nat} {e : TypeId} {xs : List Value} (h : w.ownsRow base e 1 (.slice (some ⟨g, 0, none⟩) n n) n xs) : base ≤ g ∧ w.heap[g]? = some (.cells xs.toArray e (0, 0)) := by
  rcases h.2 with ⟨h', _⟩ | ⟨g', cap', cur, h', hb, hg, hnc, hcm, hcs, htake⟩
  · simp at h'
  · simp only [Value.slice.injEq, Option.some.injEq, Addr.mk.injEq, and_true, true_and] at h'
    obtain ⟨rfl, rfl⟩ := h'
    rw [List.take_of_length_le (by simp; omega)] at htake
    rw [← htake, Array.toArray_toList]
    exact ⟨hb, hg⟩
theorem xat_heap {w : World} {g : Nat} {t : TypeId} {cs : List Value} (h : w.heap[g]? = some (.cells cs.toArray t (0, 0))) : XAt w g cs :=
  ⟨fun j u hj => by rw [cell_of_row w g j _ t (0, 0) h]; simpa using hj, fun j => frozen_of_row w g j _ t h⟩
theorem lt_heap {w : World} {g : Nat} {o : Obj} (h : w.heap[g]? = some o) : g < w.heap.size := (Array.getElem?_eq_some_iff.1 h).1
theorem grew_below {w w' : World} (h : w.grownBy w' none) : Below w.heap.size w w' := ⟨h.os, h.tape, h.output, h.size, fun k hk => h.block k hk (by simp)⟩
theorem zeros_nums (n : Nat) : (madeCells (Value.int .i64 0).cells (n * 1)).toList = nums (List.replicate n 0) := by
  rw [Nat.mul_one]; show (madeCells #[Value.int .i64 0] n).toList = _
  rw [toList_madeCells_one]; simp [nums]
/-- The first k are z, the others are zero. -/
def halfZ (n k : Nat) (z : Int) : List Value := List.replicate k (.int .i64 z) ++ List.replicate (n - k) (.int .i64 0)
theorem half_len {n k : Nat} {z : Int} (h : k ≤ n) : (halfZ n k z).length = n := by simp [halfZ]; omega
theorem half_zero (n : Nat) (z : Int) : nums (List.replicate n 0) = halfZ n 0 z := by simp [halfZ, nums]
theorem half_all (n : Nat) (z : Int) : halfZ n n z = nums (List.replicate n z) := by simp [halfZ, nums]
theorem half_step {n k m : Nat} {z : Int} (h : k + m ≤ n) : splice (halfZ n k z) k (List.replicate m (.int .i64 z)) = halfZ n (k + m) z := by
  unfold splice halfZ
  rw [List.take_append_of_le_length (by simp), List.take_of_length_le (by simp), List.length_replicate, List.drop_append]
  simp only [List.length_replicate, List.drop_replicate]
  rw [show k - (k + m) = 0 by omega, show k + m - k = m by omega, List.replicate_zero, List.nil_append, ← List.append_assoc, List.replicate_append_replicate, show n - k - m = n - (k + m) by omega]
theorem half_get {n k j : Nat} {z : Int} (h : j < k) : (halfZ n k z)[j]? = some (.int .i64 z) := by
  unfold halfZ
  rw [List.getElem?_append_left (by simpa using h), List.getElem?_replicate, if_pos h]
set_option maxRecDepth 100000 in
set_option maxHeartbeats 2000000 in
theorem repeat_any (w : World) (q n : Nat) (z : Int) (hq : w.cell? ⟨q, 0, none⟩ = some (.int .i64 z)) (hn : n ≤ 300) :
    Calls Try.prog 12 #[.slice (some ⟨q, 0, none⟩) 1 1, .int .i64 n] w fun e w' => ∃ g, e = .returned (.slice (some ⟨g, 0, none⟩) n n) ∧ w.heap.size ≤ g ∧ g < w'.heap.size ∧ XAt w' g (nums (List.replicate n z)) ∧ Below w.heap.size w w' := by
  have HM : Hid (∀ W, Calls Try.prog 16 #[.int .u64 1, .int .u64 n] W fun e w' => e = .returned (.tuple #[.int .u64 0, .int .u64 n]) ∧ w' = W) := fun W => by
    have h := Try.bits_Mul 1 n (by omega) (by omega) W
    rw [show 1 * n / 18446744073709551616 = 0 by omega, show 1 * n % 18446744073709551616 = n by omega] at h
    exact h
  obtain ⟨i0, hi, hz0, hz1, hz2⟩ := info_parts intI
  have hn' : (n : Int) ≤ 300 := by omega
  have HQ : Hid (w.cell? ⟨q, 0, none⟩ = some (.int .i64 z)) := hq
  have w1' : IntKind.u64.wrap (n : Int) = n := by rw [IntKind.wrap_u64]; omega
  obtain ⟨m0, em0⟩ : ∃ m, Nat.min 1 n = m := ⟨_, rfl⟩
  have hm0 : m0 ≤ n ∧ (1 ≤ n → m0 = 1) ∧ m0 ≤ 1 := by rw [← em0]; simp only [Nat.min_def]; split <;> omega
  have EM : Hid (Nat.min 1 n = m0) := em0
  have HM0 : Hid (m0 ≤ n ∧ (1 ≤ n → m0 = 1) ∧ m0 ≤ 1) := hm0
  have SRC : Hid (∀ W, Below w.heap.size w W → ∀ j v, (List.replicate m0 (Value.int .i64 z))[j]? = some v → W.cell? ((⟨q, 0, none⟩ : Addr).add j) = some v) := fun W hW j v h => by
    rw [List.getElem?_replicate] at h
    split at h
    · obtain rfl : j = 0 := by omega
      simp only [Option.some.injEq] at h; subst h
      exact cell_any HQ.out hW
    · cases h
  clear em0 hm0 hq
  go_enter Try.func12, Try.ntmps12
  go_upto_region 7 with (first
    | (at_make; refine wpList_make_full _ rfl _ _ 28 rfl _ 3 i0 (.int .i64 0) 1 Try.underlying28 hi hz0 hz1 .i64 .i64 _ _ n rfl rfl rfl rfl (by rw [hz2]; omega) (by unfold maxLen; omega) (Nat.le_refl _) ?_; intro w2 own2 gr2)
    | (go_at_call 16; refine (HM.out _).mono ?_; rintro e wm ⟨rfl, rfl⟩))
  have B2 : Hid (Below wm.heap.size wm w2) := grew_below gr2
  have G2 : Hid (wm.heap.size ≤ wm.heap.size ∧ w2.heap[wm.heap.size]? = some (.cells (halfZ n 0 z).toArray 3 (0, 0))) := by
    have h := own_heap own2; rw [zeros_nums, half_zero n z] at h; exact h
  clear own2 gr2
  go_upto_region 8 with ((with_reducible show wpList _ _ _ (Oper.mk _ (Op.call { callee := .builtin .copy, args := _, argTypes := _ }) _ _ _ _ :: _) _ _); refine wpList_copy_splice rfl (.tmp 31) (.tmp 32) 28 28 rfl 3 Try.underlying28 (by kernel_rfl) _ _ _ _ _ _ rfl rfl wm.heap.size 0 (halfZ n 0 z) 3 G2.out.2 (List.replicate m0 (.int .i64 z)) (by rw [List.length_replicate]; exact EM.out.symm) (fun _ => ⟨rfl, _, rfl, SRC.out _ B2.out⟩) (by rw [List.length_replicate, half_len (Nat.zero_le _)]; have := HM0.out.1; omega) (by intro v hv; rw [List.mem_replicate] at hv; rw [hv.2]; rfl) wm.heap.size wm B2.out (Nat.le_refl _) ?_; intro w3 G3 B3)
  have G3' : Hid (w3.heap[wm.heap.size]? = some (.cells (halfZ n m0 z).toArray 3 (0, 0))) := by
    have h := G3.out; rw [half_step (by have := HM0.out.1; omega), Nat.zero_add] at h; exact h
  have B3' : Hid (Below wm.heap.size wm w3) := B3
  clear G3 B3
  go_loopw [8] (fun i wr => ∃ k : Nat, k ≤ n ∧ (1 ≤ n → 1 ≤ k) ∧ i = .int .i64 k ∧ wr.heap[wm.heap.size]? = some (.cells (halfZ n k z).toArray 3 (0, 0)) ∧ Below wm.heap.size wm wr) (fun i _ => n - (intOf i).toNat)
  case atStart => exact ⟨m0, HM0.out.1, (fun h => by have := HM0.out.2.1 h; omega), by first | rfl | (rw [List.length_replicate]; rfl) | simp [goInt], G3'.out, B3'.out⟩
  case round =>
    obtain ⟨k, hk, hk1, rfl, hh, hbel⟩ := hrel
    have HH : Hid (wr.heap[wm.heap.size]? = some (.cells (halfZ n k z).toArray 3 (0, 0))) := hh
    have HB : Hid (Below wm.heap.size wm wr) := hbel
    clear hh hbel
    by_cases hlt : k < n
    · have hlt' : (k : Int) < n := by omega
      have hk1' : 1 ≤ (k : Int) := by have := hk1 (by omega); omega
      obtain ⟨m, em⟩ : ∃ m, Nat.min k (n - k) = m := ⟨_, rfl⟩
      have hm : m ≤ k ∧ k + m ≤ n ∧ 1 ≤ m := by rw [← em]; simp only [Nat.min_def]; split <;> omega
      have HMM : Hid (m ≤ k ∧ k + m ≤ n ∧ 1 ≤ m ∧ Nat.min k (n - k) = m) := ⟨hm.1, hm.2.1, hm.2.2, em⟩
      have hm' : (k : Int) + m ≤ n ∧ 1 ≤ (m : Int) := by omega
      clear em hm hk1
      have SR : Hid (∀ j v, (List.replicate m (Value.int .i64 z))[j]? = some v → wr.cell? ((⟨wm.heap.size, 0, none⟩ : Addr).add j) = some v) := fun j v h => by
        rw [List.getElem?_replicate] at h
        split at h
        · simp only [Option.some.injEq] at h; subst h
          have h1 := (xat_heap HH.out).1 j _ (half_get (by have := HMM.out; omega))
          rwa [show (⟨wm.heap.size, 0, none⟩ : Addr).add j = ⟨wm.heap.size, j, none⟩ from by cases j <;> simp [Addr.add]]
        · cases h
      have hm2 : IntKind.i64.wrap ((k : Int) + m) = (k : Int) + m := IntWalk.i64_in _ (by omega)
      go_upto_region 9 with fail
      go_region_law (refine step_copy_splice rfl (.tmp 41) (.tmp 44) 28 28 rfl 3 Try.underlying28 (by kernel_rfl) (if n = k then some ⟨wm.heap.size, 0, none⟩ else some ⟨wm.heap.size, k, none⟩) (some ⟨wm.heap.size, 0, none⟩) (n - k) (n - k) k n (by go_simp) (by go_simp) wm.heap.size k (halfZ n k z) 3 HH.out (List.replicate m (.int .i64 z)) (by rw [List.length_replicate]; exact HMM.out.2.2.2.symm) (fun _ => ⟨if_neg (by omega), ⟨wm.heap.size, 0, none⟩, rfl, fun j v h => SR.out j v h⟩) (by rw [List.length_replicate, half_len hk]; have := HMM.out; omega) (by intro v hv; rw [List.mem_replicate] at hv; rw [hv.2]; rfl) wm.heap.size wm (by first | exact HB.out | exact below_drewN HB.out _) (Nat.le_refl _) ?_; intro w6 G6 B6)
      all_goals
        go_wp2
        go_roundw
        case rel =>
          have h := G6.out; rw [half_step (by have := HMM.out; omega)] at h
          exact ⟨k + m, by have := HMM.out; omega, (fun _ => by have := HMM.out; omega), by simp only [Int.natCast_add], h⟩
        case measure => simp [intOf]; have := HMM.out; omega
    · obtain rfl : k = n := by omega
      go_wp2
      go_ret
      exact ⟨wm.heap.size, rfl, Nat.le_refl _, lt_heap HH.out, by have h := HH.out; rw [half_all] at h; exact xat_heap h, HB.out⟩
end Go.Proofs.Ytlmijnaimdknnaa
