/- All functions in order, and an address. -/
import Derived.Test.YtlmijnaimdknnaaPlcRep
namespace Go.Proofs.Ytlmijnaimdknnaa
open Go.ChangeShapes Go.WideShapes Go.ChangeAt Go.RowKit
set_option linter.unusedVariables false
set_option linter.unusedSimpArgs false
/-- 0, 1, 2, .. -/
def iotaZ (n : Nat) : List Int := (List.range n).map fun (k : Nat) => (k : Int)
theorem iota_len (n : Nat) : (iotaZ n).length = n := by simp [iotaZ]
theorem iota_get {n k : Nat} (h : k < n) : (iotaZ n)[k]? = some (k : Int) := by simp [iotaZ, h]
theorem iota_of {n : Nat} {L : List Int} (h : L.length = n) (hk : ∀ j, j < n → L[j]? = some (j : Int)) : L = iotaZ n := by
  apply List.ext_getElem?
  intro j
  by_cases hj : j < n
  · rw [hk j hj, iota_get hj]
  · rw [List.getElem?_eq_none (by omega), List.getElem?_eq_none (by rw [iota_len]; omega)]
set_option maxRecDepth 100000 in
set_option maxHeartbeats 4000000 in
theorem all_any {w : World} {v : Value} {p : ProgZ} (h : IsP w v p) (hm : p.codes.length ≤ 300) :
    Calls Try.prog 7 #[v] w fun e w' => (∃ g, e = .returned (.slice (some ⟨g, 0, none⟩) p.codes.length p.codes.length) ∧ w.heap.size ≤ g ∧ g < w'.heap.size ∧ XAt w' g (nums (iotaZ p.codes.length))) ∧ Below w.heap.size w w' := by
  obtain ⟨vf, vd, rfl, hf, hd⟩ := h
  obtain ⟨fa, fc, rfl, -, -, -⟩ := LstA.open hf
  obtain ⟨da, dc, rfl, -, -, -⟩ := LstA.open hd
  obtain ⟨F, eF⟩ : ∃ F, p.codes.length = F := ⟨_, rfl⟩
  obtain ⟨D, eD⟩ : ∃ D, p.datas.length = D := ⟨_, rfl⟩
  obtain ⟨E, eE⟩ : ∃ E, p.entry = E := ⟨_, rfl⟩
  rw [eF] at hm ⊢
  rw [eD, eE]
  clear hf hd eF eD eE
  obtain ⟨i0, hi, hz0, hz1, hz2⟩ := info_parts intI
  have hF' : (F : Int) ≤ 300 := by omega
  obtain ⟨W0, eW0⟩ : ∃ W0, w.alloc (.cells #[.slice fa F fc, .slice da D dc, .int .i64 E] 25) = W0 := ⟨_, rfl⟩
  have UP : Hid (Below w.heap.size w W0) := by rw [← eW0]; exact keep_alloc8 (Below.refl _ _) _
  have XA : Hid (XAt W0 w.heap.size [.slice fa F fc, .slice da D dc, .int .i64 E]) := by rw [← eW0]; exact XAt.new w _ _
  have ha : Hid (w.heap.size < W0.heap.size) := XA.out.lt (by simp)
  have p0 := XA.out.1 0 _ rfl
  go_enter Try.func7, Try.ntmps7
  go_upto_region 1 with fail
  try rw [eW0]
  clear eW0
  go_upto_region 2 with (at_make; refine wpList_make_full _ rfl _ _ 28 rfl _ 3 i0 (.int .i64 0) 1 Try.underlying28 hi hz0 hz1 .i64 .i64 _ _ F rfl rfl rfl rfl (by rw [hz2]; omega) (by unfold maxLen; omega) (Nat.le_refl _) ?_; intro w2 own2 gr2)
  have B2 : Hid (Below w.heap.size w w2) := bnext UP.out (grew_below gr2)
  have G2 : Hid (W0.heap.size < w2.heap.size ∧ XAt w2 W0.heap.size (nums (List.replicate F 0))) := by
    have h := own_heap own2; rw [zeros_nums] at h; exact ⟨lt_heap h.2, xat_heap h.2⟩
  clear own2 gr2 p0
  obtain ⟨g, eg⟩ : ∃ g, W0.heap.size = g := ⟨_, rfl⟩
  rw [eg] at ha G2 ⊢
  clear eg XA UP
  go_wp2
  go_loopw [11] (fun i wr => ∃ k : Nat, ∃ L : List Int, k ≤ F ∧ i = .int .i64 k ∧ L.length = F ∧ (∀ j, j < k → L[j]? = some (j : Int)) ∧ XAt wr g (nums L) ∧ Below w.heap.size w wr ∧ g < wr.heap.size) (fun i _ => F - (intOf i).toNat)
  case atStart => exact ⟨0, List.replicate F 0, Nat.zero_le _, rfl, by simp, (fun j hj => by omega), G2.out.2, B2.out, G2.out.1⟩
  case round =>
    obtain ⟨k, L, hk, rfl, hl, hj, hx, hb, hs⟩ := hrel
    have HL : Hid (L.length = F ∧ (∀ j, j < k → L[j]? = some (j : Int)) ∧ XAt wr g (nums L) ∧ Below w.heap.size w wr ∧ g < wr.heap.size) := ⟨hl, hj, hx, hb, hs⟩
    clear hl hj hx hb hs
    by_cases hlt : k < F
    · have hlt' : (k : Int) < F := by omega
      obtain ⟨x, hx⟩ := get_some (l := L) (k := k) (by have := HL.out.1; omega)
      have g0 := HL.out.2.2.1.1 k _ (nums_get hx)
      have g1 := HL.out.2.2.1.2 k
      clear hx
      go_upto_region 6 with fail
      have X4 : Hid (XAt (wr.setCell ⟨g, k, none⟩ (.int .i64 k)) g (nums (L.set k k))) := xnum_set HL.out.2.2.1 (by have := HL.out.1; omega) _
      have B4 : Hid (Below w.heap.size w (wr.setCell ⟨g, k, none⟩ (.int .i64 k))) := HL.out.2.2.2.1.setCell (by show w.heap.size ≤ g; have := ha.out; omega) _
      have S4 : Hid (g < (wr.setCell ⟨g, k, none⟩ (.int .i64 k)).heap.size) := by have := HL.out.2.2.2.2; simpa [Hid] using this
      generalize (wr.setCell ⟨g, k, none⟩ (.int .i64 k)) = w4 at X4 B4 S4 ⊢
      go_wp2
      go_roundw
      case rel => exact ⟨k + 1, L.set k k, by omega, by go_num, by rw [List.length_set]; exact HL.out.1, (fun j hj => by
        by_cases e : k = j
        · subst e; exact List.getElem?_set_self (by have := HL.out.1; omega)
        · rw [List.getElem?_set_ne e]; exact HL.out.2.1 j (by omega)), X4.out, B4.out, S4.out⟩
      case measure => simp [intOf]; omega
    · obtain rfl : k = F := by omega
      go_wp2
      go_ret
      exact ⟨⟨g, rfl, by have := ha.out; omega, HL.out.2.2.2.2, by rw [← iota_of HL.out.1 HL.out.2.1]; exact HL.out.2.2.1⟩, HL.out.2.2.2.1⟩
theorem address_any (a : Int) (w : World) (h0 : 0 ≤ a) (h1 : a ≤ 65536) :
    Calls Try.prog 9 #[.int .i64 a] w fun e w' => e = .returned (.int .u32 (65536 + a)) ∧ w' = w := by
  have hs : IntKind.u32.wrap (65536 + a) = 65536 + a := by rw [IntKind.wrap_u32]; omega
  go_enter Try.func9, Try.ntmps9
  go_wp2
  go_ret
  exact ⟨rfl, rfl⟩
end Go.Proofs.Ytlmijnaimdknnaa
