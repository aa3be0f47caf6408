/- What an Imm becomes, and the word that has it, as the code has it. -/
import Derived.Test.YtombfnnpdamlgaaDoorPatVal
namespace Go.Proofs.YtombfnnpdamlgaaDoor
open Go.ChangeShapes Go.WideShapes Go.ChangeAt Go.RowKit
set_option linter.unusedVariables false
set_option linter.unusedSimpArgs false
theorem and_low (v : Int) (h0 : 0 ≤ v) (h1 : v < 4294967296) : bits .and .u32 v 65535 = v % 65536 := by
  obtain ⟨n, rfl⟩ := Int.eq_ofNat_of_zero_le h0
  have := u32_and_nat n 65535 (by omega) (by omega)
  rw [show ((65535 : Nat) : Int) = 65535 from rfl] at this
  rw [this, show (65535 : Nat) = 2 ^ 16 - 1 from rfl, Nat.and_two_pow_sub_one_eq_mod]
  rfl
/-- It fits, or it doesn't. -/
def Fit2 (k : IntKind) (o : Option Int) (e : Ending) : Prop := (∃ i, o = some i ∧ e = .returned (.tuple #[.int k i, .bool true])) ∨ (o = none ∧ ∃ i, e = .returned (.tuple #[.int k i, .bool false]))
set_option maxRecDepth 100000 in
set_option maxHeartbeats 1000000 in
theorem becomes_any {w : World} {vc vd : Value} {a b c : Int} {x : PlanZ} {nf nd : Nat} (hc : IsNums w vc x.code) (hd : IsNums w vd x.data) (hp : PlanOk nf nd x) (r : PRelM) (h0 : 0 ≤ r.to) (h1 : (r.kind = 1 ∧ r.to < nf) ∨ ((r.kind = 2 ∨ r.kind = 3) ∧ r.to < nd)) (h2 : -1048576 ≤ r.add) (h3 : r.add ≤ 1048576) (at_ : Int) (a0 : 0 ≤ at_) (a1 : at_ ≤ 1099511627776) :
    Calls Tryd.prog 26 #[.agg #[vc, vd, .int .i64 a, .int .i64 b, .int .i64 c], .agg #[.int .i64 r.at_, .int .i64 r.kind, .int .i64 r.to, .int .i64 r.add], .int .i64 at_] w fun e w' =>
      Fit2 .i64 (becZ x r at_) e ∧ Below w.heap.size w w' := by
  have c0 := new_cell' w #[vc, vd, .int .i64 a, .int .i64 b, .int .i64 c] 30 0 _ rfl
  have UV : Hid (∀ o, Below w.heap.size w ((w.alloc (.cells #[vc, vd, .int .i64 a, .int .i64 b, .int .i64 c] 30)).alloc o)) := fun o => keep_alloc8 (keep_alloc8 (Below.refl _ _) _) _
  rcases h1 with ⟨k1, h1⟩ | ⟨k1, h1⟩
  · obtain ⟨p0, p1, p2⟩ := hp.fun_ h0 h1
    have hlen : r.to.toNat < x.code.length := by rw [hp.nc]; omega
    obtain ⟨ra, kind, to, add⟩ := r
    dsimp only at *
    obtain ⟨K, rfl⟩ : ∃ K : Nat, to = K := ⟨to.toNat, by omega⟩
    subst k1
    simp only [Int.toNat_natCast] at p0 hlen
    have hS : Hid (∀ W, Below w.heap.size w W → Calls Tryd.prog 25 #[vc, .int .i64 K] W fun e w' => ((0 ≤ plc x.code K ∧ e = .returned (.tuple #[.int .i64 (plc x.code K), .bool true])) ∨ (plc x.code K < 0 ∧ e = .returned (.tuple #[.int .i64 0, .bool false]))) ∧ w' = W) := fun W hW => stands_any (hc.later hW) K hlen p0
    obtain ⟨P, eP⟩ : ∃ P, plc x.code K = P := ⟨_, rfl⟩
    have hv : becZ x ⟨ra, 1, K, add⟩ at_ = if 0 ≤ P then some (P - at_ - 1) else none := by unfold becZ; rw [if_pos rfl, eP]
    rw [eP] at hS p1 p2
    generalize becZ x ⟨ra, 1, K, add⟩ at_ = B at hv ⊢
    have HB : Hid (B = if 0 ≤ P then some (P - at_ - 1) else none) := hv
    clear hc hd hp p0 hlen eP hv
    go_enter Tryd.func26, Tryd.ntmps26
    go_wp2_with (go_at_call 25; refine (hS.out _ (UV.out _)).mono ?_; rintro e w' ⟨⟨hP, rfl⟩ | ⟨hP, rfl⟩, rfl⟩)
    · exact bodyPost_ret (by simp [results, Tryd.results26, go_sem]) rfl ⟨.inl ⟨_, HB.out.trans (if_pos hP), rfl⟩, UV.out _⟩
    · exact bodyPost_ret (by simp [results, Tryd.results26, go_sem]) rfl ⟨.inr ⟨HB.out.trans (if_neg (by omega)), -at_ - 1, rfl⟩, UV.out _⟩
  · have hV : Hid (∀ W, Below w.heap.size w W → Calls Tryd.prog 29 #[.agg #[vc, vd, .int .i64 a, .int .i64 b, .int .i64 c], .agg #[.int .i64 r.at_, .int .i64 r.kind, .int .i64 r.to, .int .i64 r.add]] W fun e w' =>
      ((0 ≤ valZ x r ∧ e = .returned (.tuple #[.int .u32 (valZ x r), .bool true])) ∨ (valZ x r < 0 ∧ e = .returned (.tuple #[.int .u32 0, .bool false]))) ∧ Below W.heap.size W w') := fun W hW => value_any (hd.later hW) hp r h0 h1 h2 h3
    obtain ⟨p0, p1, p2⟩ := hp.val h0 h1
    have hr : valZ x r < 4294967296 := by unfold valZ; omega
    obtain ⟨V, eV⟩ : ∃ V, valZ x r = V := ⟨_, rfl⟩
    have hv : becZ x r at_ = if 0 ≤ V then some (if r.kind = 2 then V / 65536 else V % 65536) else none := by unfold becZ; rw [if_neg (by omega), eV]
    rw [eV] at hV hr
    generalize becZ x r at_ = B at hv ⊢
    have HB : Hid (B = if 0 ≤ V then some (if r.kind = 2 then V / 65536 else V % 65536) else none) := hv
    obtain ⟨ra, kind, to, add⟩ := r
    dsimp only at *
    clear hc hd hp p0 hv eV p1 p2
    rcases k1 with rfl | rfl
    · go_enter Tryd.func26, Tryd.ntmps26
      go_wp2_with (go_at_call 29; refine (hV.out _ (UV.out _)).mono ?_; rintro e w' ⟨⟨hP, rfl⟩ | ⟨hP, rfl⟩, hb⟩)
      · exact bodyPost_ret (by simp [results, Tryd.results26, go_sem]) rfl ⟨.inl ⟨V / 65536, by rw [HB.out, if_pos hP]; simp, rfl⟩, bnext (UV.out _) hb⟩
      · exact bodyPost_ret (by simp [results, Tryd.results26, go_sem]) rfl ⟨.inr ⟨HB.out.trans (if_neg (by omega)), 0, rfl⟩, bnext (UV.out _) hb⟩
    · by_cases hV0 : 0 ≤ V
      · have hand := and_low V hV0 hr
        go_enter Tryd.func26, Tryd.ntmps26
        go_wp2_with (go_at_call 29; refine (hV.out _ (UV.out _)).mono ?_; rintro e w' ⟨⟨hP, rfl⟩ | ⟨hP, rfl⟩, hb⟩)
        · exact bodyPost_ret (by simp [results, Tryd.results26, go_sem]) rfl ⟨.inl ⟨V % 65536, by rw [HB.out, if_pos hP]; simp, rfl⟩, bnext (UV.out _) hb⟩
        · omega
      · have hand0 : bits .and .u32 0 65535 = 0 := and_low 0 (by decide) (by decide)
        go_enter Tryd.func26, Tryd.ntmps26
        go_wp2_with (go_at_call 29; refine (hV.out _ (UV.out _)).mono ?_; rintro e w' ⟨⟨hP, rfl⟩ | ⟨hP, rfl⟩, hb⟩)
        · omega
        · exact bodyPost_ret (by simp [results, Tryd.results26, go_sem]) rfl ⟨.inr ⟨HB.out.trans (if_neg (by omega)), 0, rfl⟩, bnext (UV.out _) hb⟩
set_option maxRecDepth 100000 in
set_option maxHeartbeats 1000000 in
theorem with_any {w : World} (x imm : Int) (x0 : 0 ≤ x) (x1 : x < 4294967296) (hT : Tab w) :
    Calls Tryd.prog 27 #[.int .u32 x, .int .i64 imm] w fun e w' => Fit2 .u32 (withZ x imm) e ∧ Below w.heap.size w w' := by
  have hG : Hid (∀ W, Below w.heap.size w W → Calls Tryd.prog 42 #[.int .u32 x] W fun e w' => e = .returned (if okG x = true then .tuple #[.agg (insV (gO x) (gA x) (gB x) (gC x) (gI x)), .int .i64 0] else .tuple #[.agg (insV 0 0 0 0 0), .int .i64 3]) ∧ Below W.heap.size W w') := fun W hW => get_all x W x0 x1 (hT.later hW)
  by_cases hk : okG x = true
  · simp only [if_pos hk, insV] at hG
    have hP : Hid (∀ W, Below w.heap.size w W → Calls Tryd.prog 43 #[.agg #[.int .i64 (gO x), .int .i64 (gA x), .int .i64 (gB x), .int .i64 (gC x), .int .i64 imm]] W fun e w' => ((rightB (gO x) (gA x) (gB x) (gC x) imm = true ∧ e = .returned (.tuple #[.int .u32 (putZ (gO x) (gA x) (gB x) (gC x) imm), .int .i64 0])) ∨ (rightB (gO x) (gA x) (gB x) (gC x) imm = false ∧ e = .returned (.tuple #[.int .u32 0, .int .i64 3]))) ∧ Below W.heap.size W w') := fun W hW => by
      cases hr : rightB (gO x) (gA x) (gB x) (gC x) imm with
      | true => exact (put_yes _ _ _ _ _ W (hT.later hW) hr).mono fun e w' h => ⟨.inl ⟨rfl, h.1⟩, h.2⟩
      | false => exact (put_not _ _ _ _ _ W (hT.later hW) hr).mono fun e w' h => ⟨.inr ⟨rfl, h.1⟩, h.2⟩
    have hW : withZ x imm = if rightB (gO x) (gA x) (gB x) (gC x) imm = true then some (putZ (gO x) (gA x) (gB x) (gC x) imm) else none := by unfold withZ; simp [hk]
    generalize withZ x imm = B at hW ⊢
    generalize putZ (gO x) (gA x) (gB x) (gC x) imm = pz at hP hW
    generalize rightB (gO x) (gA x) (gB x) (gC x) imm = rb at hP hW
    generalize gO x = o, gA x = ga, gB x = gb, gC x = gc, gI x = gi at hG hP
    have HB : Hid (B = if rb = true then some pz else none) := hW
    clear hW hk
    go_enter Tryd.func27, Tryd.ntmps27
    go_wp2_with (first | (go_at_call 43; refine (hP.out _ (keep_alloc8 hb _)).mono ?_; rintro e w2 ⟨⟨hR, rfl⟩ | ⟨hR, rfl⟩, hb2⟩) | (go_at_call 42; refine (hG.out _ (by first | exact Below.refl _ _ | exact keep_alloc8 (Below.refl _ _) _)).mono ?_; rintro e w1 ⟨rfl, hb⟩))
    · exact bodyPost_ret (by simp [results, Tryd.results27, go_sem]) rfl ⟨.inl ⟨_, HB.out.trans (if_pos hR), rfl⟩, bnext (keep_alloc8 hb _) hb2⟩
    · exact bodyPost_ret (by simp [results, Tryd.results27, go_sem]) rfl ⟨.inr ⟨HB.out.trans (if_neg (by rw [hR]; decide)), 0, rfl⟩, bnext (keep_alloc8 hb _) hb2⟩
  · simp only [if_neg hk, insV] at hG
    have hW : withZ x imm = none := by unfold withZ; simp [hk]
    rw [hW]
    clear hW hk
    go_enter Tryd.func27, Tryd.ntmps27
    go_wp2_with (first | (go_at_call 42; refine (hG.out _ (by first | exact Below.refl _ _ | exact keep_alloc8 (Below.refl _ _) _)).mono ?_; rintro e w1 ⟨rfl, hb⟩))
    exact bodyPost_ret (by simp [results, Tryd.results27, go_sem]) rfl ⟨.inr ⟨rfl, 0, rfl⟩, keep_alloc8 hb _⟩
end Go.Proofs.YtombfnnpdamlgaaDoor
