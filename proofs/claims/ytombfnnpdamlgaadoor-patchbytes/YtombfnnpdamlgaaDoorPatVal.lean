/- What a relocation's value, Imm and word are, as the code has it. -/
import Derived.Test.YtombfnnpdamlgaaDoorPatMath
import Derived.Test.YtombfnnpdamlgaaDoorPlcAll
import Derived.Test.YtombfnnpdamlgaaDoorCodeGet
import Derived.BigQuiet
namespace Go.Proofs.YtombfnnpdamlgaaDoor
open Go.ChangeShapes Go.WideShapes Go.ChangeAt Go.RowKit
set_option linter.unusedVariables false
set_option linter.unusedSimpArgs false
theorem stands_any {w : World} {v : Value} {l : List Int} (h : IsNums w v l) (k : Nat) (hk : k < l.length) {x : Int} (hx : l[k]? = some x) :
    Calls Tryd.prog 25 #[v, .int .i64 k] w fun e w' => ((0 ≤ x ∧ e = .returned (.tuple #[.int .i64 x, .bool true])) ∨ (x < 0 ∧ e = .returned (.tuple #[.int .i64 0, .bool false]))) ∧ w' = w := by
  obtain ⟨a, c, rfl, hm, -, hx'⟩ := LstA.open h
  obtain ⟨b, off, y, rfl, -, hy, hc⟩ := hx' k hk
  rw [hx] at hy
  injection hy with hy
  subst hy
  obtain ⟨n, en⟩ : ∃ n, l.length = n := ⟨_, rfl⟩
  rw [en] at hk hm ⊢
  have hc' : w.cell? ⟨b, off + k, none⟩ = some (.int .i64 x) := by have := hc; rwa [Nat.mul_one] at this
  have hm' := may_len hm
  have hk' : (k : Int) < n := by omega
  clear hc h hx' hx en
  rcases (by omega : 0 ≤ x ∨ x < 0) with hp | hn
  · go_enter Tryd.func25, Tryd.ntmps25
    go_wp2
    exact bodyPost_ret (by simp [results, Tryd.results25, go_sem]) rfl ⟨.inl ⟨hp, rfl⟩, rfl⟩
  · go_enter Tryd.func25, Tryd.ntmps25
    go_wp2
    exact bodyPost_ret (by simp [results, Tryd.results25, go_sem]) rfl ⟨.inr ⟨hn, rfl⟩, rfl⟩
set_option maxRecDepth 100000 in
theorem value_any {w : World} {vc vd : Value} {a b c : Int} {x : PlanZ} {nf nd : Nat} (hd : IsNums w vd x.data) (hp : PlanOk nf nd x) (r : PRelM) (h0 : 0 ≤ r.to) (h1 : r.to < nd) (h2 : -1048576 ≤ r.add) (h3 : r.add ≤ 1048576) :
    Calls Tryd.prog 29 #[.agg #[vc, vd, .int .i64 a, .int .i64 b, .int .i64 c], .agg #[.int .i64 r.at_, .int .i64 r.kind, .int .i64 r.to, .int .i64 r.add]] w fun e w' =>
      ((0 ≤ valZ x r ∧ e = .returned (.tuple #[.int .u32 (valZ x r), .bool true])) ∨ (valZ x r < 0 ∧ e = .returned (.tuple #[.int .u32 0, .bool false]))) ∧ Below w.heap.size w w' := by
  obtain ⟨p0, p1, p2⟩ := hp.val h0 h1
  have hlen : r.to.toNat < x.data.length := by rw [hp.nd]; omega
  obtain ⟨at_, kind, to, add⟩ := r
  dsimp only at *
  obtain ⟨K, rfl⟩ : ∃ K : Nat, to = K := ⟨to.toNat, by omega⟩
  simp only [Int.toNat_natCast] at p0 hlen
  have hS : Hid (∀ W, Below w.heap.size w W → Calls Tryd.prog 25 #[vd, .int .i64 K] W fun e w' => e = .returned (.tuple #[.int .i64 (plc x.data K), .bool true]) ∧ w' = W) := fun W hW => (stands_any (hd.later hW) K hlen p0).mono fun e w' h => by
    rcases h with ⟨h | h, hw⟩
    · exact ⟨h.2, hw⟩
    · omega
  obtain ⟨P, eP⟩ : ∃ P, plc x.data K = P := ⟨_, rfl⟩
  have hv : valZ x ⟨at_, kind, K, add⟩ = 65536 + P + add := by unfold valZ; rw [eP]
  rw [hv]
  rw [eP] at hS p1 p2
  have hA : Hid (∀ W, Calls Tryd.prog 20 #[.int .i64 P] W fun e w' => e = .returned (.int .u32 (65536 + P)) ∧ w' = W) := fun W => address_any P W p1 p2
  have c0 := new_cell' w #[vc, vd, .int .i64 a, .int .i64 b, .int .i64 c] 30 1 _ rfl
  have UV : ∀ o, Below w.heap.size w ((w.alloc (.cells #[vc, vd, .int .i64 a, .int .i64 b, .int .i64 c] 30)).alloc o) := fun o => keep_alloc8 (keep_alloc8 (Below.refl _ _) _) _
  clear hd hp p0 hlen eP hv
  rcases (by omega : 0 ≤ 65536 + P + add ∨ 65536 + P + add < 0) with hp | hn
  · have hs : IntKind.u32.wrap (65536 + P + add) = 65536 + P + add := by rw [IntKind.wrap_u32]; omega
    go_enter Tryd.func29, Tryd.ntmps29
    go_wp2_with (go_at_call 25; refine (hS.out _ (UV _)).mono ?_; rintro e w' ⟨rfl, rfl⟩)
    go_quiet ((go_at_call 20; exact Calls.quiet_of_same (hA.out _)))
    go_wp2
    exact bodyPost_ret (by simp [results, Tryd.results29, go_sem]) rfl ⟨.inl ⟨hp, rfl⟩, below_drewN (UV _) _⟩
  · go_enter Tryd.func29, Tryd.ntmps29
    go_wp2_with (go_at_call 25; refine (hS.out _ (UV _)).mono ?_; rintro e w' ⟨rfl, rfl⟩)
    go_quiet ((go_at_call 20; exact Calls.quiet_of_same (hA.out _)))
    go_wp2
    exact bodyPost_ret (by simp [results, Tryd.results29, go_sem]) rfl ⟨.inr ⟨hn, rfl⟩, below_drewN (UV _) _⟩
end Go.Proofs.YtombfnnpdamlgaaDoor
