/- For every list of words CodeAlls returns true: All answers the instructions of the words, or the place of the first that is none. The package variable shapes holds what the program's text lays there. -/
import Derived.Test.YtidfdhghgjdihaaDoorCodeFrame
import Derived.Test.YtidfdhghgjdihaaDoorCodeAll
import Derived.WalkKit
import Derived.ProofKit
namespace Go.Proofs.YtidfdhghgjdihaaDoor.codeAlls
open Go.ChangeShapes Go.WideShapes Go.ChangeAt Go.RowKit Go.Deep
set_option linter.unusedVariables false

theorem hid {p : Prop} (h : p) : Hid p := h
theorem walk_long (a : Option Addr) (len cap : Nat) (w : World) (hT : Tab w) (hl : 300 < len) (hm : len ≤ 9223372036854775807) :
    Calls Tryd.prog 5 #[.slice a len cap] w fun e w' => e = .returned (.bool true) ∧ Below w.heap.size w w' := by
  have HT : Hid (Tab w) := hT
  clear hT
  go_enter Tryd.func5, Tryd.ntmps5
  go_wp2_with fail
  refine (awake_any _ HT.out).mono ?_
  rintro e w1 ⟨rfl, hb1⟩
  have HB1 : Hid (Below w.heap.size w w1) := hb1
  clear hb1
  go_wp2_with fail
  refine (awake_any _ (HT.out.later HB1.out)).mono ?_
  rintro e w2 ⟨rfl, hb2⟩
  have HB2 : Hid (Below w.heap.size w w2) := HB1.out.trans (hb2.mono HB1.out.size)
  clear hb2
  go_wp2
  go_ret
  exact ⟨rfl, HB2.out⟩

/-- Out of what the two readings answer: alike, and Same says so. -/
theorem walk_core (a : Option Addr) (len cap : Nat) (w : World) (hT : Tab w) (hl : len ≤ 300) (at1 : Int)
    (P1 : World → Value → Prop) (P2 : World → Value → Value → Prop)
    (hA : ∀ wx, Below w.heap.size w wx → Calls Tryd.prog 16 #[.slice a len cap] wx fun e w' => ∃ v, e = .returned (.tuple #[v, .int .i64 at1]) ∧ P1 w' v ∧ Below wx.heap.size wx w')
    (hR : ∀ wx v1, Below w.heap.size w wx → P1 wx v1 → Calls Tryd.prog 17 #[.slice a len cap] wx fun e w' => ∃ v, e = .returned (.tuple #[v, .int .i64 at1]) ∧ P2 w' v1 v ∧ Below wx.heap.size wx w')
    (hS : ∀ wx v1 v2, P2 wx v1 v2 → Calls Tryd.prog 18 #[v1, v2] wx fun e w' => e = .returned (.bool true) ∧ Below wx.heap.size wx w') :
    Calls Tryd.prog 5 #[.slice a len cap] w fun e w' => e = .returned (.bool true) ∧ Below w.heap.size w w' := by
  have HT : Hid (Tab w) := hT
  have HA := hid hA
  have HR := hid hR
  have HS := hid hS
  clear hT hA hR hS
  go_enter Tryd.func5, Tryd.ntmps5
  go_wp2_with fail
  refine (awake_any _ HT.out).mono ?_
  rintro e w1 ⟨rfl, hb1⟩
  have HB1 : Hid (Below w.heap.size w w1) := hb1
  clear hb1
  go_wp2_with fail
  refine Calls.mono (HA.out _ HB1.out) ?_
  rintro e w2 ⟨v1, rfl, hp, hb2⟩
  have HP1 : Hid (P1 w2 v1) := hp
  have HB2 : Hid (Below w.heap.size w w2) := HB1.out.trans (hb2.mono HB1.out.size)
  clear hb2 hp
  go_wp2_with fail
  refine Calls.mono (HR.out _ v1 HB2.out HP1.out) ?_
  rintro e w3 ⟨v2, rfl, hp, hb3⟩
  have HP2 : Hid (P2 w3 v1 v2) := hp
  have HB3 : Hid (Below w.heap.size w w3) := HB2.out.trans (hb3.mono HB2.out.size)
  clear hb3 hp
  go_wp2_with fail
  refine Calls.mono (HS.out _ v1 v2 HP2.out) ?_
  rintro e w4 ⟨rfl, hb4⟩
  have HB4 : Hid (Below w.heap.size w w4) := HB3.out.trans (hb4.mono HB3.out.size)
  clear hb4
  go_wp2
  go_ret
  exact ⟨rfl, HB4.out⟩

theorem walk_all (w0 : World) (a : Option Addr) (len cap : Nat) (zs : List Int) (hz : IsRow .u32 w0 a len cap zs) (hT : Tab w0) :
    Calls Tryd.prog 5 #[.slice a len cap] w0 fun e w' => e = .returned (.bool true) ∧ Below w0.heap.size w0 w' := by
  by_cases hl : 300 < len
  · exact walk_long a len cap w0 hT hl (row_len hz)
  by_cases h0 : len = 0
  · subst h0
    refine walk_core a 0 cap w0 hT (by omega) (-1) (fun _ v => ∃ g, v = .slice (some ⟨g, 0, none⟩) 0 0) (fun _ v u => (∃ g, v = .slice (some ⟨g, 0, none⟩) 0 0) ∧ u = .slice none 0 0) ?_ ?_ ?_
    · intro wx hx
      exact (all_nil wx a cap).mono fun e w' ⟨he, hb⟩ => ⟨_, he, ⟨_, rfl⟩, hb⟩
    · intro wx v1 hx hp
      exact (rall_nil wx a cap).mono fun e w' ⟨he, hb⟩ => ⟨_, he, ⟨hp, rfl⟩, hb⟩
    · rintro wx v1 v2 ⟨⟨g, rfl⟩, rfl⟩
      exact same_empty wx _ _ _ _
  · obtain ⟨b, off, rfl, hf, hc⟩ := row_words hz h0
    obtain ⟨n, hn, hok, hbad⟩ := first_bad (fun i => zs.getD i 0) len
    by_cases hlt : n < len
    · refine walk_core _ len cap w0 hT (by omega) n (fun _ v => v = .slice none 0 0) (fun _ v u => v = .slice none 0 0 ∧ u = .slice none 0 0) ?_ ?_ ?_
      · intro wx hx
        refine (all_any wx b off len cap n (fun i => zs.getD i 0) (by omega) (hT.later hx) hf (fun i hi => cell_later hx (hc i hi)) hok hn hbad).mono ?_
        rintro e w' ⟨⟨h, _⟩ | ⟨_, he⟩, hb⟩
        · omega
        · exact ⟨_, he, rfl, hb⟩
      · intro wx v1 hx hp
        refine (rall_any wx b off len cap n (fun i => zs.getD i 0) (by omega) hf (fun i hi => cell_later hx (hc i hi)) hok hn hbad).mono ?_
        rintro e w' ⟨⟨h, _⟩ | ⟨_, he⟩, hb⟩
        · omega
        · exact ⟨_, he, ⟨hp, rfl⟩, hb⟩
      · rintro wx v1 v2 ⟨rfl, rfl⟩
        exact same_empty wx _ _ _ _
    · obtain rfl : n = len := by omega
      refine walk_core _ n cap w0 hT (by omega) (-1) (fun wx v => ∃ g, v = .slice (some ⟨g, 0, none⟩) n n ∧ RowAt wx g n (fun i => zs.getD i 0)) (fun wx v u => (∃ g, v = .slice (some ⟨g, 0, none⟩) n n ∧ RowAt wx g n (fun i => zs.getD i 0)) ∧ ∃ g c, u = .slice (some ⟨g, 0, none⟩) n c ∧ RowAt wx g n (fun i => zs.getD i 0)) ?_ ?_ ?_
      · intro wx hx
        refine (all_any wx b off n cap n (fun i => zs.getD i 0) (by omega) (hT.later hx) hf (fun i hi => cell_later hx (hc i hi)) hok hn hbad).mono ?_
        rintro e w' ⟨⟨_, he, hm⟩ | ⟨h, _⟩, hb⟩
        · exact ⟨_, he, ⟨_, rfl, hm.1⟩, hb⟩
        · omega
      · rintro wx v1 hx ⟨g, rfl, hrow⟩
        refine (rall_any wx b off n cap n (fun i => zs.getD i 0) (by omega) hf (fun i hi => cell_later hx (hc i hi)) hok hn hbad).mono ?_
        rintro e w' ⟨⟨_, ⟨h, _⟩ | ⟨g2, c2, he, hrow2⟩⟩ | ⟨h, _⟩, hb⟩
        · omega
        · exact ⟨_, he, ⟨⟨g, rfl, hrow.later hb⟩, ⟨g2, c2, rfl, hrow2⟩⟩, hb⟩
        · omega
      · rintro wx v1 v2 ⟨⟨g, rfl, hrow⟩, ⟨g2, c2, rfl, hrow2⟩⟩
        exact same_rows wx g g2 n n c2 (fun i => zs.getD i 0) (by omega) hrow hrow2
theorem walk (a : Option Addr) (len cap : Nat) (zs : List Int) {W : World} (hz : IsRow .u32 W a len cap zs) (_w : World) (hT : Tab W) :
    Calls Tryd.prog 5 #[.slice a len cap] W fun e w' => e = .returned (.bool true) ∧ Below W.heap.size W w' := walk_all W a len cap zs hz hT

/-! ### The row's step -/
set_option maxRecDepth 100000 in
theorem lifted (os : Os) (started : os.Started) (H : Type) (enc : TypeId × Value → H) :
    ReturnsInHanded {} Tryd.checked os 5 .any (fun w args => (Rows.codeAllsSpec.pre enc Tryd.prog Tryd.f5 [] false w args ∧ laidMetH Tryd.prog laidL w) ∧ sizedMet enc Tryd.prog Tryd.f5 (OpenSpec.ofChange Rows.codeAllsSpec) false w args)
      (Rows.codeAllsSpec.post enc Tryd.prog Tryd.f5 false true false false) := by
  refine returnsInHanded_of_change_and (C := Tryd.checked) (X := fun w _ => laidMetH Tryd.prog laidL w) (fun _ _ _ hh h => h.of_heap hh) own started (by kernel_rfl) Tryd.func5
    (ChangeSpec.witness_shaped (enc := enc) (C := Tryd.checked) (os := os) (X := fun w _ => laidMetH Tryd.prog laidL w) false (World.doorLaid Tryd.prog 40 os) #[.slice none 0 0] 8 rfl (World.shaped_of_RefB (by kernel_rfl) (by kernel_rfl)) (by kernel_rfl) (by kernel_rfl) (by kernel_rfl) (door_met os _)) ?_
  intro W base args ds gs before hval0 hW _ _ hL _
  have hval : ∀ (j : Nat) t v, Tryd.f5.params[j]? = some t → args[j]? = some v → Value.okWide Tryd.prog W .any base t v := hval0
  have hW' := hW
  obtain ⟨p, q, hA0, hV, rfl, hfz, hnd⟩ := hW
  have hA : DataW.TrodAll enc Tryd.prog W 0 (fun _ => true) true Tryd.f5.params.toList args.toList ds p := hA0
  rw [Tryd.params5] at hA hval
  obtain ⟨v0, vs0, d0, ds0, p0, q0, hargs, rfl, rfl, h0, r0⟩ := trodAll_cons hA
  obtain ⟨rfl, rfl, rfl⟩ := trodAll_nil r0
  obtain rfl : args = #[v0] := by cases args; simp_all
  obtain ⟨rfl, rfl⟩ := trodVars_none hV
  have hT := tab_of hL
  obtain ⟨a0, len0, cap0, rfl⟩ := okWide_slice Tryd.underlying36 (hval 0 36 v0 rfl rfl)
  have k0 := h0
  have lt0 : ∀ x ∈ p0, x.block < W.heap.size := by obtain ⟨m, hm⟩ := k0; exact DataW.trod_lt m _ _ _ hm
  obtain ⟨z0, w0⟩ : ∃ zs, IsRow .u32 W a0 len0 cap0 zs := by
    obtain ⟨fuel, hf⟩ := h0
    rcases open_ints Tryd.underlying36 Tryd.underlying24 (by kernel_rfl) hf with ⟨hcs, _⟩ | ⟨x, l, c, zs, hcs, _, hl, hm, hz, _, hcell, hwz⟩
    · simp [Value.cells] at hcs
      obtain ⟨rfl, rfl, rfl⟩ := hcs
      exact ⟨[], .inl ⟨rfl, rfl, rfl, rfl⟩⟩
    · simp [Value.cells] at hcs
      obtain ⟨rfl, rfl, rfl⟩ := hcs
      exact ⟨zs, .inr ⟨_, rfl, hl, hm, by simpa using hz, hcell, hwz⟩⟩
  clear hA0 hval0
  refine (walk a0 len0 cap0 z0 w0 W hT).mono fun e W' ⟨he, bel⟩ => ?_
  subst he
  exact ⟨_, rfl, _, _, _, [], _, [], hW', trodAll_mk1 (shut_bool Tryd.underlying4 _), (trodAll_cons_mk (Below.trod laidOut (by kernel_rfl) (of_decide_eq_true (by kernel_rfl)) k0 bel lt0) trodAll_mk0), rfl, bel.frame _, fun h => by cases h⟩

theorem over : Rows.CodeAllsSaid :=
  OpenClaim.holds_of_wide 5 Tryd.f5 rfl rfl rfl rfl rfl rfl rfl ⟨rfl, rfl, rfl, rfl, rfl⟩ rfl rfl rfl rfl rfl (by kernel_rfl) Tryd.func5 (by kernel_rfl)
    (of_decide_eq_true (by kernel_rfl)) (by unfold Func.isWrapper; first | (rw [if_pos (by decide +kernel)]; kernel_rfl) | (rw [if_neg (by decide +kernel)]; exact ⟨rfl, rfl⟩))
    (fun os started H enc _ => lifted os started H enc)

/-- The tied card. -/
theorem card : Rows.CodeAllsCardSaid :=
  Claim7.holds_tied_plain_at .later [] [.data] true (true, "c7c58821a59dc2a96b18077de35e0cd15e8cbe4c0613160f2601e06160b0d7f5") false
    over (fun _ h => by cases h) (by kernel_rfl) (fun _ h => by cases h) codeAlls_row_tie rfl ⟨rfl, rfl⟩ (by kernel_rfl) rfl
    (fun f fn hf hfn => by
      obtain rfl : f = 5 := Option.some.inj ((show Tryd.prog.funcNamed "splice/splicelaw02.CodeAlls" = some 5 by kernel_rfl).symm.trans hf) |>.symm
      obtain rfl : fn = Tryd.f5 := (Option.some.inj (Tryd.func5.symm.trans hfn)).symm
      exact ⟨by kernel_rfl, fun j t ht => by
        rw [Tryd.params5] at ht
        have hm : t ∈ [36] := by simpa using Array.mem_of_getElem? ht
        have hall : ([36].all fun u => !Tryd.prog.wantsStandIn u) = true := by kernel_rfl
        exact (show Tryd.prog.wantsStandIn t = false by simpa using List.all_eq_true.1 hall t hm)⟩)
    (by kernel_rfl)
end Go.Proofs.YtidfdhghgjdihaaDoor.codeAlls

namespace Go.Proofs.YtidfdhghgjdihaaDoor
theorem CodeAlls_holds : Rows.CodeAllsCardSaid := codeAlls.card
#print axioms CodeAlls_holds
end Go.Proofs.YtidfdhghgjdihaaDoor
