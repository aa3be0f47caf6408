/- For every list of words CodeKeeps returns true: All leaves what is handed in as it was, and what it answers is new memory. The package variable shapes holds what the program's text lays there. -/
import Derived.Test.YtidfdhghgjdihaaDoorCodeFrame
import Derived.Test.YtidfdhghgjdihaaDoorCodeKeep
import Derived.WalkKit
import Derived.ProofKit
namespace Go.Proofs.YtidfdhghgjdihaaDoor.codeKeeps
open Go.ChangeShapes Go.WideShapes Go.ChangeAt Go.RowKit Go.Deep
set_option linter.unusedVariables false

theorem hid {p : Prop} (h : p) : Hid p := h
theorem walk_long (a : Option Addr) (len cap : Nat) (w : World) (hT : Tab w) (hl : 300 < len) (hm : len ≤ 9223372036854775807) :
    Calls Tryd.prog 7 #[.slice a len cap] w fun e w' => e = .returned (.bool true) ∧ Below w.heap.size w w' := by
  have HT : Hid (Tab w) := hT
  clear hT
  go_enter Tryd.func7, Tryd.ntmps7
  go_wp2_with fail
  refine (awake_any _ HT.out).mono ?_
  rintro e w1 ⟨rfl, hb1⟩
  have HB1 : Hid (Below w.heap.size w w1) := hb1
  clear hb1
  go_wp2_with fail
  refine (awake_any _ (HT.out.later HB1.out)).mono ?_
  rintro e w2 ⟨rfl, hb2⟩
  have HB2 : Hid (Below w.heap.size w w2) := HB1.out.trans (hb2.mono HB1.out.size)
  clear hb2
  go_wp2
  go_ret
  exact ⟨rfl, HB2.out⟩
set_option maxHeartbeats 2000000 in
theorem walk_ok (b off len cap : Nat) (f : Nat → Int) (w : World) (hT : Tab w) (hm : len ≤ 300) (h0 : len ≠ 0) (hc : ∀ i, i < len → w.cell? ⟨b, off + i, none⟩ = some (.int .u32 (f i))) (at1 : Int) (P1 : World → Value → Prop) (P2 : World → Value → Value → Prop)
    (hA : ∀ wx, Below w.heap.size w wx → Calls Tryd.prog 16 #[.slice (some ⟨b, off, none⟩) len cap] wx fun e w' => e = .returned (.tuple #[.slice (some ⟨wx.heap.size, 0, none⟩) len len, .int .i64 at1]) ∧ Room w' wx.heap.size len ∧ Below wx.heap.size wx w')
    (hY : ∀ wx, Below w.heap.size w wx → Calls Tryd.prog 16 #[.slice (some ⟨b, off, none⟩) len cap] wx fun e w' => ∃ v, e = .returned (.tuple #[v, .int .i64 at1]) ∧ P1 w' v ∧ Below wx.heap.size wx w')
    (hR : ∀ wx v1, Below w.heap.size w wx → P1 wx v1 → Calls Tryd.prog 17 #[.slice (some ⟨b, off, none⟩) len cap] wx fun e w' => ∃ v, e = .returned (.tuple #[v, .int .i64 at1]) ∧ P2 w' v1 v ∧ Below wx.heap.size wx w')
    (hS : ∀ wx v1 v2, P2 wx v1 v2 → Calls Tryd.prog 18 #[v1, v2] wx fun e w' => e = .returned (.bool true) ∧ Below wx.heap.size wx w')
    (hP : ∀ wx wy v1 v2, Below wx.heap.size wx wy → P2 wx v1 v2 → P2 wy v1 v2) :
    Calls Tryd.prog 7 #[.slice (some ⟨b, off, none⟩) len cap] w fun e w' => e = .returned (.bool true) ∧ Below w.heap.size w w' := by
  obtain ⟨i1, hi, hz0, hz1, hz2⟩ := info_parts info24
  have HT : Hid (Tab w) := hT
  have HA := hid hA
  have HY := hid hY
  have HR := hid hR
  have HS := hid hS
  have HP := hid hP
  have HC : Hid (∀ i, i < len → w.cell? ⟨b, off + i, none⟩ = some (.int .u32 (f i))) := hc
  have hpos : 0 < len := by omega
  clear hc h0
  clear hT hA hY hR hS hP
  go_enter Tryd.func7, Tryd.ntmps7
  go_wp2_with fail
  refine (awake_any _ HT.out).mono ?_
  rintro e w1 ⟨rfl, hb1⟩
  have HB1 : Hid (Below w.heap.size w w1) := hb1
  have HL : Hid ((w1.alloc (.cells #[] 24)).ownsRow w.heap.size 24 1 (.slice (some ⟨w1.heap.size, 0, none⟩) 0 0) 0 []) := World.ownsRow_lit w1 #[] 0 HB1.out.size (by omega) rfl
  clear hb1
  have HN : Hid (∀ (j : Nat) u, ((List.range len).map fun i => Value.int .u32 (f i))[j]? = some u → (w1.alloc (.cells #[] 24)).cell? ((⟨b, off, none⟩ : Addr).add j) = some u) := by
    intro j u hj
    have hj' : j < len := by
      have := (List.getElem?_eq_some_iff.1 hj).1
      simpa using this
    have e : (⟨b, off, none⟩ : Addr).add j = ⟨b, off + j, none⟩ := by cases j <;> simp [Addr.add]
    rw [e]
    have hu : u = .int .u32 (f j) := by simpa [hj'] using hj.symm
    rw [hu]
    exact cell_later (HB1.out.alloc HB1.out.size _) (HC.out j hj')
  go_wp2_with (at_builtin; refine wpList_append_own _ rfl _ _ 36 rfl w.heap.size 24 i1 _ 1 4 Tryd.underlying36 hi hz0 hz1 hz2 rfl (by decide) _ 0 [] rfl HL.out ⟨b, off, none⟩ len cap ((List.range len).map fun i => Value.int .u32 (f i)) rfl (by simp) HN.out ?c2 ?c3 ?c4 ?c5 ?_)
  case c2 => intro u hu; simp at hu; obtain ⟨_, _, rfl⟩ := hu; rfl
  case c3 => unfold maxLen; omega
  case c4 => omega
  case c5 => have := HB1.out.size; simp; omega
  intro v' w2 hown' hgrow hnil
  have HWas : Hid (∃ g c, v' = .slice (some ⟨g, 0, none⟩) len c ∧ (∀ i, i < len → w2.cell? ⟨g, i, none⟩ = some (.int .u32 (f i)))) := owned_words hown' hnil
  have HB2 : Hid (Below w.heap.size w w2) := (HB1.out.alloc HB1.out.size _).grown hgrow (by have := HB1.out.size; simp; omega) (fun q hq => (HL.out.lt q hq).1)
  clear hown' hgrow hnil
  go_wp2_with fail
  refine Calls.mono (HA.out _ HB2.out) ?_
  rintro e w3 ⟨rfl, hroom, hb3⟩
  have HRm : Hid (Room w3 w2.heap.size len) := hroom
  have HB3 : Hid (Below w2.heap.size w2 w3) := hb3
  clear hroom hb3
  go_wp2_with fail
  go_loopw [6] (fun i wr => ∃ k : Nat, k ≤ len ∧ i = .int .i64 k ∧ Room wr w2.heap.size len ∧ Below w2.heap.size w2 wr) (fun i _ => len - (intOf i).toNat)
  case atStart => exact ⟨0, by omega, rfl, HRm.out, HB3.out⟩
  case round =>
    obtain ⟨k, hk, rfl, hroom, hbel⟩ := hrel
    have HRk : Hid (Room wr w2.heap.size len) := hroom
    have HB4 : Hid (Below w2.heap.size w2 wr) := hbel
    clear hroom hbel
    by_cases hlt : k < len
    · obtain ⟨v0, d0⟩ := HRk.out.1 (k * 5) (by omega)
      have hfr := HRk.out.2.1
      go_wp2
      go_roundw
      case rel => exact ⟨k + 1, by omega, by go_num, HRk.out.step _ _, HB4.out.setCell (p := ⟨w2.heap.size, _, none⟩) (Nat.le_refl _) _⟩
      case measure => simp [intOf]; omega
    · obtain rfl : k = len := by omega
      have HB5 : Hid (Below w.heap.size w wr) := HB2.out.trans (HB4.out.mono HB2.out.size)
      go_wp2_with fail
      refine Calls.mono (HY.out _ HB5.out) ?_
      rintro e w5 ⟨v1, rfl, hp, hb6⟩
      have HP1 : Hid (P1 w5 v1) := hp
      have HB6 : Hid (Below w2.heap.size w2 w5) := HB4.out.trans (hb6.mono HB4.out.size)
      clear hb6 hp
      go_wp2_with fail
      refine Calls.mono (HR.out _ v1 (HB2.out.trans (HB6.out.mono HB2.out.size)) HP1.out) ?_
      rintro e w6 ⟨v2, rfl, hp, hb7⟩
      have HP2 : Hid (P2 w6 v1 v2) := hp
      have HB7 : Hid (Below w2.heap.size w2 w6) := HB6.out.trans (hb7.mono HB6.out.size)
      clear hb7 hp
      go_wp2_with fail
      obtain ⟨g, c, hv, hcell⟩ := HWas.out
      have HCW := hid hcell
      rw [hv]
      clear hv hcell
      refine (words_rows w6 b off g k cap c f hm (fun i hi => cell_later (HB2.out.trans (HB7.out.mono HB2.out.size)) (HC.out i hi)) (fun i hi => cell_later HB7.out (HCW.out i hi))).mono ?_
      rintro e w7 ⟨rfl, hb8⟩
      have HP3 : Hid (P2 w7 v1 v2) := HP.out _ _ _ _ hb8 HP2.out
      have HB8 : Hid (Below w2.heap.size w2 w7) := HB7.out.trans (hb8.mono HB7.out.size)
      clear hb8
      go_wp2_with fail
      refine Calls.mono (HS.out _ v1 v2 HP3.out) ?_
      rintro e w8 ⟨rfl, hb9⟩
      have HB9 : Hid (Below w2.heap.size w2 w8) := HB8.out.trans (hb9.mono HB8.out.size)
      clear hb9
      go_wp2
      go_ret
      exact ⟨rfl, HB2.out.trans (HB9.out.mono HB2.out.size)⟩
set_option maxHeartbeats 2000000 in
theorem walk_bad (b off len cap : Nat) (f : Nat → Int) (w : World) (hT : Tab w) (hm : len ≤ 300) (h0 : len ≠ 0) (hc : ∀ i, i < len → w.cell? ⟨b, off + i, none⟩ = some (.int .u32 (f i))) (at1 : Int) (P1 : World → Value → Prop) (P2 : World → Value → Value → Prop)
    (hA : ∀ wx, Below w.heap.size w wx → Calls Tryd.prog 16 #[.slice (some ⟨b, off, none⟩) len cap] wx fun e w' => e = .returned (.tuple #[.slice none 0 0, .int .i64 at1]) ∧ Below wx.heap.size wx w')
    (hY : ∀ wx, Below w.heap.size w wx → Calls Tryd.prog 16 #[.slice (some ⟨b, off, none⟩) len cap] wx fun e w' => ∃ v, e = .returned (.tuple #[v, .int .i64 at1]) ∧ P1 w' v ∧ Below wx.heap.size wx w')
    (hR : ∀ wx v1, Below w.heap.size w wx → P1 wx v1 → Calls Tryd.prog 17 #[.slice (some ⟨b, off, none⟩) len cap] wx fun e w' => ∃ v, e = .returned (.tuple #[v, .int .i64 at1]) ∧ P2 w' v1 v ∧ Below wx.heap.size wx w')
    (hS : ∀ wx v1 v2, P2 wx v1 v2 → Calls Tryd.prog 18 #[v1, v2] wx fun e w' => e = .returned (.bool true) ∧ Below wx.heap.size wx w')
    (hP : ∀ wx wy v1 v2, Below wx.heap.size wx wy → P2 wx v1 v2 → P2 wy v1 v2) :
    Calls Tryd.prog 7 #[.slice (some ⟨b, off, none⟩) len cap] w fun e w' => e = .returned (.bool true) ∧ Below w.heap.size w w' := by
  obtain ⟨i1, hi, hz0, hz1, hz2⟩ := info_parts info24
  have HT : Hid (Tab w) := hT
  have HA := hid hA
  have HY := hid hY
  have HR := hid hR
  have HS := hid hS
  have HP := hid hP
  have HC : Hid (∀ i, i < len → w.cell? ⟨b, off + i, none⟩ = some (.int .u32 (f i))) := hc
  have hpos : 0 < len := by omega
  clear hc h0
  clear hT hA hY hR hS hP
  go_enter Tryd.func7, Tryd.ntmps7
  go_wp2_with fail
  refine (awake_any _ HT.out).mono ?_
  rintro e w1 ⟨rfl, hb1⟩
  have HB1 : Hid (Below w.heap.size w w1) := hb1
  have HL : Hid ((w1.alloc (.cells #[] 24)).ownsRow w.heap.size 24 1 (.slice (some ⟨w1.heap.size, 0, none⟩) 0 0) 0 []) := World.ownsRow_lit w1 #[] 0 HB1.out.size (by omega) rfl
  clear hb1
  have HN : Hid (∀ (j : Nat) u, ((List.range len).map fun i => Value.int .u32 (f i))[j]? = some u → (w1.alloc (.cells #[] 24)).cell? ((⟨b, off, none⟩ : Addr).add j) = some u) := by
    intro j u hj
    have hj' : j < len := by
      have := (List.getElem?_eq_some_iff.1 hj).1
      simpa using this
    have e : (⟨b, off, none⟩ : Addr).add j = ⟨b, off + j, none⟩ := by cases j <;> simp [Addr.add]
    rw [e]
    have hu : u = .int .u32 (f j) := by simpa [hj'] using hj.symm
    rw [hu]
    exact cell_later (HB1.out.alloc HB1.out.size _) (HC.out j hj')
  go_wp2_with (at_builtin; refine wpList_append_own _ rfl _ _ 36 rfl w.heap.size 24 i1 _ 1 4 Tryd.underlying36 hi hz0 hz1 hz2 rfl (by decide) _ 0 [] rfl HL.out ⟨b, off, none⟩ len cap ((List.range len).map fun i => Value.int .u32 (f i)) rfl (by simp) HN.out ?c2 ?c3 ?c4 ?c5 ?_)
  case c2 => intro u hu; simp at hu; obtain ⟨_, _, rfl⟩ := hu; rfl
  case c3 => unfold maxLen; omega
  case c4 => omega
  case c5 => have := HB1.out.size; simp; omega
  intro v' w2 hown' hgrow hnil
  have HWas : Hid (∃ g c, v' = .slice (some ⟨g, 0, none⟩) len c ∧ (∀ i, i < len → w2.cell? ⟨g, i, none⟩ = some (.int .u32 (f i)))) := owned_words hown' hnil
  have HB2 : Hid (Below w.heap.size w w2) := (HB1.out.alloc HB1.out.size _).grown hgrow (by have := HB1.out.size; simp; omega) (fun q hq => (HL.out.lt q hq).1)
  clear hown' hgrow hnil
  go_wp2_with fail
  refine Calls.mono (HA.out _ HB2.out) ?_
  rintro e w3 ⟨rfl, hb3⟩
  have HB3 : Hid (Below w2.heap.size w2 w3) := hb3
  clear hb3
  go_wp2_with fail
  go_loopw [6] (fun i wr => i = .int .i64 0 ∧ Below w2.heap.size w2 wr) (fun i _ => 0)
  case atStart => exact ⟨rfl, HB3.out⟩
  case round =>
    obtain ⟨rfl, hbel⟩ := hrel
    have HB4 : Hid (Below w2.heap.size w2 wr) := hbel
    clear hbel
    have HB5 : Hid (Below w.heap.size w wr) := HB2.out.trans (HB4.out.mono HB2.out.size)
    go_wp2_with fail
    refine Calls.mono (HY.out _ HB5.out) ?_
    rintro e w5 ⟨v1, rfl, hp, hb6⟩
    have HP1 : Hid (P1 w5 v1) := hp
    have HB6 : Hid (Below w2.heap.size w2 w5) := HB4.out.trans (hb6.mono HB4.out.size)
    clear hb6 hp
    go_wp2_with fail
    refine Calls.mono (HR.out _ v1 (HB2.out.trans (HB6.out.mono HB2.out.size)) HP1.out) ?_
    rintro e w6 ⟨v2, rfl, hp, hb7⟩
    have HP2 : Hid (P2 w6 v1 v2) := hp
    have HB7 : Hid (Below w2.heap.size w2 w6) := HB6.out.trans (hb7.mono HB6.out.size)
    clear hb7 hp
    go_wp2_with fail
    obtain ⟨g, c, hv, hcell⟩ := HWas.out
    have HCW := hid hcell
    rw [hv]
    clear hv hcell
    refine (words_rows w6 b off g len cap c f hm (fun i hi => cell_later (HB2.out.trans (HB7.out.mono HB2.out.size)) (HC.out i hi)) (fun i hi => cell_later HB7.out (HCW.out i hi))).mono ?_
    rintro e w7 ⟨rfl, hb8⟩
    have HP3 : Hid (P2 w7 v1 v2) := HP.out _ _ _ _ hb8 HP2.out
    have HB8 : Hid (Below w2.heap.size w2 w7) := HB7.out.trans (hb8.mono HB7.out.size)
    clear hb8
    go_wp2_with fail
    refine Calls.mono (HS.out _ v1 v2 HP3.out) ?_
    rintro e w8 ⟨rfl, hb9⟩
    have HB9 : Hid (Below w2.heap.size w2 w8) := HB8.out.trans (hb9.mono HB8.out.size)
    clear hb9
    go_wp2
    go_ret
    exact ⟨rfl, HB2.out.trans (HB9.out.mono HB2.out.size)⟩
set_option maxHeartbeats 2000000 in
theorem walk_some (x : Addr) (cap : Nat) (w : World) (hT : Tab w) (at1 : Int) (P1 : World → Value → Prop) (P2 : World → Value → Value → Prop)
    (hA : ∀ wx, Below w.heap.size w wx → Calls Tryd.prog 16 #[.slice (some x) 0 cap] wx fun e w' => e = .returned (.tuple #[.slice (some ⟨wx.heap.size, 0, none⟩) 0 0, .int .i64 at1]) ∧ Below wx.heap.size wx w')
    (hY : ∀ wx, Below w.heap.size w wx → Calls Tryd.prog 16 #[.slice (some x) 0 cap] wx fun e w' => ∃ v, e = .returned (.tuple #[v, .int .i64 at1]) ∧ P1 w' v ∧ Below wx.heap.size wx w')
    (hR : ∀ wx v1, Below w.heap.size w wx → P1 wx v1 → Calls Tryd.prog 17 #[.slice (some x) 0 cap] wx fun e w' => ∃ v, e = .returned (.tuple #[v, .int .i64 at1]) ∧ P2 w' v1 v ∧ Below wx.heap.size wx w')
    (hS : ∀ wx v1 v2, P2 wx v1 v2 → Calls Tryd.prog 18 #[v1, v2] wx fun e w' => e = .returned (.bool true) ∧ Below wx.heap.size wx w')
    (hP : ∀ wx wy v1 v2, Below wx.heap.size wx wy → P2 wx v1 v2 → P2 wy v1 v2) :
    Calls Tryd.prog 7 #[.slice (some x) 0 cap] w fun e w' => e = .returned (.bool true) ∧ Below w.heap.size w w' := by
  obtain ⟨i1, hi, hz0, hz1, hz2⟩ := info_parts info24
  have HT : Hid (Tab w) := hT
  have HA := hid hA
  have HY := hid hY
  have HR := hid hR
  have HS := hid hS
  have HP := hid hP
  clear hT hA hY hR hS hP
  go_enter Tryd.func7, Tryd.ntmps7
  go_wp2_with fail
  refine (awake_any _ HT.out).mono ?_
  rintro e w1 ⟨rfl, hb1⟩
  have HB1 : Hid (Below w.heap.size w w1) := hb1
  have HL : Hid ((w1.alloc (.cells #[] 24)).ownsRow w.heap.size 24 1 (.slice (some ⟨w1.heap.size, 0, none⟩) 0 0) 0 []) := World.ownsRow_lit w1 #[] 0 HB1.out.size (by omega) rfl
  clear hb1
  go_wp2_with (at_builtin; refine wpList_append_own _ rfl _ _ 36 rfl w.heap.size 24 i1 _ 1 4 Tryd.underlying36 hi hz0 hz1 hz2 rfl (by decide) _ 0 [] rfl HL.out x 0 cap [] rfl rfl ?c1 ?c2 ?c3 ?c4 ?c5 ?_)
  case c1 => intro j u hj; simp at hj
  case c2 => intro u hu; simp at hu
  case c3 => unfold maxLen; omega
  case c4 => omega
  case c5 => have := HB1.out.size; simp; omega
  intro v' w2 hown' hgrow hnil
  have HWas : Hid (∃ a c, v' = .slice a 0 c) := by
    rcases hown'.2 with ⟨rfl, _⟩ | ⟨g, c, cur, rfl, _⟩
    · exact ⟨_, _, rfl⟩
    · exact ⟨_, _, rfl⟩
  have HB2 : Hid (Below w.heap.size w w2) := (HB1.out.alloc HB1.out.size _).grown hgrow (by have := HB1.out.size; simp; omega) (fun q hq => (HL.out.lt q hq).1)
  clear hown' hgrow hnil
  go_wp2_with fail
  refine Calls.mono (HA.out _ HB2.out) ?_
  rintro e w3 ⟨rfl, hb3⟩
  have HB3 : Hid (Below w2.heap.size w2 w3) := hb3
  clear hb3
  go_wp2_with fail
  go_loopw [6] (fun i wr => i = .int .i64 0 ∧ Below w2.heap.size w2 wr) (fun i _ => 0)
  case atStart => exact ⟨rfl, HB3.out⟩
  case round =>
    obtain ⟨rfl, hbel⟩ := hrel
    have HB4 : Hid (Below w2.heap.size w2 wr) := hbel
    clear hbel
    have HB5 : Hid (Below w.heap.size w wr) := HB2.out.trans (HB4.out.mono HB2.out.size)
    go_wp2_with fail
    refine Calls.mono (HY.out _ HB5.out) ?_
    rintro e w5 ⟨v1, rfl, hp, hb6⟩
    have HP1 : Hid (P1 w5 v1) := hp
    have HB6 : Hid (Below w2.heap.size w2 w5) := HB4.out.trans (hb6.mono HB4.out.size)
    clear hb6 hp
    go_wp2_with fail
    refine Calls.mono (HR.out _ v1 (HB2.out.trans (HB6.out.mono HB2.out.size)) HP1.out) ?_
    rintro e w6 ⟨v2, rfl, hp, hb7⟩
    have HP2 : Hid (P2 w6 v1 v2) := hp
    have HB7 : Hid (Below w2.heap.size w2 w6) := HB6.out.trans (hb7.mono HB6.out.size)
    clear hb7 hp
    go_wp2_with fail
    obtain ⟨g, c, hv⟩ := HWas.out
    rw [hv]
    clear hv
    refine (words_empty w6 _ _ _ _).mono ?_
    rintro e w7 ⟨rfl, hb8⟩
    have HP3 : Hid (P2 w7 v1 v2) := HP.out _ _ _ _ hb8 HP2.out
    have HB8 : Hid (Below w2.heap.size w2 w7) := HB7.out.trans (hb8.mono HB7.out.size)
    clear hb8
    go_wp2_with fail
    refine Calls.mono (HS.out _ v1 v2 HP3.out) ?_
    rintro e w8 ⟨rfl, hb9⟩
    have HB9 : Hid (Below w2.heap.size w2 w8) := HB8.out.trans (hb9.mono HB8.out.size)
    clear hb9
    go_wp2
    go_ret
    exact ⟨rfl, HB2.out.trans (HB9.out.mono HB2.out.size)⟩
set_option maxHeartbeats 2000000 in
theorem walk_nil  (w : World) (hT : Tab w) (at1 : Int) (P1 : World → Value → Prop) (P2 : World → Value → Value → Prop)
    (hA : ∀ wx, Below w.heap.size w wx → Calls Tryd.prog 16 #[.slice none 0 0] wx fun e w' => e = .returned (.tuple #[.slice (some ⟨wx.heap.size, 0, none⟩) 0 0, .int .i64 at1]) ∧ Below wx.heap.size wx w')
    (hY : ∀ wx, Below w.heap.size w wx → Calls Tryd.prog 16 #[.slice none 0 0] wx fun e w' => ∃ v, e = .returned (.tuple #[v, .int .i64 at1]) ∧ P1 w' v ∧ Below wx.heap.size wx w')
    (hR : ∀ wx v1, Below w.heap.size w wx → P1 wx v1 → Calls Tryd.prog 17 #[.slice none 0 0] wx fun e w' => ∃ v, e = .returned (.tuple #[v, .int .i64 at1]) ∧ P2 w' v1 v ∧ Below wx.heap.size wx w')
    (hS : ∀ wx v1 v2, P2 wx v1 v2 → Calls Tryd.prog 18 #[v1, v2] wx fun e w' => e = .returned (.bool true) ∧ Below wx.heap.size wx w')
    (hP : ∀ wx wy v1 v2, Below wx.heap.size wx wy → P2 wx v1 v2 → P2 wy v1 v2) :
    Calls Tryd.prog 7 #[.slice none 0 0] w fun e w' => e = .returned (.bool true) ∧ Below w.heap.size w w' := by
  obtain ⟨i1, hi, hz0, hz1, hz2⟩ := info_parts info24
  have HT : Hid (Tab w) := hT
  have HA := hid hA
  have HY := hid hY
  have HR := hid hR
  have HS := hid hS
  have HP := hid hP
  clear hT hA hY hR hS hP
  go_enter Tryd.func7, Tryd.ntmps7
  go_wp2_with fail
  refine (awake_any _ HT.out).mono ?_
  rintro e w1 ⟨rfl, hb1⟩
  have HB1 : Hid (Below w.heap.size w w1) := hb1
  have HL : Hid ((w1.alloc (.cells #[] 24)).ownsRow w.heap.size 24 1 (.slice (some ⟨w1.heap.size, 0, none⟩) 0 0) 0 []) := World.ownsRow_lit w1 #[] 0 HB1.out.size (by omega) rfl
  clear hb1
  go_wp2_with (at_builtin; refine wpList_append_own_none rfl _ _ 36 rfl w.heap.size 24 i1 1 Tryd.underlying36 hi _ 0 [] rfl HL.out rfl ?_)
  obtain ⟨w2, hw2⟩ : ∃ w2, w2 = w1.alloc (.cells #[] 24) := ⟨_, rfl⟩
  rw [← hw2]
  have HB2 : Hid (Below w.heap.size w w2) := by rw [hw2]; exact HB1.out.alloc HB1.out.size _
  clear hw2
  go_wp2_with fail
  refine Calls.mono (HA.out _ HB2.out) ?_
  rintro e w3 ⟨rfl, hb3⟩
  have HB3 : Hid (Below w2.heap.size w2 w3) := hb3
  clear hb3
  go_wp2_with fail
  go_loopw [6] (fun i wr => i = .int .i64 0 ∧ Below w2.heap.size w2 wr) (fun i _ => 0)
  case atStart => exact ⟨rfl, HB3.out⟩
  case round =>
    obtain ⟨rfl, hbel⟩ := hrel
    have HB4 : Hid (Below w2.heap.size w2 wr) := hbel
    clear hbel
    have HB5 : Hid (Below w.heap.size w wr) := HB2.out.trans (HB4.out.mono HB2.out.size)
    go_wp2_with fail
    refine Calls.mono (HY.out _ HB5.out) ?_
    rintro e w5 ⟨v1, rfl, hp, hb6⟩
    have HP1 : Hid (P1 w5 v1) := hp
    have HB6 : Hid (Below w2.heap.size w2 w5) := HB4.out.trans (hb6.mono HB4.out.size)
    clear hb6 hp
    go_wp2_with fail
    refine Calls.mono (HR.out _ v1 (HB2.out.trans (HB6.out.mono HB2.out.size)) HP1.out) ?_
    rintro e w6 ⟨v2, rfl, hp, hb7⟩
    have HP2 : Hid (P2 w6 v1 v2) := hp
    have HB7 : Hid (Below w2.heap.size w2 w6) := HB6.out.trans (hb7.mono HB6.out.size)
    clear hb7 hp
    go_wp2_with fail
    refine (words_empty w6 _ _ _ _).mono ?_
    rintro e w7 ⟨rfl, hb8⟩
    have HP3 : Hid (P2 w7 v1 v2) := HP.out _ _ _ _ hb8 HP2.out
    have HB8 : Hid (Below w2.heap.size w2 w7) := HB7.out.trans (hb8.mono HB7.out.size)
    clear hb8
    go_wp2_with fail
    refine Calls.mono (HS.out _ v1 v2 HP3.out) ?_
    rintro e w8 ⟨rfl, hb9⟩
    have HB9 : Hid (Below w2.heap.size w2 w8) := HB8.out.trans (hb9.mono HB8.out.size)
    clear hb9
    go_wp2
    go_ret
    exact ⟨rfl, HB2.out.trans (HB9.out.mono HB2.out.size)⟩
theorem walk_all (w0 : World) (a : Option Addr) (len cap : Nat) (zs : List Int) (hz : IsRow .u32 w0 a len cap zs) (hT : Tab w0) :
    Calls Tryd.prog 7 #[.slice a len cap] w0 fun e w' => e = .returned (.bool true) ∧ Below w0.heap.size w0 w' := by
  by_cases hl : 300 < len
  · exact walk_long a len cap w0 hT hl (row_len hz)
  by_cases h0 : len = 0
  · subst h0
    have hA : ∀ wx, Below w0.heap.size w0 wx → Calls Tryd.prog 16 #[.slice a 0 cap] wx fun e w' => e = .returned (.tuple #[.slice (some ⟨wx.heap.size, 0, none⟩) 0 0, .int .i64 (-1)]) ∧ Below wx.heap.size wx w' := fun wx _ => all_nil wx a cap
    have hY : ∀ wx, Below w0.heap.size w0 wx → Calls Tryd.prog 16 #[.slice a 0 cap] wx fun e w' => ∃ v, e = .returned (.tuple #[v, .int .i64 (-1)]) ∧ (∃ g, v = .slice (some ⟨g, 0, none⟩) 0 0) ∧ Below wx.heap.size wx w' :=
      fun wx hx => (all_nil wx a cap).mono fun e w' ⟨he, hb⟩ => ⟨_, he, ⟨_, rfl⟩, hb⟩
    have hR : ∀ (wx : World) (v1 : Value), Below w0.heap.size w0 wx → (∃ g, v1 = .slice (some ⟨g, 0, none⟩) 0 0) → Calls Tryd.prog 17 #[.slice a 0 cap] wx fun e w' => ∃ v, e = .returned (.tuple #[v, .int .i64 (-1)]) ∧ ((∃ g, v1 = .slice (some ⟨g, 0, none⟩) 0 0) ∧ v = .slice none 0 0) ∧ Below wx.heap.size wx w' :=
      fun wx v1 hx hp => (rall_nil wx a cap).mono fun e w' ⟨he, hb⟩ => ⟨_, he, ⟨hp, rfl⟩, hb⟩
    have hS : ∀ (wx : World) (v1 v2 : Value), ((∃ g, v1 = .slice (some ⟨g, 0, none⟩) 0 0) ∧ v2 = .slice none 0 0) → Calls Tryd.prog 18 #[v1, v2] wx fun e w' => e = .returned (.bool true) ∧ Below wx.heap.size wx w' := by
      rintro wx v1 v2 ⟨⟨g, rfl⟩, rfl⟩
      exact same_empty wx _ _ _ _
    rcases hz with ⟨rfl, _, rfl, _⟩ | ⟨x, rfl, _⟩
    · exact walk_nil w0 hT (-1) (fun _ v => ∃ g, v = .slice (some ⟨g, 0, none⟩) 0 0) (fun _ v u => (∃ g, v = .slice (some ⟨g, 0, none⟩) 0 0) ∧ u = .slice none 0 0) hA hY hR hS (fun _ _ _ _ _ h => h)
    · exact walk_some x cap w0 hT (-1) (fun _ v => ∃ g, v = .slice (some ⟨g, 0, none⟩) 0 0) (fun _ v u => (∃ g, v = .slice (some ⟨g, 0, none⟩) 0 0) ∧ u = .slice none 0 0) hA hY hR hS (fun _ _ _ _ _ h => h)
  · obtain ⟨b, off, rfl, hf, hc⟩ := row_words hz h0
    obtain ⟨n, hn, hok, hbad⟩ := first_bad (fun i => zs.getD i 0) len
    by_cases hlt : n < len
    · have hA : ∀ wx, Below w0.heap.size w0 wx → Calls Tryd.prog 16 #[.slice (some ⟨b, off, none⟩) len cap] wx fun e w' => e = .returned (.tuple #[.slice none 0 0, .int .i64 n]) ∧ Below wx.heap.size wx w' := by
        intro wx hx
        refine (all_any wx b off len cap n (fun i => zs.getD i 0) (by omega) (hT.later hx) hf (fun i hi => cell_later hx (hc i hi)) hok hn hbad).mono ?_
        rintro e w' ⟨⟨h, _⟩ | ⟨_, he⟩, hb⟩
        · omega
        · exact ⟨he, hb⟩
      refine walk_bad b off len cap (fun i => zs.getD i 0) w0 hT (by omega) h0 hc n (fun _ v => v = .slice none 0 0) (fun _ v u => v = .slice none 0 0 ∧ u = .slice none 0 0) hA ?_ ?_ ?_ (fun _ _ _ _ _ h => h)
      · intro wx hx
        exact (hA wx hx).mono fun e w' ⟨he, hb⟩ => ⟨_, he, rfl, hb⟩
      · intro wx v1 hx hp
        refine (rall_any wx b off len cap n (fun i => zs.getD i 0) (by omega) hf (fun i hi => cell_later hx (hc i hi)) hok hn hbad).mono ?_
        rintro e w' ⟨⟨h, _⟩ | ⟨_, he⟩, hb⟩
        · omega
        · exact ⟨_, he, ⟨hp, rfl⟩, hb⟩
      · rintro wx v1 v2 ⟨rfl, rfl⟩
        exact same_empty wx _ _ _ _
    · obtain rfl : n = len := by omega
      have hA : ∀ wx, Below w0.heap.size w0 wx → Calls Tryd.prog 16 #[.slice (some ⟨b, off, none⟩) n cap] wx fun e w' => e = .returned (.tuple #[.slice (some ⟨wx.heap.size, 0, none⟩) n n, .int .i64 (-1)]) ∧ Made w' wx.heap.size n n (fun i => zs.getD i 0) ∧ Below wx.heap.size wx w' := by
        intro wx hx
        refine (all_any wx b off n cap n (fun i => zs.getD i 0) (by omega) (hT.later hx) hf (fun i hi => cell_later hx (hc i hi)) hok hn hbad).mono ?_
        rintro e w' ⟨⟨_, he, hm⟩ | ⟨h, _⟩, hb⟩
        · exact ⟨he, hm, hb⟩
        · omega
      refine walk_ok b off n cap (fun i => zs.getD i 0) w0 hT (by omega) h0 hc (-1) (fun wx v => ∃ g, v = .slice (some ⟨g, 0, none⟩) n n ∧ RowAt wx g n (fun i => zs.getD i 0)) (fun wx v u => (∃ g, v = .slice (some ⟨g, 0, none⟩) n n ∧ RowAt wx g n (fun i => zs.getD i 0)) ∧ ∃ g c, u = .slice (some ⟨g, 0, none⟩) n c ∧ RowAt wx g n (fun i => zs.getD i 0)) ?_ ?_ ?_ ?_ ?_
      · intro wx hx
        exact (hA wx hx).mono fun e w' ⟨he, hm, hb⟩ => ⟨he, hm.2, hb⟩
      · intro wx hx
        exact (hA wx hx).mono fun e w' ⟨he, hm, hb⟩ => ⟨_, he, ⟨_, rfl, hm.1⟩, hb⟩
      · rintro wx v1 hx ⟨g, rfl, hrow⟩
        refine (rall_any wx b off n cap n (fun i => zs.getD i 0) (by omega) hf (fun i hi => cell_later hx (hc i hi)) hok hn hbad).mono ?_
        rintro e w' ⟨⟨_, ⟨h, _⟩ | ⟨g2, c2, he, hrow2⟩⟩ | ⟨h, _⟩, hb⟩
        · omega
        · exact ⟨_, he, ⟨⟨g, rfl, hrow.later hb⟩, ⟨g2, c2, rfl, hrow2⟩⟩, hb⟩
        · omega
      · rintro wx v1 v2 ⟨⟨g, rfl, hrow⟩, ⟨g2, c2, rfl, hrow2⟩⟩
        exact same_rows wx g g2 n n c2 (fun i => zs.getD i 0) (by omega) hrow hrow2
      · rintro wx wy v1 v2 hb ⟨⟨g, rfl, hrow⟩, ⟨g2, c2, rfl, hrow2⟩⟩
        exact ⟨⟨g, rfl, hrow.later hb⟩, ⟨g2, c2, rfl, hrow2.later hb⟩⟩
theorem walk (a : Option Addr) (len cap : Nat) (zs : List Int) {W : World} (hz : IsRow .u32 W a len cap zs) (_w : World) (hT : Tab W) :
    Calls Tryd.prog 7 #[.slice a len cap] W fun e w' => e = .returned (.bool true) ∧ Below W.heap.size W w' := walk_all W a len cap zs hz hT

/-! ### The row's step -/
set_option maxRecDepth 100000 in
theorem lifted (os : Os) (started : os.Started) (H : Type) (enc : TypeId × Value → H) :
    ReturnsInHanded {} Tryd.checked os 7 .any (fun w args => (Rows.codeKeepsSpec.pre enc Tryd.prog Tryd.f7 [] false w args ∧ laidMetH Tryd.prog laidL w) ∧ sizedMet enc Tryd.prog Tryd.f7 (OpenSpec.ofChange Rows.codeKeepsSpec) false w args)
      (Rows.codeKeepsSpec.post enc Tryd.prog Tryd.f7 false true false false) := by
  refine returnsInHanded_of_change_and (C := Tryd.checked) (X := fun w _ => laidMetH Tryd.prog laidL w) (fun _ _ _ hh h => h.of_heap hh) own started (by kernel_rfl) Tryd.func7
    (ChangeSpec.witness_shaped (enc := enc) (C := Tryd.checked) (os := os) (X := fun w _ => laidMetH Tryd.prog laidL w) false (World.doorLaid Tryd.prog 40 os) #[.slice none 0 0] 8 rfl (World.shaped_of_RefB (by kernel_rfl) (by kernel_rfl)) (by kernel_rfl) (by kernel_rfl) (by kernel_rfl) (door_met os _)) ?_
  intro W base args ds gs before hval0 hW _ _ hL _
  have hval : ∀ (j : Nat) t v, Tryd.f7.params[j]? = some t → args[j]? = some v → Value.okWide Tryd.prog W .any base t v := hval0
  have hW' := hW
  obtain ⟨p, q, hA0, hV, rfl, hfz, hnd⟩ := hW
  have hA : DataW.TrodAll enc Tryd.prog W 0 (fun _ => true) true Tryd.f7.params.toList args.toList ds p := hA0
  rw [Tryd.params7] at hA hval
  obtain ⟨v0, vs0, d0, ds0, p0, q0, hargs, rfl, rfl, h0, r0⟩ := trodAll_cons hA
  obtain ⟨rfl, rfl, rfl⟩ := trodAll_nil r0
  obtain rfl : args = #[v0] := by cases args; simp_all
  obtain ⟨rfl, rfl⟩ := trodVars_none hV
  have hT := tab_of hL
  obtain ⟨a0, len0, cap0, rfl⟩ := okWide_slice Tryd.underlying36 (hval 0 36 v0 rfl rfl)
  have k0 := h0
  have lt0 : ∀ x ∈ p0, x.block < W.heap.size := by obtain ⟨m, hm⟩ := k0; exact DataW.trod_lt m _ _ _ hm
  obtain ⟨z0, w0⟩ : ∃ zs, IsRow .u32 W a0 len0 cap0 zs := by
    obtain ⟨fuel, hf⟩ := h0
    rcases open_ints Tryd.underlying36 Tryd.underlying24 (by kernel_rfl) hf with ⟨hcs, _⟩ | ⟨x, l, c, zs, hcs, _, hl, hm, hz, _, hcell, hwz⟩
    · simp [Value.cells] at hcs
      obtain ⟨rfl, rfl, rfl⟩ := hcs
      exact ⟨[], .inl ⟨rfl, rfl, rfl, rfl⟩⟩
    · simp [Value.cells] at hcs
      obtain ⟨rfl, rfl, rfl⟩ := hcs
      exact ⟨zs, .inr ⟨_, rfl, hl, hm, by simpa using hz, hcell, hwz⟩⟩
  clear hA0 hval0
  refine (walk a0 len0 cap0 z0 w0 W hT).mono fun e W' ⟨he, bel⟩ => ?_
  subst he
  exact ⟨_, rfl, _, _, _, [], _, [], hW', trodAll_mk1 (shut_bool Tryd.underlying4 _), (trodAll_cons_mk (Below.trod laidOut (by kernel_rfl) (of_decide_eq_true (by kernel_rfl)) k0 bel lt0) trodAll_mk0), rfl, bel.frame _, fun h => by cases h⟩

theorem over : Rows.CodeKeepsSaid :=
  OpenClaim.holds_of_wide 7 Tryd.f7 rfl rfl rfl rfl rfl rfl rfl ⟨rfl, rfl, rfl, rfl, rfl⟩ rfl rfl rfl rfl rfl (by kernel_rfl) Tryd.func7 (by kernel_rfl)
    (of_decide_eq_true (by kernel_rfl)) (by unfold Func.isWrapper; first | (rw [if_pos (by decide +kernel)]; kernel_rfl) | (rw [if_neg (by decide +kernel)]; exact ⟨rfl, rfl⟩))
    (fun os started H enc _ => lifted os started H enc)

/-- The tied card. -/
theorem card : Rows.CodeKeepsCardSaid :=
  Claim7.holds_tied_plain_at .later [] [.data] true (true, "c7c58821a59dc2a96b18077de35e0cd15e8cbe4c0613160f2601e06160b0d7f5") false
    over (fun _ h => by cases h) (by kernel_rfl) (fun _ h => by cases h) codeKeeps_row_tie rfl ⟨rfl, rfl⟩ (by kernel_rfl) rfl
    (fun f fn hf hfn => by
      obtain rfl : f = 7 := Option.some.inj ((show Tryd.prog.funcNamed "splice/splicelaw02.CodeKeeps" = some 7 by kernel_rfl).symm.trans hf) |>.symm
      obtain rfl : fn = Tryd.f7 := (Option.some.inj (Tryd.func7.symm.trans hfn)).symm
      exact ⟨by kernel_rfl, fun j t ht => by
        rw [Tryd.params7] at ht
        have hm : t ∈ [36] := by simpa using Array.mem_of_getElem? ht
        have hall : ([36].all fun u => !Tryd.prog.wantsStandIn u) = true := by kernel_rfl
        exact (show Tryd.prog.wantsStandIn t = false by simpa using List.all_eq_true.1 hall t hm)⟩)
    (by kernel_rfl)
end Go.Proofs.YtidfdhghgjdihaaDoor.codeKeeps

namespace Go.Proofs.YtidfdhghgjdihaaDoor
theorem CodeKeeps_holds : Rows.CodeKeepsCardSaid := codeKeeps.card
#print axioms CodeKeeps_holds
end Go.Proofs.YtidfdhghgjdihaaDoor
