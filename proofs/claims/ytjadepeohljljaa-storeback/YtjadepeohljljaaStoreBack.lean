/- For every memory, address, word and width StoreBack returns true: of a memory of 2,000 bytes at most what is saved is loaded, as much of it as was saved, and no other byte changes; what may not be saved stays. No condition. -/
import Derived.Test.YtjadepeohljljaaFrame
import Derived.Test.YtjadepeohljljaaStoreMath
import Derived.WalkKit
import Derived.ProofKit
namespace Go.Proofs.Ytjadepeohljljaa.storeBack
open Go.ChangeShapes Go.WideShapes Go.ChangeAt Go.RowKit Go.Sort
set_option linter.unusedVariables false

/-- A byte that a Save changes lies where it saves. -/
theorem saved_where (f : Nat → Int) (i : Nat) (x : Int) (m k : Nat) (h : putK f i x m k ≠ f k) : i ≤ k ∧ k < i + m := by
  by_cases hk : i ≤ k ∧ k < i + m
  · exact hk
  · exact absurd (by unfold putK; rw [if_neg hk]) h
set_option maxRecDepth 100000 in
set_option maxHeartbeats 4000000 in
theorem walk (w : World) (y : Int) (a : Option Addr) (n cap : Nat) (f : Nat → Int) (h0 : (Lit.int .i64 y).wf = true ∧ n ≤ cap ∧ cap ≤ maxLen ∧ (a = none → cap = 0) ∧ Bytes w a n f) (a1 : Int) (w1 : (Lit.int .u32 a1).wf = true) (a2 : Int) (w2 : (Lit.int .u32 a2).wf = true) (wide : Bool) :
    Calls Try.prog 5 #[memV y a n cap, .int .u32 a1, .int .u32 a2, .bool wide] w fun e w' => e = .returned (.bool true) ∧ Below w.heap.size w w' := by
  obtain ⟨hy, hc, hm, hnil, hB⟩ := h0
  obtain ⟨u0, u1⟩ := wf_u32_bd w1
  obtain ⟨v0, v1⟩ := wf_u32_bd w2
  have hm' : n ≤ 9223372036854775807 := by unfold maxLen at hm; omega
  have HA : Hid (Below w.heap.size w (w.alloc (.cells #[.int .i64 y, .slice a n cap] 24))) := (Below.refl _ w).alloc (Nat.le_refl _) _
  have HM : Hid (MemAt (w.alloc (.cells #[.int .i64 y, .slice a n cap] 24)) w.heap.size y a n cap) := MemAt.new w y a n cap 24
  have HB : Hid (Bytes (w.alloc (.cells #[.int .i64 y, .slice a n cap] 24)) a n f) := hB.later HA.out
  have HS : Hid (w.heap.size ≤ (w.alloc (.cells #[.int .i64 y, .slice a n cap] 24)).heap.size) := HA.out.size
  by_cases hn : 2000 < n
  · have hn' : (2000 : Int) < n := by omega
    clear hB hm hc hn u0 u1 v0 v1 w1 w2
    go_enter Try.func5, Try.ntmps5
    go_wp2_with (first
      | (go_at_call 8; revert hb1; intro hb1; refine (awake_any _).mono ?_; rintro e w2 ⟨rfl, hb2⟩)
      | (go_at_call 8; refine (awake_any _).mono ?_; rintro e w1 ⟨rfl, hb1⟩; have Q1 := HM.out.later hb1; obtain ⟨x0, x1⟩ := id Q1))
    go_ret
    exact ⟨rfl, bnext (HA.out.trans (hb1.mono HS.out)) hb2⟩
  have hn' : (n : Int) ≤ 2000 := by omega
  have hn2 : n ≤ 2000 := by omega
  cases hs : saveB n a1 wide y
  · have L1 : Hid (∀ W, Bytes W a n f → SaveNo Try.prog 11 y a1 a2 wide a n cap W) := fun W hW => save_no y a1 a2 wide a n cap f W hn2 hc hy u0 u1 hW hs
    have L3 : Hid (∀ W, Bytes W a n f → Calls Try.prog 13 #[memV y a n cap, memV y a n cap] W fun e w' => e = .returned (.bool true) ∧ Below W.heap.size W w') := fun W hW => rsame_any W y a a n cap cap f hn2 hW hW
    clear hB hm hc hn u0 u1 v0 v1 w1 w2 hs
    go_enter Try.func5, Try.ntmps5
    go_wp2_with (first
      | (go_at_call 8; refine (awake_any _).mono ?_; rintro e w1 ⟨rfl, hb1⟩; have Q1 := HM.out.later hb1; obtain ⟨x0, x1⟩ := id Q1)
      | (go_at_call 11; refine (L1.out _ (HB.out.later hb1)).mono ?_; rintro e w2 ⟨rfl, hb2⟩; have A2 : Below w2.heap.size w2 (w2.alloc (.cells #[.int .i64 y, .slice a n cap] 24)) := (Below.refl _ _).alloc (Nat.le_refl _) _; have Q2 := (Q1.later hb2).later A2; obtain ⟨y0, y1⟩ := id Q2; have N2 := MemAt.new w2 y a n cap 24; obtain ⟨n0, n1⟩ := id N2)
      | (go_at_call 13; refine (L3.out _ (((HB.out.later hb1).later hb2).later A2)).mono ?_; rintro e w4 ⟨rfl, hb4⟩))
    go_ret
    exact ⟨rfl, bnext (bnext (bnext (HA.out.trans (hb1.mono HS.out)) hb2) A2) hb4⟩
  obtain ⟨ok1, hyi⟩ := save_ok hs
  have hat : 65536 ≤ a1 ∧ a1 - 65536 < n := by unfold okB at ok1; have := of_decide_eq_true ok1; exact ⟨this.1, this.2.1⟩
  obtain ⟨i, rfl⟩ : ∃ i : Nat, a1 = 65536 + (i : Int) := ⟨(a1 - 65536).toNat, by omega⟩
  have ei : (65536 + (i : Int)) - 65536 = i := by omega
  have hin : i < n := by omega
  have hyi' : y ≤ (i : Int) := by omega
  have et : ((65536 + (i : Int)) - 65536).toNat = i := by omega
  have L1 : Hid (∀ W, Bytes W a n f → Calls Try.prog 11 #[memV y a n cap, .int .u32 (65536 + (i : Int)), .int .u32 a2, .bool wide] W fun e w' => ∃ g cap', e = .returned (.tuple #[memV y (some ⟨g, 0, none⟩) n cap', .bool true]) ∧ W.heap.size ≤ g ∧ n ≤ cap' ∧ RowB w' g n (savedF f (65536 + (i : Int)) a2 wide) ∧ Below W.heap.size W w') := fun W hW => save_yes y _ a2 wide a n cap f W hn2 hc hy u0 u1 v0 v1 hW hs
  have HF : Hid (∀ k, 0 ≤ savedF f (65536 + (i : Int)) a2 wide k ∧ savedF f (65536 + (i : Int)) a2 wide k < 256) := saved_bd f hB.1 _ a2 wide
  have HFf : Hid (∀ k, 0 ≤ f k ∧ f k < 256) := hB.1
  have HW : Hid (∀ k, savedF f (65536 + (i : Int)) a2 wide k ≠ f k → i ≤ k ∧ k < i + (if wide = true then 4 else 1)) := fun k hk => saved_where f i a2 _ k (by unfold savedF at hk; rw [et] at hk; exact hk)
  have L2 : Hid (∀ W g c, n ≤ c → Bytes W (some ⟨g, 0, none⟩) n (savedF f (65536 + (i : Int)) a2 wide) → Calls Try.prog 9 #[memV y (some ⟨g, 0, none⟩) n c, .int .u32 (65536 + (i : Int)), .bool wide] W fun e w' => e = .returned (.tuple #[.int .u32 (if wide = true then a2 else a2 % 256), .bool true]) ∧ Below W.heap.size W w') := by
    intro W g c hc2 hW
    have h := load_any y (65536 + (i : Int)) wide _ n c _ W hn2 hc2 u0 u1 hW
    have e : loadZ (savedF f (65536 + (i : Int)) a2 wide) (65536 + (i : Int)) wide = if wide = true then a2 else a2 % 256 := by
      cases wide
      · rw [if_neg (by decide)]; exact load_saved1 _ _ _
      · rw [if_pos rfl]; exact load_saved _ _ _ v0 v1
    rw [ok1, if_pos rfl, e] at h; exact h
  generalize savedF f (65536 + (i : Int)) a2 wide = F at L1 L2 HF HW
  have HV : Hid (0 ≤ a2 ∧ a2 < 4294967296) := ⟨v0, v1⟩
  clear hB hm hc hn u0 u1 w1 w2 hs ok1 hat et hyi v0 v1
  cases wide
  · obtain ⟨v0, v1⟩ := HV.out
    simp only [if_neg (show ¬ (false = true) by decide)] at L2
    go_enter Try.func5, Try.ntmps5
    go_wp2_with (first
      | (go_at_call 8; refine (awake_any _).mono ?_; rintro e w1 ⟨rfl, hb1⟩; have Q1 := HM.out.later hb1; obtain ⟨x0, x1⟩ := id Q1)
      | (go_at_call 11; refine (L1.out _ (HB.out.later hb1)).mono ?_; rintro e w2 ⟨g, c2, rfl, hg, hc2, hr2, hb2⟩; have A2 : Below w2.heap.size w2 (w2.alloc (.cells #[.int .i64 y, .slice (some ⟨g, 0, none⟩) n c2] 24)) := (Below.refl _ _).alloc (Nat.le_refl _) _; have Q2 := (Q1.later hb2).later A2; obtain ⟨y0, y1⟩ := id Q2; have N2 := MemAt.new w2 y (some ⟨g, 0, none⟩) n c2 24; obtain ⟨n0, n1⟩ := id N2)
      | (go_at_call 9; refine (L2.out _ _ _ hc2 (bytes_of_rowB (hr2.later A2) HF.out)).mono ?_; rintro e w3 ⟨rfl, hb3⟩; have Q3 := Q2.later hb3; obtain ⟨p0, p1⟩ := id Q3; have N3 := N2.later hb3; obtain ⟨m0, m1⟩ := id N3))
    have HQ3 : Hid (MemAt w3 w.heap.size y a n cap) := Q3
    have HN3 : Hid (MemAt w3 w2.heap.size y (some ⟨g, 0, none⟩) n c2) := N3
    have HR3 : Hid (RowB w3 g n F) := (hr2.later A2).later hb3
    have HB3 : Hid (Bytes w3 a n f) := (((HB.out.later hb1).later hb2).later A2).later hb3
    have HW3 : Hid (Below w.heap.size w w3) := bnext (bnext (bnext (HA.out.trans (hb1.mono HS.out)) hb2) A2) hb3
    clear hb1 hb2 hb3 hr2 A2 Q1 Q2 Q3 N2 N3 x0 x1 y0 y1 n0 n1 p0 p1 m0 m1 L1 L2 HB HM HA HS
    go_loopw [14] (fun t wr => ∃ k : Nat, k ≤ n ∧ t = .int .i64 k ∧ Below w3.heap.size w3 wr) (fun t _ => n - (intOf t).toNat)
    case atStart => exact ⟨0, Nat.zero_le _, rfl, Below.refl _ _⟩
    case round =>
      obtain ⟨k, hk, rfl, hbel⟩ := hrel
      have HBl : Hid (Below w3.heap.size w3 wr) := hbel
      obtain ⟨p0, p1⟩ := HQ3.out.later hbel
      obtain ⟨m0, m1⟩ := HN3.out.later hbel
      by_cases hlt : k < n
      · have gk := (HR3.out.later hbel).1 k hlt
        obtain ⟨_, e | ⟨b, off, rfl, hcell⟩⟩ := HB3.out.later hbel
        · omega
        have bk := hcell k hlt
        clear hcell hbel
        by_cases hk2 : F k = f k
        · rw [hk2] at gk
          clear hk2
          generalize f k = z at gk bk
          go_wp2
          go_quiet (fail)
          go_wp2
          go_roundw
          case rel => exact ⟨k + 1, by omega, by go_num, below_drewN HBl.out _⟩
          case measure => simp [intOf]; omega
        · have hw : i ≤ k ∧ k < i + 1 := by simpa using HW.out k hk2
          have d0 : (F k != f k) = true := by simpa using hk2
          have d1 : decide ((k : Int) < (i : Int)) = false := decide_eq_false (by omega)
          have e1 : decide (k < i) = false := decide_eq_false (by omega)
          have d2 : decide ((k : Int) < y) = false := decide_eq_false (by omega)
          have d3 : decide ((i : Int) < (k : Int)) = false := decide_eq_false (by omega)
          have e3 : decide (i < k) = false := decide_eq_false (by omega)
          clear hk2 hw
          generalize F k = z1 at gk d0
          generalize f k = z2 at bk d0
          go_wp2
          go_quiet (fail)
          go_wp2
          go_roundw
          case rel => exact ⟨k + 1, by omega, by go_num, below_drewN HBl.out _⟩
          case measure => simp [intOf]; omega
      · obtain rfl : k = n := by omega
        clear hbel
        go_wp2
        go_ret
        exact ⟨rfl, bnext HW3.out HBl.out⟩
  · obtain ⟨v0, v1⟩ := HV.out
    simp only [if_pos] at L2
    go_enter Try.func5, Try.ntmps5
    go_wp2_with (first
      | (go_at_call 8; refine (awake_any _).mono ?_; rintro e w1 ⟨rfl, hb1⟩; have Q1 := HM.out.later hb1; obtain ⟨x0, x1⟩ := id Q1)
      | (go_at_call 11; refine (L1.out _ (HB.out.later hb1)).mono ?_; rintro e w2 ⟨g, c2, rfl, hg, hc2, hr2, hb2⟩; have A2 : Below w2.heap.size w2 (w2.alloc (.cells #[.int .i64 y, .slice (some ⟨g, 0, none⟩) n c2] 24)) := (Below.refl _ _).alloc (Nat.le_refl _) _; have Q2 := (Q1.later hb2).later A2; obtain ⟨y0, y1⟩ := id Q2; have N2 := MemAt.new w2 y (some ⟨g, 0, none⟩) n c2 24; obtain ⟨n0, n1⟩ := id N2)
      | (go_at_call 9; refine (L2.out _ _ _ hc2 (bytes_of_rowB (hr2.later A2) HF.out)).mono ?_; rintro e w3 ⟨rfl, hb3⟩; have Q3 := Q2.later hb3; obtain ⟨p0, p1⟩ := id Q3; have N3 := N2.later hb3; obtain ⟨m0, m1⟩ := id N3))
    have HQ3 : Hid (MemAt w3 w.heap.size y a n cap) := Q3
    have HN3 : Hid (MemAt w3 w2.heap.size y (some ⟨g, 0, none⟩) n c2) := N3
    have HR3 : Hid (RowB w3 g n F) := (hr2.later A2).later hb3
    have HB3 : Hid (Bytes w3 a n f) := (((HB.out.later hb1).later hb2).later A2).later hb3
    have HW3 : Hid (Below w.heap.size w w3) := bnext (bnext (bnext (HA.out.trans (hb1.mono HS.out)) hb2) A2) hb3
    clear hb1 hb2 hb3 hr2 A2 Q1 Q2 Q3 N2 N3 x0 x1 y0 y1 n0 n1 p0 p1 m0 m1 L1 L2 HB HM HA HS
    go_loopw [14] (fun t wr => ∃ k : Nat, k ≤ n ∧ t = .int .i64 k ∧ Below w3.heap.size w3 wr) (fun t _ => n - (intOf t).toNat)
    case atStart => exact ⟨0, Nat.zero_le _, rfl, Below.refl _ _⟩
    case round =>
      obtain ⟨k, hk, rfl, hbel⟩ := hrel
      have HBl : Hid (Below w3.heap.size w3 wr) := hbel
      obtain ⟨p0, p1⟩ := HQ3.out.later hbel
      obtain ⟨m0, m1⟩ := HN3.out.later hbel
      by_cases hlt : k < n
      · have gk := (HR3.out.later hbel).1 k hlt
        obtain ⟨_, e | ⟨b, off, rfl, hcell⟩⟩ := HB3.out.later hbel
        · omega
        have bk := hcell k hlt
        clear hcell hbel
        by_cases hk2 : F k = f k
        · rw [hk2] at gk
          clear hk2
          generalize f k = z at gk bk
          go_wp2
          go_quiet (fail)
          go_wp2
          go_roundw
          case rel => exact ⟨k + 1, by omega, by go_num, below_drewN HBl.out _⟩
          case measure => simp [intOf]; omega
        · have hw : i ≤ k ∧ k < i + 4 := by simpa using HW.out k hk2
          have d0 : (F k != f k) = true := by simpa using hk2
          have d1 : decide ((k : Int) < (i : Int)) = false := decide_eq_false (by omega)
          have e1 : decide (k < i) = false := decide_eq_false (by omega)
          have d2 : decide ((k : Int) < y) = false := decide_eq_false (by omega)
          have d3 : decide ((i : Int) + 4 ≤ (k : Int)) = false := decide_eq_false (by omega)
          have e3 : decide (i + 4 ≤ k) = false := decide_eq_false (by omega)
          clear hk2 hw
          generalize F k = z1 at gk d0
          generalize f k = z2 at bk d0
          go_wp2
          go_quiet (fail)
          go_wp2
          go_roundw
          case rel => exact ⟨k + 1, by omega, by go_num, below_drewN HBl.out _⟩
          case measure => simp [intOf]; omega
      · obtain rfl : k = n := by omega
        clear hbel
        go_wp2
        go_ret
        exact ⟨rfl, bnext HW3.out HBl.out⟩

/-! ### The row's step -/
set_option maxRecDepth 100000 in
theorem lifted (os : Os) (started : os.Started) (H : Type) (enc : TypeId × Value → H) :
    ReturnsInHanded {} Try.checked os 5 .any (Rows.storeBackSpec.pre6 enc Try.prog Try.f5 Rows.storeBackRow.domain false) (Rows.storeBackSpec.post enc Try.prog Try.f5 false true false false) := by
  refine returnsInHanded_of_change (C := Try.checked) own started (by kernel_rfl) Try.func5
    (ChangeSpec.witness6 (enc := enc) (C := Try.checked) false ⟨#[], #[.agg #[.int .i64 0, .slice none 0 0], .int .u32 0, .int .u32 0, .bool false], []⟩ 8 (by kernel_rfl) (by kernel_rfl) (by kernel_rfl) (by kernel_rfl)) ?_
  intro W base args ds gs before hval0 hW hcnd _
  have hval : ∀ (j : Nat) t v, Try.f5.params[j]? = some t → args[j]? = some v → Value.okWide Try.prog W .any base t v := hval0
  have hW' := hW
  obtain ⟨p, q, hA0, hV, rfl, hfz, hnd⟩ := hW
  have hA : DataW.TrodAll enc Try.prog W 0 (fun _ => true) true Try.f5.params.toList args.toList ds p := hA0
  rw [Try.params5] at hA hval
  obtain ⟨v0, vs0, d0, ds0, p0, q0, hargs, rfl, rfl, h0, r0⟩ := trodAll_cons hA
  obtain ⟨v1, vs1, d1, ds1, p1, q1, rfl, rfl, rfl, h1, r1⟩ := trodAll_cons r0
  obtain ⟨v2, vs2, d2, ds2, p2, q2, rfl, rfl, rfl, h2, r2⟩ := trodAll_cons r1
  obtain ⟨v3, vs3, d3, ds3, p3, q3, rfl, rfl, rfl, h3, r3⟩ := trodAll_cons r2
  obtain ⟨rfl, rfl, rfl⟩ := trodAll_nil r3
  obtain rfl : args = #[v0, v1, v2, v3] := by cases args; simp_all
  obtain ⟨rfl, rfl⟩ := trodVars_none hV
  have k0 := h0
  have lt0 : ∀ x ∈ p0, x.block < W.heap.size := by obtain ⟨m, hm⟩ := k0; exact DataW.trod_lt m _ _ _ hm
  obtain ⟨y0, a0, n0, c0, f0, rfl, w0⟩ := open_mem (hval 0 24 v0 rfl rfl) h0
  obtain ⟨a1, rfl, rfl, rfl, w1⟩ := open_int Try.underlying25 (hval 1 25 v1 rfl rfl) h1
  obtain ⟨a2, rfl, rfl, rfl, w2⟩ := open_int Try.underlying25 (hval 2 25 v2 rfl rfl) h2
  obtain ⟨a3, rfl, rfl, rfl⟩ := open_bool Try.underlying4 (hval 3 4 v3 rfl rfl) h3
  clear hA0 hval0
  refine (walk W y0 a0 n0 c0 f0 w0 a1 w1 a2 w2 a3).mono fun e W' ⟨he, bel⟩ => ?_
  subst he
  exact ⟨_, rfl, _, _, _, [], _, [], hW', trodAll_mk1 (shut_bool Try.underlying4 _), (trodAll_cons_mk (Below.trod laidOut (by kernel_rfl) (of_decide_eq_true (by kernel_rfl)) k0 bel lt0) (trodAll_cons_mk (shut_int Try.underlying25 w1) (trodAll_cons_mk (shut_int Try.underlying25 w2) (trodAll_cons_mk (shut_bool Try.underlying4 _) trodAll_mk0)))), rfl, bel.frame _, fun h => by cases h⟩

theorem over : Rows.StoreBackSaid :=
  OpenClaim.holds_of_wide 5 Try.f5 rfl rfl rfl rfl rfl rfl rfl ⟨rfl, rfl, rfl, rfl, rfl⟩ rfl rfl rfl rfl rfl (by kernel_rfl) Try.func5 (by kernel_rfl)
    (of_decide_eq_true (by kernel_rfl)) (by unfold Func.isWrapper; first | (rw [if_pos (by decide +kernel)]; kernel_rfl) | (rw [if_neg (by decide +kernel)]; exact ⟨rfl, rfl⟩))
    (fun os started H enc _ => lifted os started H enc)
end Go.Proofs.Ytjadepeohljljaa.storeBack

namespace Go.Proofs.Ytjadepeohljljaa
theorem StoreBack_holds : Rows.StoreBackSaid := storeBack.over
#print axioms StoreBack_holds
end Go.Proofs.Ytjadepeohljljaa
