/- For every instruction FlowPure returns true: what is pure, or a load, writes its register A alone, and what is read are its registers, rising, none of them 0, at most two. No condition. -/
import Derived.Test.YtccfgnnfibblkaaFrame
import Derived.Test.YtccfgnnfibblkaaFlowAwake
import Derived.Test.YtccfgnnfibblkaaFlowMath
import Derived.Test.YtccfgnnfibblkaaCodeRef
import Derived.Deep.QuietTactic
import Derived.BigQuiet
import Derived.Deep.Cut
import Derived.Deep.CutRange
import Derived.WalkKit
import Derived.ProofKit
namespace Go.Proofs.Ytccfgnnfibblkaa.flowPure
open Go.ChangeShapes Go.WideShapes Go.ChangeAt Go.RowKit Go.Sort
set_option linter.unusedVariables false

theorem risen_one {x : Int} (h0 : 0 ≤ x) (h1 : x < 16) : risingL [x] = [] ∨ risingL [x] = [x] ∧ 1 ≤ x := by
  rw [rising_one]
  by_cases h : x = 0
  · exact .inl (if_pos h)
  · exact .inr ⟨if_neg h, by omega⟩
theorem risen_two {x y : Int} (h0 : 0 ≤ x) (h1 : x < 16) (g0 : 0 ≤ y) (g1 : y < 16) : risingL [x, y] = [] ∨ (risingL [x, y] = [x] ∧ 1 ≤ x) ∨ (risingL [x, y] = [y] ∧ 1 ≤ y) ∨ (risingL [x, y] = [x, y] ∧ 1 ≤ x ∧ x < y) ∨ (risingL [x, y] = [y, x] ∧ 1 ≤ y ∧ y < x) := by
  rw [rising_two]
  by_cases h : x = y
  · subst h
    rw [if_pos rfl]
    by_cases h : x = 0
    · exact .inl (if_pos h)
    · exact .inr (.inl ⟨if_neg h, by omega⟩)
  · rw [if_neg h]
    by_cases g : x ≤ y
    · rw [Int.min_eq_left g, Int.max_eq_right g]
      have hy : ¬ y = 0 := by omega
      by_cases hx : x = 0
      · right; right; left; exact ⟨by simp [hx, hy], by omega⟩
      · right; right; right; left; exact ⟨by simp [hx, hy], by omega, by omega⟩
    · rw [Int.min_eq_right (by omega), Int.max_eq_left (by omega)]
      have hx : ¬ x = 0 := by omega
      by_cases hy : y = 0
      · right; left; exact ⟨by simp [hx, hy], by omega⟩
      · right; right; right; right; exact ⟨by simp [hx, hy], by omega, by omega⟩
/-- Each number of the list is a register of the instruction, none 0; they rise. -/
def Good (a b c : Int) (L : List Int) : Prop := ∀ k, k < L.length → 1 ≤ L.toArray[k]! ∧ L.toArray[k]! ≤ 15 ∧ (0 < k → L.toArray[k - 1]! < L.toArray[k]!) ∧ (L.toArray[k]! = a ∨ L.toArray[k]! = b ∨ L.toArray[k]! = c)
theorem good_one {a b c x : Int} (h0 : 1 ≤ x) (h1 : x ≤ 15) (h : x = a ∨ x = b ∨ x = c) : Good a b c [x] := by
  intro k hk
  obtain rfl : k = 0 := by simpa using hk
  exact ⟨h0, h1, by omega, h⟩
theorem good_two {a b c x y : Int} (h0 : 1 ≤ x) (h1 : x < y) (h2 : y ≤ 15) (h : x = a ∨ x = b ∨ x = c) (g : y = a ∨ y = b ∨ y = c) : Good a b c [x, y] := by
  intro k hk
  have hk' : k < 2 := by simpa using hk
  rcases (by omega : k = 0 ∨ k = 1) with rfl | rfl
  · exact ⟨h0, by show x ≤ 15; omega, by omega, h⟩
  · exact ⟨by show 1 ≤ y; omega, h2, fun _ => h1, g⟩
theorem good_none {a b c : Int} : Good a b c [] := fun k hk => absurd hk (by simp)
theorem read_good (op a b c : Int) (a0 : 0 ≤ a) (a1 : a < 16) (b0 : 0 ≤ b) (b1 : b < 16) (c0 : 0 ≤ c) (c1 : c < 16) : Good a b c (readL op a b c) := by
  have two : ∀ x y : Int, 0 ≤ x → x < 16 → 0 ≤ y → y < 16 → (x = a ∨ x = b ∨ x = c) → (y = a ∨ y = b ∨ y = c) → Good a b c (risingL [x, y]) := by
    intro x y x0 x1 y0 y1 hx hy
    rcases risen_two x0 x1 y0 y1 with e | ⟨e, h⟩ | ⟨e, h⟩ | ⟨e, h, h'⟩ | ⟨e, h, h'⟩ <;> rw [e]
    · exact good_none
    · exact good_one h (by omega) hx
    · exact good_one h (by omega) hy
    · exact good_two h h' (by omega) hx hy
    · exact good_two h h' (by omega) hy hx
  have one : ∀ x : Int, 0 ≤ x → x < 16 → (x = a ∨ x = b ∨ x = c) → Good a b c (risingL [x]) := by
    intro x x0 x1 hx
    rcases risen_one x0 x1 with e | ⟨e, h⟩ <;> rw [e]
    · exact good_none
    · exact good_one h (by omega) hx
  unfold readL rawL
  repeat' split
  · exact two c b c0 c1 b0 b1 (.inr (.inr rfl)) (.inr (.inl rfl))
  · exact one b b0 b1 (.inr (.inl rfl))
  · exact two b a b0 b1 a0 a1 (.inr (.inl rfl)) (.inl rfl)
  · exact one a a0 a1 (.inl rfl)
  · rw [rising_nil]; exact good_none
theorem pure_facts (op a : Int) (h0 : 0 ≤ op) (h1 : op < 26) (a0 : 0 ≤ a) (a1 : a < 16) : (writesZ op a = -1) ∨ (writesZ op a = a ∧ 1 ≤ a ∧ kindZ op < 2) := by
  unfold writesZ
  split
  · rename_i h
    refine .inr ⟨rfl, by omega, ?_⟩
    unfold kindZ
    repeat' split
    all_goals omega
  · exact .inl rfl
theorem ret_len {n : Nat} (h : n ≤ 2) : Ending.returned (.bool (decide ((n : Int) ≤ 2))) = .returned (.bool true) := by rw [decide_eq_true (by omega)]
set_option maxRecDepth 100000 in
set_option maxHeartbeats 16000000 in
theorem walk (op a b c imm : Int) (wf : (Lit.int .i64 op).wf = true ∧ (Lit.int .i64 a).wf = true ∧ (Lit.int .i64 b).wf = true ∧ (Lit.int .i64 c).wf = true ∧ (Lit.int .i64 imm).wf = true) (w : World) :
    Calls Try.prog 5 #[.agg #[.int .i64 op, .int .i64 a, .int .i64 b, .int .i64 c, .int .i64 imm]] w fun e w' => e = .returned (.bool true) ∧ Below w.heap.size w w' := by
  clear wf
  have HG : Hid (∀ W, Calls Try.prog 9 #[.agg #[.int .i64 op, .int .i64 a, .int .i64 b, .int .i64 c, .int .i64 imm]] W fun e w' => e = .returned (.bool (rightB op a b c imm)) ∧ Below W.heap.size W w') := fun W => rright_any op a b c imm W
  cases hr : rightB op a b c imm
  · rw [hr] at HG
    go_enter Try.func5, Try.ntmps5
    go_wp2_with (first
      | (go_at_call 9; refine (HG.out _).mono ?_; rintro e w2 ⟨rfl, hb2⟩)
      | (go_at_call 8; revert hb2; intro hb2; refine (awake_any _).mono ?_; rintro e w3 ⟨rfl, hb3⟩)
      | (go_at_call 8; refine (awake_any _).mono ?_; rintro e w1 ⟨rfl, hb1⟩; obtain ⟨x0, x1, x2, x3, x4⟩ := (InsAt.new w op a b c imm 23).later hb1))
    go_ret
    exact ⟨rfl, (bnext ((bnext (((Below.refl _ w).alloc (Nat.le_refl _) _).trans (hb1.mono (by simp))) hb2)) hb3)⟩
  · rw [hr] at HG
    obtain ⟨a0, a1, b0, b1, c0, c1⟩ := right_regs _ _ _ _ _ hr
    have hop : 0 ≤ op ∧ op < 26 := by simp [rightB] at hr; omega
    have hlen := read_two op a b c
    have hgood := read_good op a b c a0 a1 b0 b1 c0 c1
    have hpure := pure_facts op a hop.1 hop.2 a0 a1
    have k1 := fun W => kind_any op a b c imm W hop.1 hop.2
    have k3 := fun W => writes_any op a b c imm W hop.1 hop.2
    have k5 := fun W => reads_any op a b c imm W hop.1 hop.2
    generalize readL op a b c = L at k5 hlen hgood
    generalize kindZ op = K at k1 hpure
    generalize writesZ op a = Z at k3 hpure
    have K1 : Hid _ := k1
    have K3 : Hid _ := k3
    have K5 : Hid _ := k5
    have HGood : Hid (Good a b c L) := hgood
    clear k1 k3 k5 hop b0 b1 c0 c1 hr hgood
    have hp3 : (Z = -1 ∧ 2 ≤ K) ∨ (Z = -1 ∧ ¬ 2 ≤ K) ∨ (Z = a ∧ 1 ≤ a ∧ ¬ 2 ≤ K) := by
      rcases hpure with h | ⟨h, h1, h2⟩
      · by_cases hK : 2 ≤ K
        · exact .inl ⟨h, hK⟩
        · exact .inr (.inl ⟨h, hK⟩)
      · exact .inr (.inr ⟨h, h1, by omega⟩)
    clear hpure
    have a2 : a ≤ 15 := by omega
    clear a1
    go_enter Try.func5, Try.ntmps5
    go_upto_region 5 with (first
      | (go_at_call 9; refine (HG.out _).mono ?_; rintro e w2 ⟨rfl, hb2⟩; have Q2 := Q1.later hb2; obtain ⟨y0, y1, y2, y3, y4⟩ := id Q2)
      | (go_at_call 8; refine (awake_any _).mono ?_; rintro e w1 ⟨rfl, hb1⟩; have Q1 := (InsAt.new w op _ b c imm 23).later hb1; obtain ⟨x0, x1, x2, x3, x4⟩ := id Q1)
      | (go_at_call 12; refine (K3.out _).mono ?_; rintro e w3 ⟨rfl, hb3⟩; have Q3 := Q2.later hb3; obtain ⟨z0, z1, z2, z3, z4⟩ := id Q3)
      | (go_at_call 15; refine (K5.out _).mono ?_; rintro e w4 ⟨v4, rfl, ⟨a4, c4, rfl, hi4⟩, hb4⟩; have Q4 := Q3.later hb4; obtain ⟨u0, u1, u2, u3, u4⟩ := id Q4))
    have HB4 : Hid (Below w.heap.size w w4) := (bnext ((bnext ((bnext (((Below.refl _ w).alloc (Nat.le_refl _) _).trans (hb1.mono (by simp))) hb2)) hb3)) hb4)
    clear hb1 hb2 hb3 hb4 x0 x1 x2 x3 x4 y0 y1 y2 y3 y4 z0 z1 z2 z3 z4 Q1 Q2 Q3 K3 K5 HG
    go_cut [42] from 18 to 42 (fun t wx => t = .bool false ∧ Below w4.heap.size w4 wx)
    case first =>
      rcases hp3 with ⟨rfl, hK⟩ | ⟨rfl, hK⟩ | ⟨hZ, hz, hK⟩
      rotate_left 2
      subst Z
      have zb : (a == 0) = false := by simp; omega
      have zc : decide (15 < a) = false := by simp; omega
      all_goals
        go_wp2_with (go_at_call 11; refine (K1.out _).mono ?_; rintro e w5 ⟨rfl, hb5⟩)
        go_meet
        case rel => exact ⟨rfl, hb5⟩
    case rest =>
      obtain ⟨rfl, hbc⟩ := hcut
      have HB5 : Hid (Below w.heap.size w wc) := (bnext HB4.out hbc)
      have Q5 := Q4.later hbc
      have hi5 : L = [] ∨ ∃ g, a4 = some ⟨g, 0, none⟩ ∧ g < wc.heap.size ∧ Holds encI wc g 0 L.toArray := by
        rcases hi4 with h | ⟨g, rfl, h1, h2, h3⟩
        · exact .inl h
        · exact .inr ⟨g, rfl, Nat.lt_of_lt_of_le h2 hbc.size, holds_later h3 hbc h2⟩
      clear hi4 hbc K1 hp3 Q4
      go_wp2
      go_loopw [5] (fun i wr => ∃ k : Nat, k ≤ L.length ∧ i = .int .i64 k ∧ Below wc.heap.size wc wr) (fun i _ => L.length - (intOf i).toNat)
      case atStart => exact ⟨0, Nat.zero_le _, rfl, Below.refl _ _⟩
      case round =>
        obtain ⟨k, hk, rfl, hbel⟩ := hrel
        have HBr : Hid (Below wc.heap.size wc wr) := hbel
        clear hbel
        by_cases hlt : k < L.length
        · rcases hi5 with h | ⟨g, rfl, hg, hH⟩
          · rw [h] at hlt; simp at hlt
          obtain ⟨g1, g2, g3, g4⟩ := HGood.out k hlt
          obtain ⟨i0, i1, i2, i3, i4⟩ := Q5.later HBr.out
          have ck := (holds_later hH HBr.out hg k (by simpa using hlt)).1
          rw [Nat.zero_add] at ck
          rcases (by cases k; exact .inl rfl; exact .inr ⟨_, rfl⟩ : k = 0 ∨ ∃ m, k = m + 1) with rfl | ⟨m, rfl⟩
          · clear g3 hH
            generalize L.toArray[0]! = x at g1 g2 g4 ck
            have ck : wr.cell? ⟨g, 0, none⟩ = some (.int .i64 x) := ck
            have d1 : decide (x < 1) = false := by simp; omega
            have d2 : decide (15 < x) = false := by simp; omega
            obtain ⟨h, ha, hb⟩ | ⟨ha, hb⟩ | ha : ((x = c ∧ ¬ x = a ∧ ¬ x = b) ∨ (x = b ∧ ¬ x = a) ∨ x = a) := by omega
            · subst h
              clear g4
              have da : (x != a) = true := by simpa using ha
              have db : (x != b) = true := by simpa using hb
              clear ha hb
              go_wp2
              go_quiet (fail)
              go_wp2
              go_roundw
              case rel => exact ⟨1, by omega, by go_num, below_drewN' HBr.out _⟩
              case measure => simp [intOf]; omega
            · subst ha
              clear g4
              have da : (x != a) = true := by simpa using hb
              clear hb
              go_wp2
              go_quiet (fail)
              go_wp2
              go_roundw
              case rel => exact ⟨1, by omega, by go_num, below_drewN' HBr.out _⟩
              case measure => simp [intOf]; omega
            · subst ha
              clear g4
              go_wp2
              go_quiet (fail)
              go_wp2
              go_roundw
              case rel => exact ⟨1, by omega, by go_num, below_drewN' HBr.out _⟩
              case measure => simp [intOf]; omega
          · have g3' := g3 (by omega)
            have cm := (holds_later hH HBr.out hg m (by simp; omega)).1
            rw [Nat.zero_add] at cm
            rw [show m + 1 - 1 = m from rfl] at g3'
            clear g3 hH
            generalize L.toArray[m]! = y at g3' cm
            generalize L.toArray[m + 1]! = x at g1 g2 g3' g4 ck
            have ck : wr.cell? ⟨g, m + 1, none⟩ = some (.int .i64 x) := ck
            have cm : wr.cell? ⟨g, m, none⟩ = some (.int .i64 y) := cm
            have d3 : decide (x ≤ y) = false := by simp; omega
            have d1 : decide (x < 1) = false := by simp; omega
            have d2 : decide (15 < x) = false := by simp; omega
            obtain ⟨h, ha, hb⟩ | ⟨ha, hb⟩ | ha : ((x = c ∧ ¬ x = a ∧ ¬ x = b) ∨ (x = b ∧ ¬ x = a) ∨ x = a) := by omega
            · subst h
              clear g4
              have da : (x != a) = true := by simpa using ha
              have db : (x != b) = true := by simpa using hb
              clear ha hb
              go_wp2
              go_quiet (fail)
              go_wp2
              go_roundw
              case rel => exact ⟨m + 2, by omega, by go_num, below_drewN' HBr.out _⟩
              case measure => simp [intOf]; omega
            · subst ha
              clear g4
              have da : (x != a) = true := by simpa using hb
              clear hb
              go_wp2
              go_quiet (fail)
              go_wp2
              go_roundw
              case rel => exact ⟨m + 2, by omega, by go_num, below_drewN' HBr.out _⟩
              case measure => simp [intOf]; omega
            · subst ha
              clear g4
              go_wp2
              go_quiet (fail)
              go_wp2
              go_roundw
              case rel => exact ⟨m + 2, by omega, by go_num, below_drewN' HBr.out _⟩
              case measure => simp [intOf]; omega
        · obtain rfl : k = L.length := by omega
          go_wp2
          go_ret
          exact ⟨ret_len hlen, (bnext HB5.out HBr.out)⟩

/-! ### The row's step -/
set_option maxRecDepth 100000 in
theorem lifted (os : Os) (started : os.Started) (H : Type) (enc : TypeId × Value → H) :
    ReturnsInHanded {} Try.checked os 5 .any (Rows.flowPureSpec.pre6 enc Try.prog Try.f5 Rows.flowPureRow.domain false) (Rows.flowPureSpec.post enc Try.prog Try.f5 false true false false) := by
  refine returnsInHanded_of_change (C := Try.checked) own started (by kernel_rfl) Try.func5
    (ChangeSpec.witness6 (enc := enc) (C := Try.checked) false ⟨#[], #[.agg #[.int .i64 0, .int .i64 0, .int .i64 0, .int .i64 0, .int .i64 0]], []⟩ 8 (by kernel_rfl) (by kernel_rfl) (by kernel_rfl) (by kernel_rfl)) ?_
  intro W base args ds gs before hval0 hW hcnd _
  have hval : ∀ (j : Nat) t v, Try.f5.params[j]? = some t → args[j]? = some v → Value.okWide Try.prog W .any base t v := hval0
  have hW' := hW
  obtain ⟨p, q, hA0, hV, rfl, hfz, hnd⟩ := hW
  have hA : DataW.TrodAll enc Try.prog W 0 (fun _ => true) true Try.f5.params.toList args.toList ds p := hA0
  rw [Try.params5] at hA hval
  obtain ⟨v0, vs0, d0, ds0, p0, q0, hargs, rfl, rfl, h0, r0⟩ := trodAll_cons hA
  obtain ⟨rfl, rfl, rfl⟩ := trodAll_nil r0
  obtain rfl : args = #[v0] := by cases args; simp_all
  obtain ⟨rfl, rfl⟩ := trodVars_none hV
  have k0 := h0
  have lt0 : ∀ x ∈ p0, x.block < W.heap.size := by obtain ⟨m, hm⟩ := k0; exact DataW.trod_lt m _ _ _ hm
  obtain ⟨o0, a0, b0, c0, m0, rfl, w0⟩ := open_ins (hval 0 23 v0 rfl rfl) h0
  clear hA0 hval0
  refine (walk o0 a0 b0 c0 m0 w0 W).mono fun e W' ⟨he, bel⟩ => ?_
  subst he
  exact ⟨_, rfl, _, _, _, [], _, [], hW', trodAll_mk1 (shut_bool Try.underlying4 _), (trodAll_cons_mk (Below.trod laidOut (by kernel_rfl) (of_decide_eq_true (by kernel_rfl)) k0 bel lt0) trodAll_mk0), rfl, bel.frame _, fun h => by cases h⟩

theorem over : Rows.FlowPureSaid :=
  OpenClaim.holds_of_wide 5 Try.f5 rfl rfl rfl rfl rfl rfl rfl ⟨rfl, rfl, rfl, rfl, rfl⟩ rfl rfl rfl rfl rfl (by kernel_rfl) Try.func5 (by kernel_rfl)
    (of_decide_eq_true (by kernel_rfl)) (by unfold Func.isWrapper; first | (rw [if_pos (by decide +kernel)]; kernel_rfl) | (rw [if_neg (by decide +kernel)]; exact ⟨rfl, rfl⟩))
    (fun os started H enc _ => lifted os started H enc)
end Go.Proofs.Ytccfgnnfibblkaa.flowPure

namespace Go.Proofs.Ytccfgnnfibblkaa
theorem FlowPure_holds : Rows.FlowPureSaid := flowPure.over
#print axioms FlowPure_holds
end Go.Proofs.Ytccfgnnfibblkaa
