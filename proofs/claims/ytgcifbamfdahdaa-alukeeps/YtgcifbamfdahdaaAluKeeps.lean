/- For every number and word AluKeeps returns true: what Const answers is new memory: it may be written, and the next answer is as the first one was. No condition. -/
import Derived.Test.YtgcifbamfdahdaaFrame
import Derived.Test.YtgcifbamfdahdaaAluAwake
import Derived.Deep.RegionHeld3
import Derived.WalkKit
import Derived.ProofKit
namespace Go.Proofs.Ytgcifbamfdahdaa.aluKeeps
open Go.ChangeShapes Go.WideShapes Go.ChangeAt Go.RowKit Go.Sort
set_option linter.unusedVariables false

theorem walk_out (a0 a1 : Int) (w : World) (h : a0 < 1 ∨ 15 < a0) :
    Calls Try.prog 7 #[.int .i64 a0, .int .u32 a1] w fun e w' => e = .returned (.bool true) ∧ Below w.heap.size w w' := by
  have HC : Hid (∀ W, Calls Try.prog 15 #[.int .i64 a0, .int .u32 a1] W fun e w' => e = .returned (.slice none 0 0) ∧ w' = W) := fun W => const_out a0 a1 W h
  clear h
  go_enter Try.func7, Try.ntmps7
  go_wp2_with (go_at_call 15; refine (HC.out _).mono ?_; rintro e w' ⟨rfl, hw⟩; obtain rfl := hw.symm)
  go_loopw [6, 7] (fun v k wr => v = .slice none 0 0 ∧ k = .int .i64 0 ∧ wr = w) (fun _ _ _ => 0)
  case atStart => exact ⟨rfl, rfl, rfl⟩
  case round =>
    obtain ⟨rfl, rfl, hw⟩ := hrel
    obtain rfl := hw.symm
    go_wp2_with (first
      | (go_at_call 8; refine (awake_any _).mono ?_; rintro e w1 ⟨rfl, hb1⟩)
      | (go_at_call 15; refine (HC.out _).mono ?_; rintro e w' ⟨rfl, hw⟩; obtain rfl := hw.symm)
      | (go_at_call 17; refine (same_empty _ _ _ _ _).mono ?_; rintro e w2 ⟨rfl, hb2⟩))
    go_ret
    exact ⟨rfl, bnext hb1 hb2⟩
set_option maxHeartbeats 2000000 in
theorem walk_in (a0 a1 : Int) (n : Nat) (o a b c i : Nat → Int) (w : World) (hn : n ≤ 2)
    (HC : Hid (∀ W, Calls Try.prog 15 #[.int .i64 a0, .int .u32 a1] W fun e w' => ∃ g cap, e = .returned (.slice (some ⟨g, 0, none⟩) n cap) ∧ W.heap.size ≤ g ∧ RowF w' g n o a b c i ∧ Free w' g ∧ Below W.heap.size W w')) (hn0 : 0 < n) :
    Calls Try.prog 7 #[.int .i64 a0, .int .u32 a1] w fun e w' => e = .returned (.bool true) ∧ Below w.heap.size w w' := by
  obtain ⟨i0, hi, hz0, hz1, hz2⟩ := info_parts info23
  go_enter Try.func7, Try.ntmps7
  go_wp2_with (go_at_call 15; refine (HC.out _).mono ?_; rintro e w1 ⟨g, cap, rfl, hg, hrow, hfree, hb1⟩)
  have HB1 : Hid (Below w.heap.size w w1) := hb1
  have HG : Hid (g < w1.heap.size) := hfree.2
  go_loopw [6, 7] (fun v k wr => ∃ j : Nat, j ≤ n ∧ k = .int .i64 j ∧ wr.ownsRow w1.heap.size 23 5 v j (cellsF o a b c i j) ∧ Below w.heap.size w wr ∧ (∀ m, j ≤ m → m < n →
    wr.cell? ⟨g, m * 5, none⟩ = some (.int .i64 (o m)) ∧ wr.cell? ⟨g, m * 5 + 1, none⟩ = some (.int .i64 (a m)) ∧ wr.cell? ⟨g, m * 5 + 2, none⟩ = some (.int .i64 (b m)) ∧
    wr.cell? ⟨g, m * 5 + 3, none⟩ = some (.int .i64 (c m)) ∧ wr.cell? ⟨g, m * 5 + 4, none⟩ = some (.int .i64 (i m))) ∧ (∀ q, wr.frozen? ⟨g, q, none⟩ = false) ∧ w1.heap.size ≤ wr.heap.size) (fun _ k _ => n - (intOf k).toNat)
  case atStart => exact ⟨0, Nat.zero_le _, rfl, World.ownsRow_nil _ _ _ _, hb1, fun m _ hm => hrow m hm, hfree.1, Nat.le_refl _⟩
  case round =>
    obtain ⟨j, hj, rfl, hown, hbel, hcells, hfz, hsz⟩ := hrel
    have HB : Hid (Below w.heap.size w wr) := hbel
    have HO : Hid (_ ∧ _) := ⟨hown, hsz⟩
    clear hb1 hrow hfree hbel
    by_cases hlt : j < n
    · obtain ⟨q0, q1, q2, q3, q4⟩ := hcells j (Nat.le_refl _) hlt
      have HQ : Hid (∀ m, j ≤ m → m < n →
        wr.cell? ⟨g, m * 5, none⟩ = some (.int .i64 (o m)) ∧ wr.cell? ⟨g, m * 5 + 1, none⟩ = some (.int .i64 (a m)) ∧ wr.cell? ⟨g, m * 5 + 2, none⟩ = some (.int .i64 (b m)) ∧
        wr.cell? ⟨g, m * 5 + 3, none⟩ = some (.int .i64 (c m)) ∧ wr.cell? ⟨g, m * 5 + 4, none⟩ = some (.int .i64 (i m))) := hcells
      have HF : Hid (∀ q, wr.frozen? ⟨g, q, none⟩ = false) := hfz
      clear hcells hfz
      go_wp2_with (at_builtin; refine wpList_append_own _ rfl _ _ 31 rfl w1.heap.size 23 i0 _ 5 40 Try.underlying31 hi hz0 hz1 hz2 rfl (by decide) _ _ _ rfl (hown.alloc _) ⟨wr.heap.size, 0, none⟩ 1 1 [.int .i64 (o j), .int .i64 (a j), .int .i64 (b j), .int .i64 (c j), .int .i64 (i j)] rfl rfl ?c1 ?c2 ?c3 ?c4 ?c5 ?_)
      case c1 => intro m u hm; rw [show (⟨wr.heap.size, 0, none⟩ : Addr).add m = ⟨wr.heap.size, m, none⟩ from by cases m <;> simp [Addr.add]]; exact new_cell' wr #[.int .i64 (o j), .int .i64 (a j), .int .i64 (b j), .int .i64 (c j), .int .i64 (i j)] 23 m u (by simpa using hm)
      case c2 => intro u hu; simp at hu; rcases hu with rfl | rfl | rfl | rfl | rfl <;> rfl
      case c3 => unfold maxLen; omega
      case c4 => omega
      case c5 => simp; omega
      intro v2 w2 hown2 hgrow2 _
      have hown2' : w2.ownsRow w1.heap.size 23 5 v2 (j + 1) (cellsF o a b c i (j + 1)) := hown2
      have hv := hown.lt
      have hk : w2.heap[g]? = wr.heap[g]? :=
        (hgrow2.block g (by have := HG.out; simp; omega) (fun e => by have := (hv g e.symm).1; have := HG.out; omega)).trans (((Below.refl wr.heap.size wr).alloc (Nat.le_refl _) _).block g (by have := HG.out; omega))
      have HK : Hid (w2.heap[g]? = wr.heap[g]?) := hk
      have HB2 : Hid (Below w.heap.size w w2) := (HB.out.alloc HB.out.size _).grown hgrow2 (by have := HB.out.size; simp; omega) (fun q hq => Nat.le_trans HB1.out.size (hv q hq).1)
      have HO2 : Hid (w2.ownsRow w1.heap.size 23 5 v2 (j + 1) (cellsF o a b c i (j + 1))) := hown2'
      have HS2 : Hid (w1.heap.size ≤ w2.heap.size) := by have := hgrow2.size; simp at this; unfold Hid; omega
      have p0 : w2.cell? ⟨g, j * 5, none⟩ = some (.int .i64 (o j)) := (World.cell?_of_block (a := ⟨g, j * 5, none⟩) hk).trans q0
      have f0 : w2.frozen? ⟨g, j * 5, none⟩ = false := (World.frozen?_of_block (a := ⟨g, j * 5, none⟩) hk).trans (HF.out _)
      clear hv hk hown2 hown2' hgrow2 hown q0 q1 q2 q3 q4 HO
      go_wp2
      go_roundw
      case rel =>
        refine ⟨j + 1, by omega, by go_num, ownsRow_setCell_below HO2.out HG.out _, HB2.out.setCell hg _, fun m h1 h2 => ?_, fun q => ?_, by simpa using HS2.out⟩
        · obtain ⟨e0, e1, e2, e3, e4⟩ := HQ.out m (by omega) h2
          refine ⟨?_, ?_, ?_, ?_, ?_⟩
          · rw [World.cell?_setCell_other _ _ _ _ (by simp <;> omega)]; exact (World.cell?_of_block (a := ⟨g, _, none⟩) HK.out).trans e0
          · rw [World.cell?_setCell_other _ _ _ _ (by simp <;> omega)]; exact (World.cell?_of_block (a := ⟨g, _, none⟩) HK.out).trans e1
          · rw [World.cell?_setCell_other _ _ _ _ (by simp <;> omega)]; exact (World.cell?_of_block (a := ⟨g, _, none⟩) HK.out).trans e2
          · rw [World.cell?_setCell_other _ _ _ _ (by simp <;> omega)]; exact (World.cell?_of_block (a := ⟨g, _, none⟩) HK.out).trans e3
          · rw [World.cell?_setCell_other _ _ _ _ (by simp <;> omega)]; exact (World.cell?_of_block (a := ⟨g, _, none⟩) HK.out).trans e4
        · rw [World.frozen?_setCell]; exact (World.frozen?_of_block (a := ⟨g, q, none⟩) HK.out).trans (HF.out q)
      case measure => simp [intOf]; omega
    · obtain rfl : j = n := by omega
      obtain ⟨g2, cap2, rfl, _⟩ := owned_slice hown hn0
      have HR2 : Hid (RowF wr g2 j o a b c i) := row_of_owns hown
      clear hown HO hcells hfz
      go_wp2_with (first
        | (go_at_call 8; refine (awake_any _).mono ?_; rintro e w2 ⟨rfl, hb2⟩)
        | (go_at_call 15; refine (HC.out _).mono ?_; rintro e w3 ⟨g3, cap3, rfl, _, hr3, _, hb3⟩; have HR3 : Hid (RowF w3 g3 j o a b c i) := hr3; clear hr3)
        | (go_at_call 17; refine (same_rows _ g3 g2 j _ _ o a b c i (by omega) HR3.out ((HR2.out.later hb2).later hb3)).mono ?_; rintro e w4 ⟨rfl, hb4⟩))
      go_ret
      exact ⟨rfl, bnext (bnext (bnext HB.out hb2) hb3) hb4⟩
theorem walk (a0 : Int) (w0 : (Lit.int .i64 a0).wf = true) (a1 : Int) (w1 : (Lit.int .u32 a1).wf = true) (w : World) :
    Calls Try.prog 7 #[.int .i64 a0, .int .u32 a1] w fun e w' => e = .returned (.bool true) ∧ Below w.heap.size w w' := by
  obtain ⟨x0, x1⟩ := wf_u32_bd w1
  by_cases ha : a0 < 1 ∨ 15 < a0
  · exact walk_out a0 a1 w ha
  · refine walk_in a0 a1 (constN a1) _ _ _ _ _ w ?_ (fun W => const_any a0 a1 W (by omega) (by omega) x0 x1) ?_
    · unfold constN; repeat' split
      all_goals omega
    · unfold constN; repeat' split
      all_goals omega

/-! ### The row's step -/
set_option maxRecDepth 100000 in
theorem lifted (os : Os) (started : os.Started) (H : Type) (enc : TypeId × Value → H) :
    ReturnsInHanded {} Try.checked os 7 .any (Rows.aluKeepsSpec.pre6 enc Try.prog Try.f7 Rows.aluKeepsRow.domain false) (Rows.aluKeepsSpec.post enc Try.prog Try.f7 false true false false) := by
  refine returnsInHanded_of_change (C := Try.checked) own started (by kernel_rfl) Try.func7
    (ChangeSpec.witness6 (enc := enc) (C := Try.checked) false ⟨#[], #[.int .i64 0, .int .u32 0], []⟩ 8 (by kernel_rfl) (by kernel_rfl) (by kernel_rfl) (by kernel_rfl)) ?_
  intro W base args ds gs before hval0 hW hcnd _
  have hval : ∀ (j : Nat) t v, Try.f7.params[j]? = some t → args[j]? = some v → Value.okWide Try.prog W .any base t v := hval0
  have hW' := hW
  obtain ⟨p, q, hA0, hV, rfl, hfz, hnd⟩ := hW
  have hA : DataW.TrodAll enc Try.prog W 0 (fun _ => true) true Try.f7.params.toList args.toList ds p := hA0
  rw [Try.params7] at hA hval
  obtain ⟨v0, vs0, d0, ds0, p0, q0, hargs, rfl, rfl, h0, r0⟩ := trodAll_cons hA
  obtain ⟨v1, vs1, d1, ds1, p1, q1, rfl, rfl, rfl, h1, r1⟩ := trodAll_cons r0
  obtain ⟨rfl, rfl, rfl⟩ := trodAll_nil r1
  obtain rfl : args = #[v0, v1] := by cases args; simp_all
  obtain ⟨rfl, rfl⟩ := trodVars_none hV
  obtain ⟨a0, rfl, rfl, rfl, w0⟩ := open_int Try.underlying3 (hval 0 3 v0 rfl rfl) h0
  obtain ⟨a1, rfl, rfl, rfl, w1⟩ := open_int Try.underlying24 (hval 1 24 v1 rfl rfl) h1
  clear hA0 hval0
  refine (walk a0 w0 a1 w1 W).mono fun e W' ⟨he, bel⟩ => ?_
  subst he
  exact ⟨_, rfl, _, _, _, [], _, [], hW', trodAll_mk1 (shut_bool Try.underlying4 _), (trodAll_cons_mk (shut_int Try.underlying3 w0) (trodAll_cons_mk (shut_int Try.underlying24 w1) trodAll_mk0)), rfl, bel.frame _, fun h => by cases h⟩

theorem over : Rows.AluKeepsSaid :=
  OpenClaim.holds_of_wide 7 Try.f7 rfl rfl rfl rfl rfl rfl rfl ⟨rfl, rfl, rfl, rfl, rfl⟩ rfl rfl rfl rfl rfl (by kernel_rfl) Try.func7 (by kernel_rfl)
    (of_decide_eq_true (by kernel_rfl)) (by unfold Func.isWrapper; first | (rw [if_pos (by decide +kernel)]; kernel_rfl) | (rw [if_neg (by decide +kernel)]; exact ⟨rfl, rfl⟩))
    (fun os started H enc _ => lifted os started H enc)
end Go.Proofs.Ytgcifbamfdahdaa.aluKeeps

namespace Go.Proofs.Ytgcifbamfdahdaa
theorem AluKeeps_holds : Rows.AluKeepsSaid := aluKeeps.over
#print axioms AluKeeps_holds
end Go.Proofs.Ytgcifbamfdahdaa
