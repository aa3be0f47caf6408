/- What the code takes of bytes: relocations and notes. -/
import Derived.Test.YtcbhnpjaaaefiaaObjTk1
namespace Go.Proofs.Ytcbhnpjaaaefiaa
open Go.ChangeShapes Go.WideShapes Go.ChangeAt Go.RowKit
set_option linter.unusedVariables false
set_option linter.unusedSimpArgs false
/-- Within a call: the scanner, and the result's own block X. -/
structure Tq (O : Nat → Prop) (w : World) (v : Value) (X : Nat) (cs : List Value) (b : Bs) (W : World) : Prop where
  sk : Sk O W v b
  xa : XAt W X cs
  lt : X < W.heap.size
  ap : Apart O w W
  no : ¬ O X ∧ w.heap.size ≤ X
theorem Tq.new {O : Nat → Prop} {w : World} {v : Value} {b : Bs} (h : Sk O w v b) (cs : Array Value) (t : TypeId) : Tq O w v w.heap.size cs.toList b (w.alloc (.cells cs t)) := by
  have up := keep_alloc8 (Below.refl _ w) (.cells cs t)
  exact ⟨h.later up, XAt.new _ _ _, by simp, Apart.of_below up, fun ho => by have := h.lt _ ho; omega, Nat.le_refl _⟩
section
variable {O : Nat → Prop} {w : World} {v : Value} {X : Nat} {cs : List Value} {b b' : Bs} {W W' : World}
theorem Tq.call (h : Tq O w v X cs b W) (hs : Sk O W' v b') (ha : Apart O W W') : Tq O w v X cs b' W' :=
  ⟨hs, h.xa.apart h.lt ha h.no.1, Nat.lt_of_lt_of_le h.lt ha.size, h.ap.same ha, h.no⟩
theorem Tq.far (h : Tq O w v X cs b W) (ha : Apart O W W') : Apart O w W' := h.ap.same ha
/-- The result's block is written to: the end. -/
theorem Tq.fin (h : Tq O w v X cs b W) (ha : Apart (G1 X) W W') : Sk O W' v b ∧ Apart O w W' ∧ Stay (fun k => k ≠ X) W W' :=
  ⟨h.sk.keep ha.size fun k h1 h2 => ha.block k h1 fun e => h.no.1 (by have e' : k = X := e; rw [← e']; exact h2), h.ap.trans ha (fun k e => .inr (by have e' : k = X := e; rw [e']; exact h.no.2)), fun k hk hl => ha.block k hl hk⟩
end
theorem set_apart (W : World) (X i : Nat) (x : Value) : Apart (G1 X) W (W.setCell ⟨X, i, none⟩ x) := apart_set (Below.refl _ _)
theorem sets2 {W : World} {X : Nat} {a0 a1 : Value} (h : XAt W X [a0, a1]) (x0 x1 : Value) : XAt ((W.setCell ⟨X, 0, none⟩ x0).setCell ⟨X, 1, none⟩ x1) X [x0, x1] ∧ Apart (G1 X) W ((W.setCell ⟨X, 0, none⟩ x0).setCell ⟨X, 1, none⟩ x1) := ⟨((h.set 0 (by simp) x0).set 1 (by simp) x1), (set_apart W X 0 x0).same (set_apart _ X 1 x1)⟩
theorem sets3 {W : World} {X : Nat} {a0 a1 a2 : Value} (h : XAt W X [a0, a1, a2]) (x0 x1 x2 : Value) : XAt (((W.setCell ⟨X, 0, none⟩ x0).setCell ⟨X, 1, none⟩ x1).setCell ⟨X, 2, none⟩ x2) X [x0, x1, x2] ∧ Apart (G1 X) W (((W.setCell ⟨X, 0, none⟩ x0).setCell ⟨X, 1, none⟩ x1).setCell ⟨X, 2, none⟩ x2) := ⟨(((h.set 0 (by simp) x0).set 1 (by simp) x1).set 2 (by simp) x2), ((set_apart W X 0 x0).same (set_apart _ X 1 x1)).same (set_apart _ X 2 x2)⟩
theorem sets4 {W : World} {X : Nat} {a0 a1 a2 a3 : Value} (h : XAt W X [a0, a1, a2, a3]) (x0 x1 x2 x3 : Value) : XAt ((((W.setCell ⟨X, 0, none⟩ x0).setCell ⟨X, 1, none⟩ x1).setCell ⟨X, 2, none⟩ x2).setCell ⟨X, 3, none⟩ x3) X [x0, x1, x2, x3] ∧ Apart (G1 X) W ((((W.setCell ⟨X, 0, none⟩ x0).setCell ⟨X, 1, none⟩ x1).setCell ⟨X, 2, none⟩ x2).setCell ⟨X, 3, none⟩ x3) := ⟨((((h.set 0 (by simp) x0).set 1 (by simp) x1).set 2 (by simp) x2).set 3 (by simp) x3), (((set_apart W X 0 x0).same (set_apart _ X 1 x1)).same (set_apart _ X 2 x2)).same (set_apart _ X 3 x3)⟩
theorem sets7 {W : World} {X : Nat} {a0 a1 a2 a3 a4 a5 a6 : Value} (h : XAt W X [a0, a1, a2, a3, a4, a5, a6]) (x0 x1 x2 x3 x4 x5 x6 : Value) : XAt (((((((W.setCell ⟨X, 0, none⟩ x0).setCell ⟨X, 1, none⟩ x1).setCell ⟨X, 2, none⟩ x2).setCell ⟨X, 3, none⟩ x3).setCell ⟨X, 4, none⟩ x4).setCell ⟨X, 5, none⟩ x5).setCell ⟨X, 6, none⟩ x6) X [x0, x1, x2, x3, x4, x5, x6] ∧ Apart (G1 X) W (((((((W.setCell ⟨X, 0, none⟩ x0).setCell ⟨X, 1, none⟩ x1).setCell ⟨X, 2, none⟩ x2).setCell ⟨X, 3, none⟩ x3).setCell ⟨X, 4, none⟩ x4).setCell ⟨X, 5, none⟩ x5).setCell ⟨X, 6, none⟩ x6) := ⟨(((((((h.set 0 (by simp) x0).set 1 (by simp) x1).set 2 (by simp) x2).set 3 (by simp) x3).set 4 (by simp) x4).set 5 (by simp) x5).set 6 (by simp) x6), ((((((set_apart W X 0 x0).same (set_apart _ X 1 x1)).same (set_apart _ X 2 x2)).same (set_apart _ X 3 x3)).same (set_apart _ X 4 x4)).same (set_apart _ X 5 x5)).same (set_apart _ X 6 x6)⟩
theorem results_note {fn : Func} {p : Tmp} (h : fn.results = #[.cell p 46]) (tmps : Array Value) (g : Nat) (hp : tmps.getD p undef = .pointer (some ⟨g, 0, none⟩)) (W : World) (a0 a1 : Value) (hA : XAt W g [a0, a1]) :
    (results fn tmps).run Try.prog W = .ok (.agg #[a0, a1]) W := by
  have hp' : tmps[p]?.getD undef = .pointer (some ⟨g, 0, none⟩) := by simpa using hp
  have e := run_loadVar_mid (P := Try.prog) W g 0 46 [a0, a1] _ (fun j v hv => by rw [Nat.zero_add]; exact hA.1 j v hv) Try.underlying46 rfl (by kernel_rfl)
  simp [results, h, hp', asAddr, e]
theorem results_rel {fn : Func} {p : Tmp} (h : fn.results = #[.cell p 94]) (tmps : Array Value) (g : Nat) (hp : tmps.getD p undef = .pointer (some ⟨g, 0, none⟩)) (W : World) (a0 a1 a2 a3 : Value) (hA : XAt W g [a0, a1, a2, a3]) :
    (results fn tmps).run Try.prog W = .ok (.agg #[a0, a1, a2, a3]) W := by
  have hp' : tmps[p]?.getD undef = .pointer (some ⟨g, 0, none⟩) := by simpa using hp
  have e := run_loadVar_mid (P := Try.prog) W g 0 94 [a0, a1, a2, a3] _ (fun j v hv => by rw [Nat.zero_add]; exact hA.1 j v hv) Try.underlying94 rfl (by kernel_rfl)
  simp [results, h, hp', asAddr, e]
theorem results_func {fn : Func} {p : Tmp} (h : fn.results = #[.cell p 49]) (tmps : Array Value) (g : Nat) (hp : tmps.getD p undef = .pointer (some ⟨g, 0, none⟩)) (W : World) (a0 a1 a2 a3 : Value) (hA : XAt W g [a0, a1, a2, a3]) :
    (results fn tmps).run Try.prog W = .ok (.agg #[a0, a1, a2, a3]) W := by
  have hp' : tmps[p]?.getD undef = .pointer (some ⟨g, 0, none⟩) := by simpa using hp
  have e := run_loadVar_mid (P := Try.prog) W g 0 49 [a0, a1, a2, a3] _ (fun j v hv => by rw [Nat.zero_add]; exact hA.1 j v hv) Try.underlying49 rfl (by kernel_rfl)
  simp [results, h, hp', asAddr, e]
theorem results_data {fn : Func} {p : Tmp} (h : fn.results = #[.cell p 44]) (tmps : Array Value) (g : Nat) (hp : tmps.getD p undef = .pointer (some ⟨g, 0, none⟩)) (W : World) (a0 a1 a2 a3 a4 a5 a6 : Value) (hA : XAt W g [a0, a1, a2, a3, a4, a5, a6]) :
    (results fn tmps).run Try.prog W = .ok (.agg #[a0, a1, a2, a3, a4, a5, a6]) W := by
  have hp' : tmps[p]?.getD undef = .pointer (some ⟨g, 0, none⟩) := by simpa using hp
  have e := run_loadVar_mid (P := Try.prog) W g 0 44 [a0, a1, a2, a3, a4, a5, a6] _ (fun j v hv => by rw [Nat.zero_add]; exact hA.1 j v hv) Try.underlying44 rfl (by kernel_rfl)
  simp [results, h, hp', asAddr, e]
theorem results_object {fn : Func} {p : Tmp} (h : fn.results = #[.cell p 26]) (tmps : Array Value) (g : Nat) (hp : tmps.getD p undef = .pointer (some ⟨g, 0, none⟩)) (W : World) (a0 a1 a2 : Value) (hA : XAt W g [a0, a1, a2]) :
    (results fn tmps).run Try.prog W = .ok (.agg #[a0, a1, a2]) W := by
  have hp' : tmps[p]?.getD undef = .pointer (some ⟨g, 0, none⟩) := by simpa using hp
  have e := run_loadVar_mid (P := Try.prog) W g 0 26 [a0, a1, a2] _ (fun j v hv => by rw [Nat.zero_add]; exact hA.1 j v hv) Try.underlying26 rfl (by kernel_rfl)
  simp [results, h, hp', asAddr, e]
/-- The lists that were met lie in newer blocks than the result. -/
theorem Stay.sub {A A' : Nat → Prop} {w w' : World} (h : Stay A w w') (hs : ∀ k, A' k → A k) : Stay A' w w' := fun k h1 h2 => h k (hs k h1) h2
/-- Bytes that may be written to. -/
def LooseB (W : World) (v : Value) : Prop := ∀ q o m c, v = .slice (some ⟨q, o, none⟩) m c → ∀ j, j < m → W.frozen? ⟨q, o + j, none⟩ = false
theorem LooseB.keep {A : Nat → Prop} {W W' : World} {v : Value} {l : Bs} (h : LooseB W v) (hb : IsBytes A W v l) (hk : Stay A W W') : LooseB W' v := fun q o m c e j hj => by
  subst e
  obtain ⟨⟨a, c', e, hh, hA, hl⟩, hby⟩ := hb
  simp only [Value.slice.injEq] at e
  obtain ⟨rfl, rfl, rfl⟩ := e
  rcases hl with rfl | ⟨b, off, e, hc⟩
  · simp at hj
  · have hq := World.block_lt_of_cell? W ⟨b, off + j * 1, none⟩ (hc j _ (List.getElem?_eq_getElem hj))
    simp only [Option.some.injEq, Addr.mk.injEq] at e
    obtain ⟨rfl, rfl, -⟩ := e
    exact (World.frozen?_of_block (a := ⟨q, o + j, none⟩) (hk q (hA _ rfl) hq)).trans (h q o _ _ rfl j hj)
theorem loose_own {W : World} {base : Nat} {e : TypeId} {v : Value} {n : Nat} {xs : List Value} (h : W.ownsRow base e 1 v n xs) : LooseB W v := fun q o m c ev j hj => by
  subst ev
  rcases id h.2 with ⟨e1, -⟩ | ⟨g, cap, cur, e1, -⟩
  · cases e1
  · simp only [Value.slice.injEq, Option.some.injEq, Addr.mk.injEq] at e1
    obtain ⟨⟨rfl, rfl, -⟩, rfl, rfl⟩ := e1
    exact h.frozenAt _
section
variable {O : Nat → Prop} {w : World} {v : Value} {b : Bs}
set_option maxRecDepth 100000 in
set_option maxHeartbeats 1000000 in
theorem tk_note (h : Sk O w v b) : Calls Try.prog 73 #[v] w (Took O w v (noteR (.good b)) fun x _ u => u = .agg #[.string x.name, .int .i64 x.kind] ∧ x.name.size ≤ maxLen) := by
  have L0 := Tq.new h #[.string ⟨#[]⟩, .int .i64 0] 46
  obtain ⟨g, rfl, hg⟩ := h.ptr
  have HLT : Hid (∀ k, O k → k < w.heap.size) := h.lt
  clear h
  go_enter Try.func73, Try.ntmps73
  go_upto_region 1 with fail
  have HX : Hid (w.heap.size < (w.alloc (.cells #[.string ⟨#[]⟩, .int .i64 0] 46)).heap.size) := by unfold Hid; simp
  generalize w.alloc (.cells #[.string ⟨#[]⟩, .int .i64 0] 46) = w0 at L0 HX ⊢
  obtain ⟨X, eX⟩ : ∃ X, w.heap.size = X := ⟨_, rfl⟩
  have EX : Hid (w.heap.size = X) := eX
  rw [eX] at L0 HX HLT ⊢
  clear eX
  go_wp2_with (first
    | (have q := L1; go_at_call 96; refine (sk_num L1.sk 1 (by omega)).mono ?_; rintro e w2 ⟨⟨x2, b2, u, hr2, rfl, rfl, hS2⟩ | ⟨x2, er, hr2, rfl⟩, hA2⟩; all_goals (try (have L2 := L1.call hS2 hA2; have y0 := L2.xa.1 0 _ rfl; have z0 := L2.xa.2 0; have y1 := L2.xa.1 1 _ rfl; have z1 := L2.xa.2 1)))
    | (have q := L0; go_at_call 90; refine (sk_name L0.sk).mono ?_; rintro e w1 ⟨⟨x1, b1, u, hr1, rfl, ⟨rfl, hn⟩, hS1⟩ | ⟨x1, er, hr1, rfl⟩, hA1⟩; all_goals (try (have L1 := L0.call hS1 hA1))))
  · have K := sets2 L2.xa (.string x1) (.int .i64 x2)
    have E := L2.fin K.2
    exact bodyPost_ret (v := .agg #[.string x1, .int .i64 x2]) (results_note Try.results73 _ X (by first | rfl | simp) _ _ _ K.1) rfl ⟨.inl ⟨⟨x1, x2⟩, b2, _, (by rw [noteR_T, bind_fwd hr1.out, bind_fwd hr2.out]; exact Hid.mk0 rfl), rfl, ⟨rfl, by show x1.size ≤ maxLen; unfold maxLen; omega⟩, E.1⟩, E.2.1⟩
  · refine ⟨rfl, .inr ?_, L1.far hA2⟩
    obtain ⟨y, hy⟩ : ∃ y, noteR (.good b) = (y, .bad er) := by
      rw [noteR_T, bind_fwd hr1.out]
      exact bind_bad (fun _ => (by repeat' (first | exact keeps_pure _ | exact keeps_name | exact keeps_num _ | exact keeps_list _ _ | exact keeps_take _ | exact keeps_count _ | exact keeps_bytes _ | exact keeps_bindT | exact keeps_flagT | exact keeps_addT | refine keeps_bind ?_ (fun _ => ?_)))) hr2.out
    exact ⟨y, er, hy, rfl⟩
  · refine ⟨rfl, .inr ?_, L0.far hA1⟩
    obtain ⟨y, hy⟩ : ∃ y, noteR (.good b) = (y, .bad er) := by
      rw [noteR_T]
      exact bind_bad (fun _ => (by repeat' (first | exact keeps_pure _ | exact keeps_name | exact keeps_num _ | exact keeps_list _ _ | exact keeps_take _ | exact keeps_count _ | exact keeps_bytes _ | exact keeps_bindT | exact keeps_flagT | exact keeps_addT | refine keeps_bind ?_ (fun _ => ?_)))) hr1.out
    exact ⟨y, er, hy, rfl⟩
set_option maxRecDepth 100000 in
set_option maxHeartbeats 1000000 in
theorem tk_rel (h : Sk O w v b) : Calls Try.prog 95 #[v] w (Took O w v (relR (.good b)) fun x _ u => u = .agg #[.int .i64 x.at_, .int .i64 x.kind, .string x.name, .int .i64 x.add] ∧ x.name.size ≤ maxLen) := by
  have L0 := Tq.new h #[.int .i64 0, .int .i64 0, .string ⟨#[]⟩, .int .i64 0] 94
  obtain ⟨g, rfl, hg⟩ := h.ptr
  have HLT : Hid (∀ k, O k → k < w.heap.size) := h.lt
  clear h
  go_enter Try.func95, Try.ntmps95
  go_upto_region 1 with fail
  have HX : Hid (w.heap.size < (w.alloc (.cells #[.int .i64 0, .int .i64 0, .string ⟨#[]⟩, .int .i64 0] 94)).heap.size) := by unfold Hid; simp
  generalize w.alloc (.cells #[.int .i64 0, .int .i64 0, .string ⟨#[]⟩, .int .i64 0] 94) = w0 at L0 HX ⊢
  obtain ⟨X, eX⟩ : ∃ X, w.heap.size = X := ⟨_, rfl⟩
  have EX : Hid (w.heap.size = X) := eX
  rw [eX] at L0 HX HLT ⊢
  clear eX
  go_wp2_with (first
    | (have q := L3; go_at_call 102; refine (tk_add L3.sk).mono ?_; rintro e w4 ⟨⟨x4, b4, u, hr4, rfl, rfl, hS4⟩ | ⟨x4, er, hr4, rfl⟩, hA4⟩; all_goals (try (have L4 := L3.call hS4 hA4; have y0 := L4.xa.1 0 _ rfl; have z0 := L4.xa.2 0; have y1 := L4.xa.1 1 _ rfl; have z1 := L4.xa.2 1; have y2 := L4.xa.1 2 _ rfl; have z2 := L4.xa.2 2; have y3 := L4.xa.1 3 _ rfl; have z3 := L4.xa.2 3)))
    | (have q := L2; go_at_call 90; refine (sk_name L2.sk).mono ?_; rintro e w3 ⟨⟨x3, b3, u, hr3, rfl, ⟨rfl, hn⟩, hS3⟩ | ⟨x3, er, hr3, rfl⟩, hA3⟩; all_goals (try (have L3 := L2.call hS3 hA3)))
    | (have q := L1; go_at_call 96; refine (sk_num L1.sk 1 (by omega)).mono ?_; rintro e w2 ⟨⟨x2, b2, u, hr2, rfl, rfl, hS2⟩ | ⟨x2, er, hr2, rfl⟩, hA2⟩; all_goals (try (have L2 := L1.call hS2 hA2)))
    | (have q := L0; go_at_call 96; refine (sk_num L0.sk 2 (by omega)).mono ?_; rintro e w1 ⟨⟨x1, b1, u, hr1, rfl, rfl, hS1⟩ | ⟨x1, er, hr1, rfl⟩, hA1⟩; all_goals (try (have L1 := L0.call hS1 hA1))))
  · have K := sets4 L4.xa (.int .i64 x1) (.int .i64 x2) (.string x3) (.int .i64 x4)
    have E := L4.fin K.2
    exact bodyPost_ret (v := .agg #[.int .i64 x1, .int .i64 x2, .string x3, .int .i64 x4]) (results_rel Try.results95 _ X (by first | rfl | simp) _ _ _ _ _ K.1) rfl ⟨.inl ⟨⟨x1, x2, x3, x4⟩, b4, _, (by rw [relR_T, bind_fwd hr1.out, bind_fwd hr2.out, bind_fwd hr3.out, bind_fwd hr4.out]; exact Hid.mk0 rfl), rfl, ⟨rfl, by show x3.size ≤ maxLen; unfold maxLen; omega⟩, E.1⟩, E.2.1⟩
  · refine ⟨rfl, .inr ?_, L3.far hA4⟩
    obtain ⟨y, hy⟩ : ∃ y, relR (.good b) = (y, .bad er) := by
      rw [relR_T, bind_fwd hr1.out, bind_fwd hr2.out, bind_fwd hr3.out]
      exact bind_bad (fun _ => (by repeat' (first | exact keeps_pure _ | exact keeps_name | exact keeps_num _ | exact keeps_list _ _ | exact keeps_take _ | exact keeps_count _ | exact keeps_bytes _ | exact keeps_bindT | exact keeps_flagT | exact keeps_addT | refine keeps_bind ?_ (fun _ => ?_)))) hr4.out
    exact ⟨y, er, hy, rfl⟩
  · refine ⟨rfl, .inr ?_, L2.far hA3⟩
    obtain ⟨y, hy⟩ : ∃ y, relR (.good b) = (y, .bad er) := by
      rw [relR_T, bind_fwd hr1.out, bind_fwd hr2.out]
      exact bind_bad (fun _ => (by repeat' (first | exact keeps_pure _ | exact keeps_name | exact keeps_num _ | exact keeps_list _ _ | exact keeps_take _ | exact keeps_count _ | exact keeps_bytes _ | exact keeps_bindT | exact keeps_flagT | exact keeps_addT | refine keeps_bind ?_ (fun _ => ?_)))) hr3.out
    exact ⟨y, er, hy, rfl⟩
  · refine ⟨rfl, .inr ?_, L1.far hA2⟩
    obtain ⟨y, hy⟩ : ∃ y, relR (.good b) = (y, .bad er) := by
      rw [relR_T, bind_fwd hr1.out]
      exact bind_bad (fun _ => (by repeat' (first | exact keeps_pure _ | exact keeps_name | exact keeps_num _ | exact keeps_list _ _ | exact keeps_take _ | exact keeps_count _ | exact keeps_bytes _ | exact keeps_bindT | exact keeps_flagT | exact keeps_addT | refine keeps_bind ?_ (fun _ => ?_)))) hr2.out
    exact ⟨y, er, hy, rfl⟩
  · refine ⟨rfl, .inr ?_, L0.far hA1⟩
    obtain ⟨y, hy⟩ : ∃ y, relR (.good b) = (y, .bad er) := by
      rw [relR_T]
      exact bind_bad (fun _ => (by repeat' (first | exact keeps_pure _ | exact keeps_name | exact keeps_num _ | exact keeps_list _ _ | exact keeps_take _ | exact keeps_count _ | exact keeps_bytes _ | exact keeps_bindT | exact keeps_flagT | exact keeps_addT | refine keeps_bind ?_ (fun _ => ?_)))) hr1.out
    exact ⟨y, er, hy, rfl⟩
end
end Go.Proofs.Ytcbhnpjaaaefiaa
