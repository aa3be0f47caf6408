/- What the code takes of bytes: functions and data. -/
import Derived.Test.YtcbhnpjaaaefiaaObjTk3
namespace Go.Proofs.Ytcbhnpjaaaefiaa
open Go.ChangeShapes Go.WideShapes Go.ChangeAt Go.RowKit
set_option linter.unusedVariables false
set_option linter.unusedSimpArgs false
theorem dataR_T2 : dataR = bindR nameR fun t => bindR bindT fun b => bindR (numR 1) fun a => bindR flagT fun x => bindR (numR 2) fun z => bindR (countR 4096) fun n => bindR (takeR n.toNat) fun c => bindR (listR 64 relR) fun l => pureR ⟨t, b, a, x, z, c, l⟩ := rfl
theorem Gr.size_le {α : Type} {E : (Nat → Prop) → World → α → Prop} {cells : α → List Value} {t : TypeId} {sz b n : Nat} {v : Value} {L : List α} {W : World} (h : Gr E cells t sz b n v L W) : b ≤ W.heap.size := Nat.le_trans h.le.1 h.le.2
theorem fresh_stay {O : Nat → Prop} {X : Nat} {w1 w2 w3 w4 : World} (ha : Apart O w3 w4) (hlt : ∀ k, O k → k < X) (hX : X < w1.heap.size) : Stay (Fresh w1.heap.size w2) w3 w4 := Stay.of_apart ha fun k hk ho => by have := hlt k ho; have := hk.1; omega
theorem fresh_not {X : Nat} {w1 w2 w3 w4 : World} (h : Stay (fun k => k ≠ X) w3 w4) (hX : X < w1.heap.size) : Stay (Fresh w1.heap.size w2) w3 w4 := h.sub fun k hk => by have := hk.1; omega
section
variable {O : Nat → Prop} {w : World} {v : Value} {b : Bs}
set_option maxRecDepth 100000 in
set_option maxHeartbeats 1000000 in
theorem tk_func (h : Sk O w v b) : Calls Try.prog 69 #[v] w (Took O w v (funcR (.good b)) fun x w' u => ∃ vc vr, u = .agg #[.string x.name, .int .i64 x.bind, vc, vr] ∧ IsWords (Fresh w.heap.size w') w' vc x.code ∧ IsRels (Fresh w.heap.size w') w' vr x.rels ∧ x.name.size ≤ maxLen) := by
  have L0 := Tq.new h #[.string ⟨#[]⟩, .int .i64 0, .slice none 0 0, .slice none 0 0] 49
  obtain ⟨g, rfl, hg⟩ := h.ptr
  have HLT : Hid (∀ k, O k → k < w.heap.size) := h.lt
  clear h
  go_enter Try.func69, Try.ntmps69
  go_upto_region 1 with fail
  have HX : Hid (w.heap.size < (w.alloc (.cells #[.string ⟨#[]⟩, .int .i64 0, .slice none 0 0, .slice none 0 0] 49)).heap.size) := by unfold Hid; simp
  generalize w.alloc (.cells #[.string ⟨#[]⟩, .int .i64 0, .slice none 0 0, .slice none 0 0] 49) = w0 at L0 HX ⊢
  obtain ⟨X, eX⟩ : ∃ X, w.heap.size = X := ⟨_, rfl⟩
  have EX : Hid (w.heap.size = X) := eX
  rw [eX] at L0 HX HLT ⊢
  clear eX
  go_wp2_with (first
    | (have q := L3; go_at_call 94; refine (tk_rels L3.sk 64 (by omega)).mono ?_; rintro e w4 ⟨⟨x4, b4, u, hr4, rfl, hv, hS4⟩ | ⟨x4, er, hr4, rfl⟩, hA4⟩; all_goals (try (have L4 := L3.call hS4 hA4; obtain ⟨va, vc, rfl, -, -, -⟩ := LstA.open (id hv); have HV := Hid.mk0 hv; clear hv; have y0 := L4.xa.1 0 _ rfl; have z0 := L4.xa.2 0; have y1 := L4.xa.1 1 _ rfl; have z1 := L4.xa.2 1; have y2 := L4.xa.1 2 _ rfl; have z2 := L4.xa.2 2; have y3 := L4.xa.1 3 _ rfl; have z3 := L4.xa.2 3)))
    | (have q := L2; go_at_call 92; refine (tk_words L2.sk 2000 (by omega)).mono ?_; rintro e w3 ⟨⟨x3, b3, u, hr3, rfl, hc, hS3⟩ | ⟨x3, er, hr3, rfl⟩, hA3⟩; all_goals (try (have L3 := L2.call hS3 hA3; obtain ⟨ca, cc, rfl, -, -, -⟩ := LstA.open (id hc.1); have HC := Hid.mk0 hc; clear hc)))
    | (have q := L1; go_at_call 91; refine (tk_bind L1.sk).mono ?_; rintro e w2 ⟨⟨x2, b2, u, hr2, rfl, rfl, hS2⟩ | ⟨x2, er, hr2, rfl⟩, hA2⟩; all_goals (try (have L2 := L1.call hS2 hA2)))
    | (have q := L0; go_at_call 90; refine (sk_name L0.sk).mono ?_; rintro e w1 ⟨⟨x1, b1, u, hr1, rfl, ⟨rfl, hn⟩, hS1⟩ | ⟨x1, er, hr1, rfl⟩, hA1⟩; all_goals (try (have L1 := L0.call hS1 hA1))))
  · have K := sets4 L4.xa (.string x1) (.int .i64 x2) (.slice ca x3.length cc) (.slice va x4.length vc)
    have E := L4.fin K.2
    have s4 := hA4.size
    have s5 := K.2.size
    have C4 := ((HC.out.keep (fresh_stay hA4 HLT.out L2.lt)).keep (fresh_not E.2.2 L2.lt)).wide (A' := Fresh w.heap.size _) fun k hk => ⟨by have := EX.out; have := L2.lt; have := hk.1; omega, Nat.lt_of_lt_of_le hk.2 (Nat.le_trans s4 s5)⟩
    have V4 := (HV.out.keep (fresh_not E.2.2 L3.lt)).wide (A' := Fresh w.heap.size _) fun k hk => ⟨by have := EX.out; have := L3.lt; have := hk.1; omega, Nat.lt_of_lt_of_le hk.2 s5⟩
    exact bodyPost_ret (v := .agg #[.string x1, .int .i64 x2, .slice ca x3.length cc, .slice va x4.length vc]) (results_func Try.results69 _ X (by first | rfl | simp) _ _ _ _ _ K.1) rfl ⟨.inl ⟨⟨x1, x2, x3, x4⟩, b4, _, (by rw [funcR_T, bind_fwd hr1.out, bind_fwd hr2.out, bind_fwd hr3.out, bind_fwd hr4.out]; exact Hid.mk0 rfl), rfl, ⟨_, _, rfl, C4, V4, by show x1.size ≤ maxLen; unfold maxLen; omega⟩, E.1⟩, E.2.1⟩
  · refine ⟨rfl, .inr ?_, L3.far hA4⟩
    obtain ⟨y, hy⟩ : ∃ y, funcR (.good b) = (y, .bad er) := by
      rw [funcR_T, bind_fwd hr1.out, bind_fwd hr2.out, bind_fwd hr3.out]
      exact bind_bad (fun _ => (by repeat' (first | exact keeps_pure _ | exact keeps_name | exact keeps_num _ | exact keeps_list _ _ | exact keeps_take _ | exact keeps_count _ | exact keeps_bytes _ | exact keeps_bindT | exact keeps_flagT | exact keeps_addT | refine keeps_bind ?_ (fun _ => ?_)))) hr4.out
    exact ⟨y, er, hy, rfl⟩
  · refine ⟨rfl, .inr ?_, L2.far hA3⟩
    obtain ⟨y, hy⟩ : ∃ y, funcR (.good b) = (y, .bad er) := by
      rw [funcR_T, bind_fwd hr1.out, bind_fwd hr2.out]
      exact bind_bad (fun _ => (by repeat' (first | exact keeps_pure _ | exact keeps_name | exact keeps_num _ | exact keeps_list _ _ | exact keeps_take _ | exact keeps_count _ | exact keeps_bytes _ | exact keeps_bindT | exact keeps_flagT | exact keeps_addT | refine keeps_bind ?_ (fun _ => ?_)))) hr3.out
    exact ⟨y, er, hy, rfl⟩
  · refine ⟨rfl, .inr ?_, L1.far hA2⟩
    obtain ⟨y, hy⟩ : ∃ y, funcR (.good b) = (y, .bad er) := by
      rw [funcR_T, bind_fwd hr1.out]
      exact bind_bad (fun _ => (by repeat' (first | exact keeps_pure _ | exact keeps_name | exact keeps_num _ | exact keeps_list _ _ | exact keeps_take _ | exact keeps_count _ | exact keeps_bytes _ | exact keeps_bindT | exact keeps_flagT | exact keeps_addT | refine keeps_bind ?_ (fun _ => ?_)))) hr2.out
    exact ⟨y, er, hy, rfl⟩
  · refine ⟨rfl, .inr ?_, L0.far hA1⟩
    obtain ⟨y, hy⟩ : ∃ y, funcR (.good b) = (y, .bad er) := by
      rw [funcR_T]
      exact bind_bad (fun _ => (by repeat' (first | exact keeps_pure _ | exact keeps_name | exact keeps_num _ | exact keeps_list _ _ | exact keeps_take _ | exact keeps_count _ | exact keeps_bytes _ | exact keeps_bindT | exact keeps_flagT | exact keeps_addT | refine keeps_bind ?_ (fun _ => ?_)))) hr1.out
    exact ⟨y, er, hy, rfl⟩
set_option maxRecDepth 100000 in
set_option maxHeartbeats 1000000 in
theorem tk_data (h : Sk O w v b) : Calls Try.prog 71 #[v] w (Took O w v (dataR (.good b)) fun x w' u => ∃ vb vr, u = .agg #[.string x.name, .int .i64 x.bind, .int .i64 x.align, .bool x.fixed, .int .i64 x.size, vb, vr] ∧ (IsBytes (Fresh w.heap.size w') w' vb x.bytes ∧ LooseB w' vb) ∧ IsRels (Fresh w.heap.size w') w' vr x.rels ∧ x.name.size ≤ maxLen) := by
  have L0 := Tq.new h #[.string ⟨#[]⟩, .int .i64 0, .int .i64 0, .bool false, .int .i64 0, .slice none 0 0, .slice none 0 0] 44
  obtain ⟨g, rfl, hg⟩ := h.ptr
  have HLT : Hid (∀ k, O k → k < w.heap.size) := h.lt
  clear h
  go_enter Try.func71, Try.ntmps71
  go_upto_region 1 with fail
  have HX : Hid (w.heap.size < (w.alloc (.cells #[.string ⟨#[]⟩, .int .i64 0, .int .i64 0, .bool false, .int .i64 0, .slice none 0 0, .slice none 0 0] 44)).heap.size) := by unfold Hid; simp
  generalize w.alloc (.cells #[.string ⟨#[]⟩, .int .i64 0, .int .i64 0, .bool false, .int .i64 0, .slice none 0 0, .slice none 0 0] 44) = w0 at L0 HX ⊢
  obtain ⟨X, eX⟩ : ∃ X, w.heap.size = X := ⟨_, rfl⟩
  have EX : Hid (w.heap.size = X) := eX
  rw [eX] at L0 HX HLT ⊢
  clear eX
  go_wp2_with (first
    | (have q := L7; go_at_call 94; refine (tk_rels L7.sk 64 (by omega)).mono ?_; rintro e w8 ⟨⟨x8, b8, u, hr8, rfl, hv, hS8⟩ | ⟨x8, er, hr8, rfl⟩, hA8⟩; all_goals (try (have L8 := L7.call hS8 hA8; obtain ⟨va, vc, rfl, -, -, -⟩ := LstA.open (id hv); have HV := Hid.mk0 hv; clear hv; have y0 := L8.xa.1 0 _ rfl; have z0 := L8.xa.2 0; have y1 := L8.xa.1 1 _ rfl; have z1 := L8.xa.2 1; have y2 := L8.xa.1 2 _ rfl; have z2 := L8.xa.2 2; have y3 := L8.xa.1 3 _ rfl; have z3 := L8.xa.2 3; have y4 := L8.xa.1 4 _ rfl; have z4 := L8.xa.2 4; have y5 := L8.xa.1 5 _ rfl; have z5 := L8.xa.2 5; have y6 := L8.xa.1 6 _ rfl; have z6 := L8.xa.2 6)))
    | (have q := L6; go_at_call 67; refine (sk_bytes L6.sk N (by omega)).mono ?_; rintro e w7 ⟨⟨x7, b7, u, hr7, rfl, ⟨a7, c7, rfl, hl7, hby7, ho7⟩, hS7⟩ | ⟨x7, er, hr7, rfl⟩, hA7⟩; all_goals (try (have L7 := L6.call hS7 hA7; have H7 := Hid.mk0 (And.intro hl7 (And.intro hby7 ho7)); clear hl7 hby7 ho7)))
    | (have q := L5; go_at_call 89; refine (sk_count L5.sk 4096 (by omega)).mono ?_; rintro e w6 ⟨⟨x6, b6, u, hr6, rfl, ⟨N, rfl, rfl, hN⟩, hS6⟩ | ⟨x6, er, hr6, rfl⟩, hA6⟩; all_goals (try (have L6 := L5.call hS6 hA6)))
    | (have q := L4; go_at_call 96; refine (sk_num L4.sk 2 (by omega)).mono ?_; rintro e w5 ⟨⟨x5, b5, u, hr5, rfl, rfl, hS5⟩ | ⟨x5, er, hr5, rfl⟩, hA5⟩; all_goals (try (have L5 := L4.call hS5 hA5)))
    | (have q := L3; go_at_call 97; refine (tk_flag L3.sk).mono ?_; rintro e w4 ⟨⟨x4, b4, u, hr4, rfl, rfl, hS4⟩ | ⟨x4, er, hr4, rfl⟩, hA4⟩; all_goals (try (have L4 := L3.call hS4 hA4)))
    | (have q := L2; go_at_call 96; refine (sk_num L2.sk 1 (by omega)).mono ?_; rintro e w3 ⟨⟨x3, b3, u, hr3, rfl, rfl, hS3⟩ | ⟨x3, er, hr3, rfl⟩, hA3⟩; all_goals (try (have L3 := L2.call hS3 hA3)))
    | (have q := L1; go_at_call 91; refine (tk_bind L1.sk).mono ?_; rintro e w2 ⟨⟨x2, b2, u, hr2, rfl, rfl, hS2⟩ | ⟨x2, er, hr2, rfl⟩, hA2⟩; all_goals (try (have L2 := L1.call hS2 hA2)))
    | (have q := L0; go_at_call 90; refine (sk_name L0.sk).mono ?_; rintro e w1 ⟨⟨x1, b1, u, hr1, rfl, ⟨rfl, hn⟩, hS1⟩ | ⟨x1, er, hr1, rfl⟩, hA1⟩; all_goals (try (have L1 := L0.call hS1 hA1))))
  · obtain ⟨hl7, hby7, ho7⟩ := H7.out
    have K := sets7 L8.xa (.string x1) (.int .i64 x2) (.int .i64 x3) (.bool x4) (.int .i64 x5) (.slice a7 N c7) (.slice va x8.length vc)
    have E := L8.fin K.2
    have s4 := hA8.size
    have s5 := K.2.size
    have I7 : IsBytes (Fresh w6.heap.size w7) w7 (.slice a7 N c7) x7 := by
      have h := ho7
      rw [← hl7] at h ⊢
      exact own_bytesL h hby7
    have J8 := (loose_own ho7).keep I7 (fresh_stay hA8 HLT.out L6.lt)
    have I8 := I7.keep (fresh_stay hA8 HLT.out L6.lt)
    have J9 := J8.keep I8 (fresh_not E.2.2 L6.lt)
    have C4 := (I8.keep (fresh_not E.2.2 L6.lt)).wide (A' := Fresh w.heap.size _) fun k hk => ⟨by have := EX.out; have := L6.lt; have := hk.1; omega, Nat.lt_of_lt_of_le hk.2 (Nat.le_trans s4 s5)⟩
    have V4 := (HV.out.keep (fresh_not E.2.2 L7.lt)).wide (A' := Fresh w.heap.size _) fun k hk => ⟨by have := EX.out; have := L7.lt; have := hk.1; omega, Nat.lt_of_lt_of_le hk.2 s5⟩
    exact bodyPost_ret (v := .agg #[.string x1, .int .i64 x2, .int .i64 x3, .bool x4, .int .i64 x5, .slice a7 N c7, .slice va x8.length vc]) (results_data Try.results71 _ X (by first | rfl | simp) _ _ _ _ _ _ _ _ K.1) rfl ⟨.inl ⟨⟨x1, x2, x3, x4, x5, x7, x8⟩, b8, _, (by rw [dataR_T2, bind_fwd hr1.out, bind_fwd hr2.out, bind_fwd hr3.out, bind_fwd hr4.out, bind_fwd hr5.out, bind_fwd hr6.out, Int.toNat_natCast, bind_fwd hr7.out, bind_fwd hr8.out]; exact Hid.mk0 rfl), rfl, ⟨_, _, rfl, ⟨C4, J9⟩, V4, by show x1.size ≤ maxLen; unfold maxLen; omega⟩, E.1⟩, E.2.1⟩
  · refine ⟨rfl, .inr ?_, L7.far hA8⟩
    obtain ⟨y, hy⟩ : ∃ y, dataR (.good b) = (y, .bad er) := by
      rw [dataR_T2, bind_fwd hr1.out, bind_fwd hr2.out, bind_fwd hr3.out, bind_fwd hr4.out, bind_fwd hr5.out, bind_fwd hr6.out, Int.toNat_natCast, bind_fwd hr7.out]
      exact bind_bad (fun _ => (by repeat' (first | exact keeps_pure _ | exact keeps_name | exact keeps_num _ | exact keeps_list _ _ | exact keeps_take _ | exact keeps_count _ | exact keeps_bytes _ | exact keeps_bindT | exact keeps_flagT | exact keeps_addT | refine keeps_bind ?_ (fun _ => ?_)))) hr8.out
    exact ⟨y, er, hy, rfl⟩
  · refine ⟨rfl, .inr ?_, L6.far hA7⟩
    obtain ⟨y, hy⟩ : ∃ y, dataR (.good b) = (y, .bad er) := by
      rw [dataR_T2, bind_fwd hr1.out, bind_fwd hr2.out, bind_fwd hr3.out, bind_fwd hr4.out, bind_fwd hr5.out, bind_fwd hr6.out, Int.toNat_natCast]
      exact bind_bad (fun _ => (by repeat' (first | exact keeps_pure _ | exact keeps_name | exact keeps_num _ | exact keeps_list _ _ | exact keeps_take _ | exact keeps_count _ | exact keeps_bytes _ | exact keeps_bindT | exact keeps_flagT | exact keeps_addT | refine keeps_bind ?_ (fun _ => ?_)))) hr7.out
    exact ⟨y, er, hy, rfl⟩
  · refine ⟨rfl, .inr ?_, L5.far hA6⟩
    obtain ⟨y, hy⟩ : ∃ y, dataR (.good b) = (y, .bad er) := by
      rw [dataR_T2, bind_fwd hr1.out, bind_fwd hr2.out, bind_fwd hr3.out, bind_fwd hr4.out, bind_fwd hr5.out]
      exact bind_bad (fun _ => (by repeat' (first | exact keeps_pure _ | exact keeps_name | exact keeps_num _ | exact keeps_list _ _ | exact keeps_take _ | exact keeps_count _ | exact keeps_bytes _ | exact keeps_bindT | exact keeps_flagT | exact keeps_addT | refine keeps_bind ?_ (fun _ => ?_)))) hr6.out
    exact ⟨y, er, hy, rfl⟩
  · refine ⟨rfl, .inr ?_, L4.far hA5⟩
    obtain ⟨y, hy⟩ : ∃ y, dataR (.good b) = (y, .bad er) := by
      rw [dataR_T2, bind_fwd hr1.out, bind_fwd hr2.out, bind_fwd hr3.out, bind_fwd hr4.out]
      exact bind_bad (fun _ => (by repeat' (first | exact keeps_pure _ | exact keeps_name | exact keeps_num _ | exact keeps_list _ _ | exact keeps_take _ | exact keeps_count _ | exact keeps_bytes _ | exact keeps_bindT | exact keeps_flagT | exact keeps_addT | refine keeps_bind ?_ (fun _ => ?_)))) hr5.out
    exact ⟨y, er, hy, rfl⟩
  · refine ⟨rfl, .inr ?_, L3.far hA4⟩
    obtain ⟨y, hy⟩ : ∃ y, dataR (.good b) = (y, .bad er) := by
      rw [dataR_T2, bind_fwd hr1.out, bind_fwd hr2.out, bind_fwd hr3.out]
      exact bind_bad (fun _ => (by repeat' (first | exact keeps_pure _ | exact keeps_name | exact keeps_num _ | exact keeps_list _ _ | exact keeps_take _ | exact keeps_count _ | exact keeps_bytes _ | exact keeps_bindT | exact keeps_flagT | exact keeps_addT | refine keeps_bind ?_ (fun _ => ?_)))) hr4.out
    exact ⟨y, er, hy, rfl⟩
  · refine ⟨rfl, .inr ?_, L2.far hA3⟩
    obtain ⟨y, hy⟩ : ∃ y, dataR (.good b) = (y, .bad er) := by
      rw [dataR_T2, bind_fwd hr1.out, bind_fwd hr2.out]
      exact bind_bad (fun _ => (by repeat' (first | exact keeps_pure _ | exact keeps_name | exact keeps_num _ | exact keeps_list _ _ | exact keeps_take _ | exact keeps_count _ | exact keeps_bytes _ | exact keeps_bindT | exact keeps_flagT | exact keeps_addT | refine keeps_bind ?_ (fun _ => ?_)))) hr3.out
    exact ⟨y, er, hy, rfl⟩
  · refine ⟨rfl, .inr ?_, L1.far hA2⟩
    obtain ⟨y, hy⟩ : ∃ y, dataR (.good b) = (y, .bad er) := by
      rw [dataR_T2, bind_fwd hr1.out]
      exact bind_bad (fun _ => (by repeat' (first | exact keeps_pure _ | exact keeps_name | exact keeps_num _ | exact keeps_list _ _ | exact keeps_take _ | exact keeps_count _ | exact keeps_bytes _ | exact keeps_bindT | exact keeps_flagT | exact keeps_addT | refine keeps_bind ?_ (fun _ => ?_)))) hr2.out
    exact ⟨y, er, hy, rfl⟩
  · refine ⟨rfl, .inr ?_, L0.far hA1⟩
    obtain ⟨y, hy⟩ : ∃ y, dataR (.good b) = (y, .bad er) := by
      rw [dataR_T2]
      exact bind_bad (fun _ => (by repeat' (first | exact keeps_pure _ | exact keeps_name | exact keeps_num _ | exact keeps_list _ _ | exact keeps_take _ | exact keeps_count _ | exact keeps_bytes _ | exact keeps_bindT | exact keeps_flagT | exact keeps_addT | refine keeps_bind ?_ (fun _ => ?_)))) hr1.out
    exact ⟨y, er, hy, rfl⟩
end
end Go.Proofs.Ytcbhnpjaaaefiaa
