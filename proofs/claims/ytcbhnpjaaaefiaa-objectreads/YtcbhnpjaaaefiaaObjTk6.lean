/- What the code reads of bytes: an object. -/
import Derived.Test.YtcbhnpjaaaefiaaObjTk5
namespace Go.Proofs.Ytcbhnpjaaaefiaa
open Go.ChangeShapes Go.WideShapes Go.ChangeAt Go.RowKit
set_option linter.unusedVariables false
set_option linter.unusedSimpArgs false
theorem objR_T : objR = bindR (takeR 4) fun l => bindR (mustR (decide (l = splL))) fun _ => bindR (listR 64 funcR) fun f => bindR (listR 64 dataR) fun d => bindR (listR 64 noteR) fun n => pureR ⟨f, d, n⟩ := rfl
theorem head_eq {l : Bs} (h : Byt l) : ((textL l).toList == [83, 80, 76, 49]) = decide (l = splL) := by
  have k := text_spl (textL l)
  have := (head_dec h).symm.trans k.symm
  by_cases q : l = splL
  · rw [decide_eq_true q]; exact this.mp q
  · rw [decide_eq_false q]
    exact Bool.eq_false_iff.mpr fun q' => q (this.mpr q')
/-- Where the lists of an object lie: all behind block E. -/
structure Lies (E : Nat) (W : World) (vf vd vn : Value) (o : ObjM) : Prop where
  f : IsFuncs (Fresh E W) W vf o.funcs
  d : ∃ (L : List DX) (n c : Nat), o.datas = L.map Prod.fst ∧ Gr DEx dxC 44 7 c n vd L W ∧ E ≤ c
  n : IsNotes (Fresh E W) W vn o.notes
theorem IsFuncs.wide2 {A A' : Nat → Prop} {w : World} {v : Value} {l : List FuncM} (h : IsFuncs A w v l) (hA : ∀ k, A k → A' k) : IsFuncs A' w v l := h.wide hA
theorem Lies.keep {E : Nat} {W W' : World} {vf vd vn : Value} {o : ObjM} (h : Lies E W vf vd vn o) (hs : W.heap.size ≤ W'.heap.size) (hk : ∀ k, E ≤ k → k < W.heap.size → W'.heap[k]? = W.heap[k]?) : Lies E W' vf vd vn o := by
  obtain ⟨h1, ⟨L, n, c, h2, h3, h4⟩, h5⟩ := h
  have st : Stay (Fresh E W) W W' := fun k h1 h2 => hk k h1.1 h2
  exact ⟨(h1.keep st).wide fun k hk => ⟨hk.1, Nat.lt_of_lt_of_le hk.2 hs⟩, ⟨L, n, c, h2, h3.keep DEx.ek hs fun k k1 k2 => hk k (Nat.le_trans h4 k1) (Nat.lt_of_lt_of_le k2 h3.le.2), h4⟩, (h5.keep st).wide fun k hk => ⟨hk.1, Nat.lt_of_lt_of_le hk.2 hs⟩⟩
theorem Lies.less {E E' : Nat} {W : World} {vf vd vn : Value} {o : ObjM} (h : Lies E W vf vd vn o) (hE : E' ≤ E) : Lies E' W vf vd vn o := by
  obtain ⟨h1, ⟨L, n, c, h2, h3, h4⟩, h5⟩ := h
  exact ⟨h1.wide fun k hk => ⟨Nat.le_trans hE hk.1, hk.2⟩, ⟨L, n, c, h2, h3, Nat.le_trans hE h4⟩, h5.wide fun k hk => ⟨Nat.le_trans hE hk.1, hk.2⟩⟩
theorem Lies.obj {E : Nat} {W : World} {vf vd vn : Value} {o : ObjM} (h : Lies E W vf vd vn o) : IsObj (Fresh E W) W (.agg #[vf, vd, vn]) o := by
  obtain ⟨h1, ⟨L, n, c, h2, h3, h4⟩, h5⟩ := h
  refine ⟨_, _, _, rfl, h1, ?_, h5⟩
  rw [h2]
  exact h3.plain.datas.wide fun k hk => ⟨Nat.le_trans h4 hk.1, hk.2⟩
theorem dxC_len (x : DX) : (dxC x).length = 7 := rfl
theorem Lies.loose {E : Nat} {W : World} {vf vd vn : Value} {o : ObjM} (h : Lies E W vf vd vn o) : Loose W (.agg #[vf, vd, vn]) := by
  obtain ⟨h1, ⟨L, n, c, h2, h3, h4⟩, h5⟩ := h
  intro uf ud un e bb off m cc e2 i hi q o' mm c' hcell
  simp only [Value.agg.injEq, Array.mk.injEq, List.cons.injEq, and_true] at e
  obtain ⟨rfl, rfl, rfl⟩ := e
  subst e2
  have hown := h3.own
  rcases id hown.2 with ⟨e1, e0⟩ | ⟨g, cap, cur, e1, -⟩
  · cases e1
  · simp only [Value.slice.injEq, Option.some.injEq, Addr.mk.injEq] at e1
    obtain ⟨⟨rfl, rfl, -⟩, rfl, rfl⟩ := e1
    have hx := List.getElem?_eq_getElem hi
    have hc := hown.cells (g := bb) rfl (i * 7 + 5) _ (flat_get dxC_len L i _ hx 5 _ rfl)
    rw [show (⟨bb, 0, none⟩ : Addr).add (i * 7 + 5) = ⟨bb, 0 + i * 7 + 5, none⟩ from by simp [Addr.add, Nat.add_assoc]] at hc
    rw [hcell] at hc
    have hv := Option.some.inj hc
    have he := h3.el _ (List.mem_of_getElem? hx)
    refine ⟨fun eq => ?_, fun j hj => he.2 q o' _ _ hv.symm j hj⟩
    obtain ⟨⟨a, c9, e9, -, hA, -⟩, -⟩ := he.1.1
    rw [← hv] at e9
    simp only [Value.slice.injEq] at e9
    have := hA ⟨q, o', none⟩ e9.1.symm
    exact this.2 (by rw [← eq]; rfl)
section
variable {O : Nat → Prop} {w : World} {v : Value} {b : Bs}
set_option maxRecDepth 100000 in
set_option maxHeartbeats 1000000 in
theorem tk_object (h : Sk O w v b) : Calls Try.prog 34 #[v] w (Took O w v (objR (.good b)) fun x w' u => ∃ vf vd vn, u = .agg #[vf, vd, vn] ∧ Lies w.heap.size w' vf vd vn x) := by
  have L0 := Tq.new h #[.slice none 0 0, .slice none 0 0, .slice none 0 0] 26
  obtain ⟨g, rfl, hg⟩ := h.ptr
  have HLT : Hid (∀ k, O k → k < w.heap.size) := h.lt
  clear h
  go_enter Try.func34, Try.ntmps34
  go_upto_region 1 with fail
  have HX : Hid (w.heap.size < (w.alloc (.cells #[.slice none 0 0, .slice none 0 0, .slice none 0 0] 26)).heap.size) := by unfold Hid; simp
  generalize w.alloc (.cells #[.slice none 0 0, .slice none 0 0, .slice none 0 0] 26) = w0 at L0 HX ⊢
  obtain ⟨X, eX⟩ : ∃ X, w.heap.size = X := ⟨_, rfl⟩
  have EX : Hid (w.heap.size = X) := eX
  rw [eX] at L0 HX HLT ⊢
  clear eX
  have CV : Hid (∀ W base a c (x : Bs), x.length = 4 → Byt x → W.ownsRow base 5 1 (.slice a 4 c) 4 (x.map fun z => .int .u8 z) → (convert 29 9 (.slice a 4 c)).run Try.prog W = .ok (.string (textL x)) W) := fun W base a c x hx hb ho => by
    rw [← hx] at ho ⊢
    rw [← cellsK_map] at ho
    have h := text_conv W a _ c _ (own_bytes ho (gF_byt hb)).2
    rwa [← textL_gF] at h
  go_wp2_with (first
    | (have q := L4; go_at_call 72; refine (tk_notes L4.sk 64 (by omega)).mono ?_; rintro e w5 ⟨⟨x5, b5, u, hr5, rfl, hn, hS5⟩ | ⟨x5, er, hr5, rfl⟩, hA5⟩; all_goals (try (have L5 := L4.call hS5 hA5; obtain ⟨na, nc, rfl, -, -, -⟩ := LstA.open (id hn); have HN := Hid.mk0 hn; clear hn; have y0 := L5.xa.1 0 _ rfl; have z0 := L5.xa.2 0; have y1 := L5.xa.1 1 _ rfl; have z1 := L5.xa.2 1; have y2 := L5.xa.1 2 _ rfl; have z2 := L5.xa.2 2)))
    | (have q := L3; go_at_call 70; refine (tk_datas L3.sk 64 (by omega)).mono ?_; rintro e w4 ⟨⟨x4, b4, u, hr4, rfl, ⟨D, dn, rfl, hd⟩, hS4⟩ | ⟨x4, er, hr4, rfl⟩, hA4⟩; all_goals (try (have L4 := L3.call hS4 hA4; obtain ⟨da, dc, rfl⟩ := own_form hd.own; have HD := Hid.mk0 hd; clear hd)))
    | (have q := L2; go_at_call 68; refine (tk_funcs L2.sk 64 (by omega)).mono ?_; rintro e w3 ⟨⟨x3, b3, u, hr3, rfl, hf, hS3⟩ | ⟨x3, er, hr3, rfl⟩, hA3⟩; all_goals (try (have L3 := L2.call hS3 hA3; obtain ⟨fa, fc, rfl, -, -, -⟩ := LstA.open (id hf); have HF := Hid.mk0 hf; clear hf)))
    | (have q := L1; go_at_call 66; refine (sk_must L1.sk _).mono ?_; rintro e w2 ⟨⟨x2, b2, u, hr2, rfl, rfl, hS2⟩ | ⟨x2, er, hr2, rfl⟩, hA2⟩; all_goals (try (have L2 := L1.call hS2 hA2; clear cv; have hr2 := Hid.mk0 ((congrArg (fun c => mustR c (.good b1)) (head_eq H1.out)).symm.trans hr2.out))))
    | (have q := L0; go_at_call 67; refine (sk_bytes L0.sk 4 (by omega)).mono ?_; rintro e w1 ⟨⟨x1, b1, u, hr1, rfl, ⟨a7, c7, rfl, hl7, hby7, ho7⟩, hS1⟩ | ⟨x1, er, hr1, rfl⟩, hA1⟩; all_goals (try (have L1 := L0.call hS1 hA1; have cv := CV.out w1 w0.heap.size a7 c7 x1 hl7 hby7 ho7; have H1 := Hid.mk0 hby7; clear hl7 hby7 ho7))))
  · have K := sets3 L5.xa (.slice fa x3.length fc) (.slice da D.length dc) (.slice na x5.length nc)
    have E := L5.fin K.2
    have s5 := K.2.size
    have st : ∀ k, X + 1 ≤ k → k < w5.heap.size → _ := fun k k1 k2 => E.2.2 k (by omega) k2
    have f2 := L2.lt
    have f3 := L3.lt
    have f4 := L4.lt
    have LI : Lies (X + 1) w5 (.slice fa x3.length fc) (.slice da D.length dc) (.slice na x5.length nc) ⟨x3, D.map Prod.fst, x5⟩ :=
      ⟨((HF.out.keep (fresh_stay hA4 HLT.out L2.lt)).keep (fresh_stay hA5 HLT.out L2.lt)).wide fun k hk => ⟨by have := hk.1; omega, Nat.lt_of_lt_of_le hk.2 (Nat.le_trans hA4.size hA5.size)⟩,
       ⟨D, dn, _, rfl, gr_after DEx.ek HD.out hA5 (fun k hk => by have := HLT.out k hk; omega), by omega⟩, HN.out.wide fun k hk => ⟨by have := hk.1; omega, hk.2⟩⟩
    have LE := LI.keep s5 st
    exact bodyPost_ret (v := .agg #[.slice fa x3.length fc, .slice da D.length dc, .slice na x5.length nc]) (results_object Try.results34 _ X (by first | rfl | simp) _ _ _ _ K.1) rfl ⟨.inl ⟨⟨x3, D.map Prod.fst, x5⟩, b5, _, (by rw [objR_T, bind_fwd hr1.out, bind_fwd hr2.out, bind_fwd hr3.out, bind_fwd hr4.out, bind_fwd hr5.out]; exact Hid.mk0 rfl), rfl, ⟨_, _, _, rfl, LE.less (by have := EX.out; omega)⟩, E.1⟩, E.2.1⟩
  · refine ⟨rfl, .inr ?_, L4.far hA5⟩
    obtain ⟨y, hy⟩ : ∃ y, objR (.good b) = (y, .bad er) := by
      rw [objR_T, bind_fwd hr1.out, bind_fwd hr2.out, bind_fwd hr3.out, bind_fwd hr4.out]
      exact bind_bad (fun _ => (by repeat' (first | exact keeps_pure _ | exact keeps_name | exact keeps_num _ | exact keeps_list _ _ | exact keeps_take _ | exact keeps_count _ | exact keeps_bytes _ | exact keeps_bindT | exact keeps_flagT | exact keeps_addT | exact keeps_head | refine keeps_bind ?_ (fun _ => ?_)))) hr5.out
    exact ⟨y, er, hy, rfl⟩
  · refine ⟨rfl, .inr ?_, L3.far hA4⟩
    obtain ⟨y, hy⟩ : ∃ y, objR (.good b) = (y, .bad er) := by
      rw [objR_T, bind_fwd hr1.out, bind_fwd hr2.out, bind_fwd hr3.out]
      exact bind_bad (fun _ => (by repeat' (first | exact keeps_pure _ | exact keeps_name | exact keeps_num _ | exact keeps_list _ _ | exact keeps_take _ | exact keeps_count _ | exact keeps_bytes _ | exact keeps_bindT | exact keeps_flagT | exact keeps_addT | exact keeps_head | refine keeps_bind ?_ (fun _ => ?_)))) hr4.out
    exact ⟨y, er, hy, rfl⟩
  · refine ⟨rfl, .inr ?_, L2.far hA3⟩
    obtain ⟨y, hy⟩ : ∃ y, objR (.good b) = (y, .bad er) := by
      rw [objR_T, bind_fwd hr1.out, bind_fwd hr2.out]
      exact bind_bad (fun _ => (by repeat' (first | exact keeps_pure _ | exact keeps_name | exact keeps_num _ | exact keeps_list _ _ | exact keeps_take _ | exact keeps_count _ | exact keeps_bytes _ | exact keeps_bindT | exact keeps_flagT | exact keeps_addT | exact keeps_head | refine keeps_bind ?_ (fun _ => ?_)))) hr3.out
    exact ⟨y, er, hy, rfl⟩
  · refine ⟨rfl, .inr ?_, L1.far hA2⟩
    obtain ⟨y, hy⟩ : ∃ y, objR (.good b) = (y, .bad er) := by
      rw [objR_T, bind_fwd hr1.out]
      exact bind_bad (fun _ => (by repeat' (first | exact keeps_pure _ | exact keeps_name | exact keeps_num _ | exact keeps_list _ _ | exact keeps_take _ | exact keeps_count _ | exact keeps_bytes _ | exact keeps_bindT | exact keeps_flagT | exact keeps_addT | exact keeps_head | refine keeps_bind ?_ (fun _ => ?_)))) ((congrArg (fun c => mustR c (.good b1)) (head_eq H1.out)).symm.trans hr2.out)
    exact ⟨y, er, hy, rfl⟩
  · refine ⟨rfl, .inr ?_, L0.far hA1⟩
    obtain ⟨y, hy⟩ : ∃ y, objR (.good b) = (y, .bad er) := by
      rw [objR_T]
      exact bind_bad (fun _ => (by repeat' (first | exact keeps_pure _ | exact keeps_name | exact keeps_num _ | exact keeps_list _ _ | exact keeps_take _ | exact keeps_count _ | exact keeps_bytes _ | exact keeps_bindT | exact keeps_flagT | exact keeps_addT | exact keeps_head | refine keeps_bind ?_ (fun _ => ?_)))) hr1.out
    exact ⟨y, er, hy, rfl⟩
end
end Go.Proofs.Ytcbhnpjaaaefiaa
