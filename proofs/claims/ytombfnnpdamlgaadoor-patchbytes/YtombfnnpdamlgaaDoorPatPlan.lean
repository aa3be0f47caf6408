/- Whether a program may be patched in an order, as the statements ask; what a plan that there is gives patch; what its answers are, opened. -/
import Derived.Test.YtombfnnpdamlgaaDoorPatRight
import Derived.Test.YtombfnnpdamlgaaDoorPatAwake
namespace Go.Proofs.YtombfnnpdamlgaaDoor
open Go.ChangeShapes Go.WideShapes Go.ChangeAt Go.RowKit
set_option linter.unusedVariables false
set_option linter.unusedSimpArgs false
theorem MayB.size {p : ProgM} {z : ProgZ} (h : MayB z) (ho : OfP p z) : ∀ D ∈ p.datas, 1 ≤ D.size ∧ D.size ≤ 4096 ∧ (D.bytes.length : Int) ≤ D.size := fun D hD => by
  obtain ⟨k, hk⟩ := List.mem_iff_getElem?.1 hD
  obtain ⟨y, hy, a1, a2, a3, a4, a5⟩ := ho.2.2.2 k D hk
  obtain ⟨h1, h2, h3, h4, h5⟩ := h.2.2.2 y (List.mem_of_getElem? hy)
  rw [a3] at h3 h4 h5
  rw [a4] at h5
  exact ⟨h3, h4, h5⟩
theorem MayB.code {p : ProgM} {z : ProgZ} (h : MayB z) (ho : OfP p z) : ∀ F ∈ p.funcs, F.code.length ≤ 70000 := fun F hF => h.2.2.1 _ (by rw [ho.1]; exact List.mem_map.2 ⟨F, hF, rfl⟩)
set_option maxRecDepth 100000 in
set_option maxHeartbeats 1000000 in
theorem fine_any {w : World} {vp vo : Value} {p : ProgM} {z : ProgZ} {o : List Int} (h : IsProg Any8 w vp p) (hz : IsP w vp z) (ho : OfP p z) (hn : IsNums w vo o) :
    Calls Tryd.prog 9 #[vp, vo] w fun e w' => OnlyIf e (MayB z ∧ RightP p ∧ o.length ≤ 400) ∧ Below w.heap.size w w' := by
  have MC : Hid (∀ W, Below w.heap.size w W → Calls Tryd.prog 21 #[vp] W fun e w' => OnlyIf e (MayB z) ∧ Below W.heap.size W w') := fun W hW => may_more (hz.later hW)
  have RC : Hid (MayB z → ∀ W, Below w.heap.size w W → Calls Tryd.prog 22 #[vp] W fun e w' => OnlyIf e (RightP p) ∧ Below W.heap.size W w') := fun hm W hW => rright13_any (h.later hW) fun D hD => ⟨(hm.size ho D hD).1, (hm.size ho D hD).2.1⟩
  obtain ⟨vf, vd, rfl, hf, hd⟩ := h
  obtain ⟨fa, fc, rfl, fm, -, -⟩ := LstA.open hf
  obtain ⟨da, dc, rfl, dm, -, -⟩ := LstA.open hd
  obtain ⟨oa, oc, rfl, om, -, -⟩ := LstA.open hn
  have om' := may_len om
  clear hz ho hn hf hd
  have X0 := XAt.new w #[.slice fa p.funcs.length fc, .slice da p.datas.length dc, .int .i64 p.entry] 25
  have UP := keep_alloc8 (Below.refl w.heap.size w) (.cells #[.slice fa p.funcs.length fc, .slice da p.datas.length dc, .int .i64 p.entry] 25)
  go_enter Tryd.func9, Tryd.ntmps9
  go_upto_region 1 with fail
  generalize w.alloc (.cells #[.slice fa p.funcs.length fc, .slice da p.datas.length dc, .int .i64 p.entry] 25) = w0 at X0 UP ⊢
  have U0 : Hid (Below w.heap.size w w0) := UP
  have X0' : Hid (XAt w0 w.heap.size [.slice fa p.funcs.length fc, .slice da p.datas.length dc, .int .i64 p.entry]) := X0
  have p0 := X0.1 0 _ rfl
  have p1 := X0.1 1 _ rfl
  have p2 := X0.1 2 _ rfl
  clear X0 UP
  have hol : (o.length : Int) ≤ 400 ∨ 400 < (o.length : Int) := by omega
  go_wp2_with (first
    | (go_at_call 22; refine (RC.out (HM1.out (by first | rfl | trivial)) _ (bnext U0.out hB1)).mono ?_; rintro e w2 ⟨⟨b2, rfl, hb2⟩, hB2⟩; have HM2 : Hid (b2 = true → RightP p) := hb2; clear hb2; cases b2)
    | (go_at_call 21; refine (MC.out _ U0.out).mono ?_; rintro e w1 ⟨⟨b1, rfl, hb1⟩, hB1⟩; have HM1 : Hid (b1 = true → MayB z) := hb1; clear hb1; have p0' := cell_any p0 hB1; have p1' := cell_any p1 hB1; have p2' := cell_any p2 hB1; cases b1))
  · go_ret
    exact ⟨only_no, bnext U0.out hB1⟩
  · go_ret
    exact ⟨only_no, bnext (bnext U0.out hB1) hB2⟩
  · go_ret
    refine ⟨⟨_, rfl, fun h => ⟨HM1.out (by first | rfl | trivial), HM2.out (by first | rfl | trivial), ?_⟩⟩, bnext (bnext U0.out hB1) hB2⟩
    simp at h
    omega
/-- A program in memory, opened: its value, its cells' places. -/
theorem IsP.open {w : World} {v : Value} {p : ProgZ} (h : IsP w v p) : ∃ fa fc da dc, v = .agg #[.slice fa p.codes.length fc, .slice da p.datas.length dc, .int .i64 p.entry] ∧
    (∀ k, k < p.codes.length → ∃ b off x, fa = some ⟨b, off, none⟩ ∧ Any8 b ∧ p.codes[k]? = some x ∧ PfAt w b (off + k * 5) x) ∧ (∀ k, k < p.datas.length → ∃ b off x, da = some ⟨b, off, none⟩ ∧ Any8 b ∧ p.datas[k]? = some x ∧ PdAt w b (off + k * 5) x) := by
  obtain ⟨vf, vd, rfl, hf, hd⟩ := h
  obtain ⟨fa, fc, rfl, -, -, fx⟩ := LstA.open hf
  obtain ⟨da, dc, rfl, -, -, dx⟩ := LstA.open hd
  exact ⟨fa, fc, da, dc, rfl, fx, dx⟩
/-- A plan that there is, opened. -/
theorem PlanPost.open {base : Nat} {p : ProgZ} {o : List Int} {e : Ending} {w : World} (h : PlanPost base (planZ p o) e w) : ∃ a n c b m d x y z er, e = .returned (.tuple #[.agg #[.slice a n c, .slice b m d, .int .i64 x, .int .i64 y, .int .i64 z], .int .i64 er]) ∧ er = (planZ p o).1 ∧ IsPlan base w (.agg #[.slice a n c, .slice b m d, .int .i64 x, .int .i64 y, .int .i64 z]) (planZ p o).2 := by
  obtain ⟨v, rfl, hp⟩ := h
  have hp0 := hp
  obtain ⟨vc, vd, rfl, hc, hd, -⟩ := hp
  obtain ⟨a, c, rfl, -, -, -⟩ := LstA.open hc.isNums
  obtain ⟨b, d, rfl, -, -, -⟩ := LstA.open hd.isNums
  exact ⟨_, _, _, _, _, _, _, _, _, _, rfl, rfl, hp0⟩
theorem code_ordered {c : List Nat} {o : List Int} : ∀ {i : Nat} {F : List Int} {w : Int}, codeN c o i = some (F, w) → ∀ (k : Nat), k < i → ∃ f, o[k]? = some f ∧ 0 ≤ f ∧ f < c.length ∧ ∃ a, F[f.toNat]? = some a ∧ 0 ≤ a
  | 0, F, w, h, k, hk => by omega
  | i + 1, F, w, h, k, hk => by
    simp only [codeN] at h
    split at h
    next s f hs hf =>
      obtain ⟨F0, w0⟩ := s
      obtain ⟨i1, i2, i3⟩ := code_some hs
      split at h
      next hc =>
        simp only [Option.some.injEq, Prod.mk.injEq] at h
        obtain ⟨rfl, rfl⟩ := h
        have hlt : f.toNat < F0.length := by rw [i1]; omega
        by_cases hki : k = i
        · subst hki
          exact ⟨f, hf, hc.1, hc.2.1, w0, by rw [List.getElem?_set, if_pos rfl, if_pos hlt], i2⟩
        · obtain ⟨f', h1, h2, h3, a, h4, h5⟩ := code_ordered hs k (by omega)
          refine ⟨f', h1, h2, h3, ?_⟩
          rw [List.getElem?_set]
          by_cases he : f.toNat = f'.toNat
          · rw [if_pos he, if_pos hlt]; exact ⟨w0, rfl, i2⟩
          · rw [if_neg he]; exact ⟨a, h4, h5⟩
      next => cases h
    next => cases h
/-- A plan that there is. -/
theorem plan_good {p : ProgM} {z : ProgZ} {o : List Int} {x : PlanZ} (hm : MayB z) (ho : OfP p z) (h : planZ z o = (0, x)) :
    PlanOk p.funcs.length p.datas.length x ∧ ∀ (k : Nat), k < o.length → ∃ (f : Nat) (F : PFuncM) (c : Int), o[k]? = some (f : Int) ∧ p.funcs[f]? = some F ∧ x.code[f]? = some c ∧ 0 ≤ c := by
  obtain ⟨F, w, h1, h2, h3, h4, rfl⟩ := plan_is h
  obtain ⟨c1, c2, c3⟩ := code_some h1
  obtain ⟨f1, f2, f3⟩ := code_fact h1
  have hd : DatOk z.datas := fun d hd => (hm.may.2.2.2 d hd)
  have nf := ho.nf
  refine ⟨⟨by rw [← nf]; exact c1, fun c hc => ?_, by rw [← ho.2.2.1]; exact rest_len _, fun a ha => ?_⟩, fun k hk => ?_⟩
  · obtain ⟨k, hk⟩ := List.mem_iff_getElem?.1 hc
    have hk1 : F[k]? = some c := hk
    obtain ⟨n, hn⟩ := get_some (l := z.codes) (k := k) (by have := get_lt hk1; omega)
    rcases f2 k c n hk1 hn with h | h <;> omega
  · obtain ⟨k, hk⟩ := List.mem_iff_getElem?.1 ha
    have hk1 : (restN z.datas).1[k]? = some a := hk
    obtain ⟨d, hd'⟩ := get_some (l := z.datas) (k := k) (by have := get_lt hk1; rw [rest_len] at this; exact this)
    obtain ⟨a', g1, g2, g3, g4, -⟩ := dat_fact hd hd'
    rw [hk1] at g1
    injection g1 with g1
    subst g1
    have := hd d (List.mem_of_getElem? hd')
    omega
  · obtain ⟨f, e1, e2, e3, a, e4, e5⟩ := code_ordered h1 k hk
    obtain ⟨G, hG⟩ := get_some (l := p.funcs) (k := f.toNat) (by rw [← nf]; omega)
    exact ⟨f.toNat, G, a, by rw [e1]; congr 1; omega, hG, e4, e5⟩
/-- An answer of words or bytes, opened: what it is hangs on o alone. -/
theorem RowPost.open {k : IntKind} {base : Nat} {o : Option (List Int)} {e : Ending} {w : World} (h : RowPost k base o e w) :
    ∃ a c, e = .returned (.tuple #[.slice a (o.getD []).length c, .int .i64 (if o = none then 7 else 0)]) ∧ RowU k base w (.slice a (o.getD []).length c) (o.getD []) := by
  rcases h with ⟨rfl, rfl⟩ | ⟨l, v, rfl, rfl, hr⟩
  · exact ⟨none, 0, rfl, RowU.nil⟩
  · have hr0 := hr
    obtain ⟨a, c, rfl, -, -⟩ := hr
    exact ⟨a, c, by simp, hr0⟩
theorem codeZ_wrd {x : PlanZ} {c : Int} {F : PFuncM} (h : Wrd F.code) : Wrd ((codeZ x c F).getD []) := by
  cases hz : codeZ x c F with
  | none => intro y hy; simp at hy
  | some l => exact (relsZ_keeps hz).2 h
theorem fill_byt {D : PDataM} (h : Byt D.bytes) : Byt (fillZ D) := fun x hx => by
  unfold fillZ at hx
  rcases List.mem_append.1 hx with hx | hx
  · exact h x hx
  · rw [List.mem_replicate] at hx; omega
theorem dataZ_byt {x : PlanZ} {D : PDataM} (h : Byt D.bytes) : Byt ((dataZ x D).getD []) := by
  cases hz : dataZ x D with
  | none => intro y hy; simp at hy
  | some l => exact (datsZ_keeps hz).2 (fill_byt h)
theorem IsProg.wrd {A : Nat → Prop} {w : World} {v : Value} {p : ProgM} (h : IsProg A w v p) : (∀ F ∈ p.funcs, Wrd F.code) ∧ ∀ D ∈ p.datas, Byt D.bytes := by
  obtain ⟨vf, vd, rfl, hf, hd⟩ := h
  obtain ⟨fa, fc, -, -, -, fx⟩ := LstA.open hf
  obtain ⟨da, dc, -, -, -, dx⟩ := LstA.open hd
  refine ⟨fun F hF => ?_, fun D hD => ?_⟩
  · obtain ⟨k, hk⟩ := List.mem_iff_getElem?.1 hF
    obtain ⟨b, off, x, -, -, hx, vc, vr, -, -, -, -, -, hw, -⟩ := fx k (get_lt hk)
    rw [hk] at hx; injection hx with hx; subst hx
    exact hw.2
  · obtain ⟨k, hk⟩ := List.mem_iff_getElem?.1 hD
    obtain ⟨b, off, x, -, -, hx, vc, vr, -, -, -, -, -, hw, -⟩ := dx k (get_lt hk)
    rw [hk] at hx; injection hx with hx; subst hx
    exact hw.2
end Go.Proofs.YtombfnnpdamlgaaDoor
