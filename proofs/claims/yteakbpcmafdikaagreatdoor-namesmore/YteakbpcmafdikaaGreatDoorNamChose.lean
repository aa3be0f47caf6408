/- What names.choose answers of right objects. No condition. -/
import Derived.Test.YteakbpcmafdikaaGreatDoorNamChoose
namespace Go.Proofs.YteakbpcmafdikaaGreatDoor
open Go.ChangeShapes Go.WideShapes Go.ChangeAt Go.RowKit Go.Maps
set_option linter.unusedVariables false
set_option linter.unusedSimpArgs false
/-- While an object is gone through: the rows, the choice that holds them, the object's own variable. -/
structure Cho (A : Nat → Prop) (w : World) (base C X : Nat) (cs : List Value) (W0 : World) (vf vd : Value) (LF : List PF) (LD : List PD) (W : World) : Prop where
  chn : Chn A w base vf vd LF LD W
  c : XAt W C [vf, vd]
  x : XAt W X cs
  lt : C < base ∧ base ≤ X ∧ X < W.heap.size
  nf : ∀ q, vf.ownBlock = some q → q ≠ X
  nd : ∀ q, vd.ownBlock = some q → q ≠ X
  low : Below C W0 W
section
variable {A : Nat → Prop} {w W0 W W' : World} {base C X : Nat} {cs : List Value} {vf vd : Value} {LF : List PF} {LD : List PD}
theorem Cho.later (h : Cho A w base C X cs W0 vf vd LF LD W) (hb : Below W.heap.size W W') : Cho A w base C X cs W0 vf vd LF LD W' := by
  have hl := h.lt
  exact ⟨h.chn.later hb, h.c.later (by omega) hb, h.x.later h.lt.2.2 hb, ⟨hl.1, hl.2.1, Nat.lt_of_lt_of_le hl.2.2 hb.size⟩, h.nf, h.nd, h.low.trans (hb.mono (by omega))⟩
theorem Cho.func (h : Cho A w base C X cs W0 vf vd LF LD W) {x : PF} (hx : FE A w x.2) {a : Option Addr} {c : Nat} (own' : W'.ownsRow base 96 5 (.slice a (LF.length + 1) c) (LF.length + 1) (LF.flatMap pfC ++ pfC x))
    (gr : W.grownBy W' vf.ownBlock) (wh : ∀ q, a = some q → vf.ownBlock = some q.block ∨ q.block = W.heap.size) : Cho A w base C X cs W0 (.slice a (LF.length + 1) c) vd (LF ++ [x]) LD (W'.setCell ⟨C, 0, none⟩ (.slice a (LF.length + 1) c)) := by
  have hl := h.lt
  have hs := gr.size
  have kc : W'.heap[C]? = W.heap[C]? := gr.block C (by omega) fun e => by have := (own_oct h.chn.f C e.symm).1; omega
  have kx : W'.heap[X]? = W.heap[X]? := gr.block X (by omega) fun e => h.nf X e.symm rfl
  have ks : ∀ k, k ≠ C → (W'.setCell ⟨C, 0, none⟩ (.slice a (LF.length + 1) c)).heap[k]? = W'.heap[k]? := fun k hk => Below.heap_setCell _ _ _ _ (by simpa using hk)
  refine ⟨(h.chn.func hx own' gr wh).stay fun k h1 h2 => ks k (by omega), (h.c.keep kc).set 0 (by simp) _, (h.x.keep kx).keep (ks X (by omega)), ⟨hl.1, hl.2.1, by simp; omega⟩, fun q hq => ?_, h.nd, ?_⟩
  · obtain ⟨p, e1, e2⟩ := own_some hq
    rcases wh p e1 with e | e
    · rw [e2] at e; exact h.nf q e
    · omega
  · exact ((h.low.grown gr (by have := h.low.size; omega) fun q hq => by have := (own_oct h.chn.f q hq).1; omega).setCell (p := ⟨C, 0, none⟩) (Nat.le_refl _) _)
theorem Cho.data (h : Cho A w base C X cs W0 vf vd LF LD W) {x : PD} (hx : DE A w x.2) {a : Option Addr} {c : Nat} (own' : W'.ownsRow base 100 8 (.slice a (LD.length + 1) c) (LD.length + 1) (LD.flatMap pdC ++ pdC x))
    (gr : W.grownBy W' vd.ownBlock) (wh : ∀ q, a = some q → vd.ownBlock = some q.block ∨ q.block = W.heap.size) : Cho A w base C X cs W0 vf (.slice a (LD.length + 1) c) LF (LD ++ [x]) (W'.setCell ⟨C, 1, none⟩ (.slice a (LD.length + 1) c)) := by
  have hl := h.lt
  have hs := gr.size
  have kc : W'.heap[C]? = W.heap[C]? := gr.block C (by omega) fun e => by have := (own_oct h.chn.d C e.symm).1; omega
  have kx : W'.heap[X]? = W.heap[X]? := gr.block X (by omega) fun e => h.nd X e.symm rfl
  have ks : ∀ k, k ≠ C → (W'.setCell ⟨C, 1, none⟩ (.slice a (LD.length + 1) c)).heap[k]? = W'.heap[k]? := fun k hk => Below.heap_setCell _ _ _ _ (by simpa using hk)
  refine ⟨(h.chn.data hx own' gr wh).stay fun k h1 h2 => ks k (by omega), (h.c.keep kc).set 1 (by simp) _, (h.x.keep kx).keep (ks X (by omega)), ⟨hl.1, hl.2.1, by simp; omega⟩, h.nf, fun q hq => ?_, ?_⟩
  · obtain ⟨p, e1, e2⟩ := own_some hq
    rcases wh p e1 with e | e
    · rw [e2] at e; exact h.nd q e
    · omega
  · exact ((h.low.grown gr (by have := h.low.size; omega) fun q hq => by have := (own_oct h.chn.d q hq).1; omega).setCell (p := ⟨C, 1, none⟩) (Nat.le_refl _) _)
/-- The store of the grown row. -/
theorem Cho.kept (h : Cho A w base C X cs W0 vf vd LF LD W) {o : Option Nat} (ho : ∀ q, o = some q → base ≤ q) (gr : W.grownBy W' o) : XAt W' C [vf, vd] := by
  have hl := h.lt
  exact h.c.keep (gr.block C (by omega) fun e => by have := ho C e.symm; omega)
end
set_option maxRecDepth 100000 in
set_option maxHeartbeats 8000000 in
theorem choose_any {A : Nat → Prop} {w : World} {v : Value} {l : List ObjM} (h : IsObjs A w v l) (hl : l.length ≤ 20) (hfew : ∀ o ∈ l, fewO o) (hright : ∀ o ∈ l, rightO o) {b m : Nat} {H : Held} (hm : HeldAt w b m H) (hh : heldOk (sizeI l) (alignI l) (itemsL l) H) :
    Calls Tryz.prog 21 #[v, .map (some b)] w fun e w' => (∃ vf vd LF LD, e = .returned (.agg #[vf, vd]) ∧ Chn A w w.heap.size vf vd LF LD w' ∧ LF.map pfM = CF l (itemsL l) ∧ LD.map pdM = CD l (itemsL l) ∧ LF.length + LD.length ≤ 3000) ∧ Below w.heap.size w w' := by
  obtain ⟨a, c, rfl, -, -, lx⟩ := LstA.open h
  obtain ⟨n, en⟩ : ∃ n, l.length = n := ⟨_, rfl⟩
  rw [en] at hl lx ⊢
  have LX : Hid (∀ k, k < n → ∃ b off x, a = some ⟨b, off, none⟩ ∧ A b ∧ l[k]? = some x ∧ ObjAt A w b (off + k * 3) x) := lx
  have HN : Hid (l.length = n) := en
  have FW : Hid (∀ o ∈ l, fewO o) := hfew
  have RT : Hid (∀ o ∈ l, rightO o) := hright
  have HH : Hid (heldOk (sizeI l) (alignI l) (itemsL l) H) := hh
  have HM : Hid (HeldAt w b m H) := hm
  have hn : (n : Int) ≤ 20 := by omega
  clear h lx en hfew hright hm hh
  obtain ⟨i0, hi0, hiz0, hsz0, hby0⟩ := info_parts infoPF
  obtain ⟨i1, hi1, hiz1, hsz1, hby1⟩ := info_parts infoPD
  have IF : Hid (Tryz.prog.info? 96 = some i0 ∧ i0.zero = some (.agg #[.int .i64 0, .string ⟨#[]⟩, .int .i64 0, .slice none 0 0, .slice none 0 0]) ∧ i0.size = 5 ∧ i0.bytes = 80) := ⟨hi0, hiz0, hsz0, hby0⟩
  have ID : Hid (Tryz.prog.info? 100 = some i1 ∧ i1.zero = some (.agg #[.int .i64 0, .string ⟨#[]⟩, .int .i64 0, .int .i64 0, .bool false, .int .i64 0, .slice none 0 0, .slice none 0 0]) ∧ i1.size = 8 ∧ i1.bytes = 104) := ⟨hi1, hiz1, hsz1, hby1⟩
  clear hi0 hiz0 hsz0 hby0 hi1 hiz1 hsz1 hby1
  have UP : Hid (Below w.heap.size w ((w.alloc (.cells #[.slice none 0 0, .slice none 0 0] 66)).alloc (.cells #[.slice none 0 0, .slice none 0 0] 66))) := keep_alloc8 (keep_alloc8 (Below.refl _ _) _) _
  have XR : Hid (XAt ((w.alloc (.cells #[.slice none 0 0, .slice none 0 0] 66)).alloc (.cells #[.slice none 0 0, .slice none 0 0] 66)) w.heap.size [.slice none 0 0, .slice none 0 0]) := (XAt.new w _ _).later (by simp) (keep_alloc8 (Below.refl _ _) _)
  have XC : Hid (XAt ((w.alloc (.cells #[.slice none 0 0, .slice none 0 0] 66)).alloc (.cells #[.slice none 0 0, .slice none 0 0] 66)) (w.heap.size + 1) [.slice none 0 0, .slice none 0 0]) := by
    have := XAt.new (w.alloc (.cells #[.slice none 0 0, .slice none 0 0] 66)) #[.slice none 0 0, .slice none 0 0] 66
    rwa [World.size_alloc] at this
  have SZ : Hid (((w.alloc (.cells #[.slice none 0 0, .slice none 0 0] 66)).alloc (.cells #[.slice none 0 0, .slice none 0 0] 66)).heap.size = w.heap.size + 2) := by unfold Hid; simp
  have hfd := field_hold
  go_enter Tryz.func21, Tryz.ntmps21
  go_upto_region 2 with fail
  generalize (w.alloc (.cells #[.slice none 0 0, .slice none 0 0] 66)).alloc (.cells #[.slice none 0 0, .slice none 0 0] 66) = W0 at UP XR XC SZ ⊢
  have C0 : Hid (Chn A w (w.heap.size + 2) (.slice none 0 0) (.slice none 0 0) [] [] W0) := Chn.nil (by have := SZ.out; omega)
  go_wp2
  go_loopw [15] (fun i wr => ∃ k : Nat, k ≤ n ∧ i = .int .i64 k ∧ (∃ vf vd LF LD, XAt wr (w.heap.size + 1) [vf, vd] ∧ Chn A w (w.heap.size + 2) vf vd LF LD wr ∧ LF.map pfM = CF l (itemsL (l.take k)) ∧ LD.map pdM = CD l (itemsL (l.take k)) ∧ LF.length + LD.length ≤ k * 140) ∧ Below (w.heap.size + 1) W0 wr) (fun i _ => n - (intOf i).toNat)
  case atStart => exact ⟨0, Nat.zero_le _, rfl, ⟨_, _, [], [], XC.out, C0.out, rfl, rfl, Nat.zero_le _⟩, Below.refl _ _⟩
  case round =>
    obtain ⟨k, hk, rfl, ⟨vf, vd, LF, LD, hxc, hch, hmf, hmd, hln⟩, hbel⟩ := hrel
    have HB : Hid (Below (w.heap.size + 1) W0 wr) := hbel
    have XC1 : Hid (XAt wr (w.heap.size + 1) [vf, vd]) := hxc
    have CH : Hid (Chn A w (w.heap.size + 2) vf vd LF LD wr) := hch
    have MF : Hid (LF.map pfM = CF l (itemsL (l.take k))) := hmf
    have MD : Hid (LD.map pdM = CD l (itemsL (l.take k))) := hmd
    have LN : Hid (LF.length + LD.length ≤ k * 140) := hln
    have HW : Hid (Below w.heap.size w wr) := UP.out.trans (HB.out.mono (Nat.le_succ _))
    clear hbel hxc hch hmf hmd hln
    by_cases hlt : k < n
    · have hlt' : (k : Int) < n := by omega
      obtain ⟨b1, off, o, rfl, -, hx, wf, wd, wn, x0, x1, x2, hf, hd, hnn⟩ := LX.out k hlt
      have HX : Hid (l[k]? = some o) := hx
      obtain ⟨fa, fc, rfl, -, -, fx⟩ := LstA.open hf
      obtain ⟨da, dc, rfl, -, -, dx⟩ := LstA.open hd
      obtain ⟨na, nc, rfl, -, -, -⟩ := LstA.open hnn
      have hfo := FW.out o (List.mem_of_getElem? hx)
      have hri := RT.out o (List.mem_of_getElem? hx)
      obtain ⟨F, eF⟩ : ∃ F, o.funcs.length = F := ⟨_, rfl⟩
      obtain ⟨D, eD⟩ : ∃ D, o.datas.length = D := ⟨_, rfl⟩
      obtain ⟨Nn, eN⟩ : ∃ Nn, o.notes.length = Nn := ⟨_, rfl⟩
      rw [eF] at fx x0
      rw [eD] at dx x1
      rw [eN] at x2
      have EF : Hid (o.funcs.length = F ∧ o.datas.length = D ∧ F ≤ 70 ∧ D ≤ 70) := ⟨eF, eD, by have := hfo.1.1; omega, by have := hfo.1.2.1; omega⟩
      have RI : Hid (rightO o) := hri
      have hF : (F : Int) ≤ 70 := by have := EF.out; omega
      have hD : (D : Int) ≤ 70 := by have := EF.out; omega
      have FX1 : Hid (∀ j, j < F → ∃ b off x, fa = some ⟨b, off, none⟩ ∧ A b ∧ o.funcs[j]? = some x ∧ FuncAt A w b (off + j * 4) x) := fx
      have DX1 : Hid (∀ j, j < D → ∃ b off x, da = some ⟨b, off, none⟩ ∧ A b ∧ o.datas[j]? = some x ∧ DataAt A w b (off + j * 7) x) := dx
      replace x0 := cell_any x0 HW.out
      replace x1 := cell_any x1 HW.out
      replace x2 := cell_any x2 HW.out
      have X1 : Hid (XAt (wr.alloc (.cells #[.slice fa F fc, .slice da D dc, .slice na Nn nc] 46)) wr.heap.size [.slice fa F fc, .slice da D dc, .slice na Nn nc]) := XAt.new _ _ _
      have UP1 : Hid (Below wr.heap.size wr (wr.alloc (.cells #[.slice fa F fc, .slice da D dc, .slice na Nn nc] 46))) := keep_alloc8 (Below.refl _ _) _
      have SZ1 : Hid (wr.heap.size < (wr.alloc (.cells #[.slice fa F fc, .slice da D dc, .slice na Nn nc] 46)).heap.size) := by unfold Hid; simp
      clear hx hf hd hnn fx dx eF eD eN hfo hri
      go_upto_region 5 with fail
      generalize wr.alloc (.cells #[.slice fa F fc, .slice da D dc, .slice na Nn nc] 46) = W1 at X1 UP1 SZ1 ⊢
      have hsz2 : w.heap.size + 2 ≤ wr.heap.size := by have := HB.out.size; have := SZ.out; omega
      have CO : Hid (Cho A w (w.heap.size + 2) (w.heap.size + 1) wr.heap.size [.slice fa F fc, .slice da D dc, .slice na Nn nc] W0 vf vd LF LD W1) :=
        ⟨CH.out.later UP1.out, XC1.out.later (by omega) UP1.out, X1.out, ⟨Nat.lt_succ_self _, hsz2, SZ1.out⟩, fun q hq => by have := (own_oct CH.out.f q hq).2; omega, fun q hq => by have := (own_oct CH.out.d q hq).2; omega, HB.out.trans (UP1.out.mono (by omega))⟩
      have y0 := X1.out.1 0 _ rfl
      clear x0 x1 x2 CH XC1 HB HW UP1 X1 SZ1 hsz2
      generalize wr.heap.size = X at CO y0 ⊢
      go_wp2
      go_loopw [23] (fun i wr => ∃ j : Nat, j ≤ F ∧ i = .int .i64 j ∧ ∃ vf vd LF LD, Cho A w (w.heap.size + 2) (w.heap.size + 1) X [.slice fa F fc, .slice da D dc, .slice na Nn nc] W0 vf vd LF LD wr ∧ LF.map pfM = CF l (itemsL (l.take k) ++ (o.funcs.take j).mapIdx (funcI k)) ∧ LD.map pdM = CD l (itemsL (l.take k) ++ (o.funcs.take j).mapIdx (funcI k)) ∧ LF.length + LD.length ≤ k * 140 + j) (fun i _ => F - (intOf i).toNat)
      case atStart => exact ⟨0, Nat.zero_le _, rfl, _, _, LF, LD, CO.out, by rw [List.take_zero]; simpa using MF.out, by rw [List.take_zero]; simpa using MD.out, by have := LN.out; omega⟩
      case round =>
        clear CO MF MD LN
        obtain ⟨j, hj, rfl, vf, vd, LF, LD, hco, hmf, hmd, hln⟩ := hrel
        have CO : Hid (Cho A w (w.heap.size + 2) (w.heap.size + 1) X [.slice fa F fc, .slice da D dc, .slice na Nn nc] W0 vf vd LF LD wr) := hco
        have MF : Hid (LF.map pfM = CF l (itemsL (l.take k) ++ (o.funcs.take j).mapIdx (funcI k))) := hmf
        have MD : Hid (LD.map pdM = CD l (itemsL (l.take k) ++ (o.funcs.take j).mapIdx (funcI k))) := hmd
        have LN : Hid (LF.length + LD.length ≤ k * 140 + j) := hln
        have HW : Hid (Below w.heap.size w wr) := UP.out.trans (hco.low.mono (Nat.le_succ _))
        clear hco hmf hmd hln
        by_cases hlt2 : j < F
        · have hlt2' : (j : Int) < F := by omega
          obtain ⟨fb, fo, ⟨xn, xb, lc, lr⟩, rfl, -, hx, vc, vr, f0, f1, f2, f3, hc, hr, hnm⟩ := FX1.out j hlt2
          dsimp only at f0 f1 hc hr hnm
          have HE : Hid (FE A w (⟨xn, xb, lc, lr⟩, vc, vr)) := ⟨hc, hr, hnm⟩
          obtain ⟨ca, cc, rfl, -⟩ := hc.1
          obtain ⟨ra, rc, rfl, -⟩ := id hr
          have HF : Hid (o.funcs[j]? = some ⟨xn, xb, lc, lr⟩) := hx
          have hb : xb = 1 ∨ xb = 2 ∨ xb = 3 := RI.out.1 _ (List.mem_of_getElem? hx)
          have NM : Hid (xn.size ≤ maxLen) := hnm
          have PX : Hid (partF l ⟨k, j, false, xn, xb⟩ = (k, ⟨xn, xb, lc, lr⟩)) := by unfold partF Hid; rw [func_at HX.out hx]
          have CS := chose_func RT.out HH.out (x := ⟨k, j, false, xn, xb⟩) ((pre_func HX.out hx).subset (List.mem_append_right _ (List.mem_singleton.2 rfl))) rfl hb
          dsimp only at CS
          have KD : Hid (choseP (itemsL l) true ⟨k, j, false, xn, xb⟩ = false) := chose_kind (by simp)
          have N1 : Hid ((itemsL (l.take k) ++ (o.funcs.take j).mapIdx (funcI k)) ++ [⟨k, j, false, xn, xb⟩] = itemsL (l.take k) ++ (o.funcs.take (j + 1)).mapIdx (funcI k)) := by unfold Hid; rw [mapIdx_next (funcI k) hx, List.append_assoc]; rfl
          have MD2 : Hid (LD.map pdM = CD l (itemsL (l.take k) ++ (o.funcs.take (j + 1)).mapIdx (funcI k))) := by unfold Hid; rw [← N1.out, cd_no KD.out]; exact MD.out
          have MFY : Hid (choseP (itemsL l) false ⟨k, j, false, xn, xb⟩ = true → (LF ++ [((k, (⟨xn, xb, lc, lr⟩, .slice ca lc.length cc, .slice ra lr.length rc)) : PF)]).map pfM = CF l (itemsL (l.take k) ++ (o.funcs.take (j + 1)).mapIdx (funcI k))) := fun hy => by rw [← N1.out, cf_yes hy, PX.out, List.map_append, MF.out]; rfl
          have MFN : Hid (choseP (itemsL l) false ⟨k, j, false, xn, xb⟩ = false → LF.map pfM = CF l (itemsL (l.take k) ++ (o.funcs.take (j + 1)).mapIdx (funcI k))) := fun hy => by rw [← N1.out, cf_no hy]; exact MF.out
          replace f0 := cell_any f0 HW.out
          replace f1 := cell_any f1 HW.out
          replace f2 := cell_any f2 HW.out
          replace f3 := cell_any f3 HW.out
          have UP2 : Hid (Below wr.heap.size wr (wr.alloc (.cells #[.string xn, .int .i64 xb, .slice ca lc.length cc, .slice ra lr.length rc] 50))) := keep_alloc8 (Below.refl _ _) _
          have XF : Hid (XAt (wr.alloc (.cells #[.string xn, .int .i64 xb, .slice ca lc.length cc, .slice ra lr.length rc] 50)) wr.heap.size [.string xn, .int .i64 xb, .slice ca lc.length cc, .slice ra lr.length rc]) := XAt.new _ _ _
          clear hx hc hr hnm MD MF N1 PX KD
          generalize (choseP (itemsL l) false ⟨k, j, false, xn, xb⟩) = CC at CS MFY MFN
          go_upto_region 8 with fail
          have CO2 : Hid (Cho A w (w.heap.size + 2) (w.heap.size + 1) X _ W0 vf vd LF LD (wr.alloc (.cells #[.string xn, .int .i64 xb, .slice ca lc.length cc, .slice ra lr.length rc] 50))) := CO.out.later UP2.out
          have HW2 : Hid (Below w.heap.size w (wr.alloc (.cells #[.string xn, .int .i64 xb, .slice ca lc.length cc, .slice ra lr.length rc] 50))) := bnext HW.out UP2.out
          generalize wr.alloc (.cells #[.string xn, .int .i64 xb, .slice ca lc.length cc, .slice ra lr.length rc] 50) = W2 at XF CO2 HW2 ⊢
          generalize wr.heap.size = FB at XF ⊢
          clear CO HW UP2 f0 f1 f2 f3 y0
          have q0 := XF.out.1 0 _ rfl
          have q1 := XF.out.1 1 _ rfl
          have q2 := XF.out.1 2 _ rfl
          have q3 := XF.out.1 3 _ rfl
          have c0 := CO2.out.c.1 0 _ rfl
          have CO3 : Hid (Cho A w (w.heap.size + 2) (w.heap.size + 1) X _ W0 vf vd LF LD (W2.alloc (.cells #[.int .i64 (k : Int), .string xn, .int .i64 xb, .slice ca lc.length cc, .slice ra lr.length rc] 96))) := CO2.out.later (keep_alloc8 (Below.refl _ _) _)
          have NW : Hid (∀ i u, (pfC (k, (⟨xn, xb, lc, lr⟩, .slice ca lc.length cc, .slice ra lr.length rc)))[i]? = some u → (W2.alloc (.cells #[.int .i64 (k : Int), .string xn, .int .i64 xb, .slice ca lc.length cc, .slice ra lr.length rc] 96)).cell? ((⟨W2.heap.size, 0, none⟩ : Addr).add i) = some u) := fun i u hu => by
            rw [addr_add11, Nat.zero_add]; exact new_cell' W2 _ _ i u (by simpa [pfC, fxC] using hu)
          have LL : Hid (LF.length + 1 ≤ maxLen ∧ (LF.length + 1) * 80 ≤ 140737488355328 ∧ w.heap.size + 2 ≤ (W2.alloc (.cells #[.int .i64 (k : Int), .string xn, .int .i64 xb, .slice ca lc.length cc, .slice ra lr.length rc] 96)).heap.size) := by
            have h1 := LN.out
            have h2 := CO3.out.lt
            exact ⟨by unfold maxLen; omega, by omega, by omega⟩
          have step : ∀ (a5 : Option Addr) (c5 : Nat) (w5 : World), w5.ownsRow (w.heap.size + 2) 96 5 (.slice a5 (LF.length + 1) c5) (LF.length + 1) (LF.flatMap pfC ++ pfC (k, (⟨xn, xb, lc, lr⟩, .slice ca lc.length cc, .slice ra lr.length rc))) → (W2.alloc (.cells #[.int .i64 (k : Int), .string xn, .int .i64 xb, .slice ca lc.length cc, .slice ra lr.length rc] 96)).grownBy w5 vf.ownBlock →
              (∀ q, a5 = some q → vf.ownBlock = some q.block ∨ q.block = (W2.alloc (.cells #[.int .i64 (k : Int), .string xn, .int .i64 xb, .slice ca lc.length cc, .slice ra lr.length rc] 96)).heap.size) → CC = true →
              XAt w5 (w.heap.size + 1) [vf, vd] ∧ ∃ vf' vd' LF' LD', Cho A w (w.heap.size + 2) (w.heap.size + 1) X _ W0 vf' vd' LF' LD' (w5.setCell ⟨w.heap.size + 1, 0, none⟩ (.slice a5 (LF.length + 1) c5)) ∧ LF'.map pfM = CF l (itemsL (l.take k) ++ (o.funcs.take (j + 1)).mapIdx (funcI k)) ∧ LD'.map pdM = CD l (itemsL (l.take k) ++ (o.funcs.take (j + 1)).mapIdx (funcI k)) ∧ LF'.length + LD'.length ≤ k * 140 + (j + 1) := fun a5 c5 w5 own5 gr5 wh5 hy =>
            ⟨CO3.out.kept (fun q hq => (own_oct CO3.out.chn.f q hq).1) gr5, _, _, _, _, CO3.out.func HE.out own5 gr5 wh5, MFY.out hy, MD2.out, by have := LN.out; simp; omega⟩
          have STEP := (show Hid _ from step)
          clear step
          rcases CS with ⟨h3, hC⟩ | ⟨h3, ⟨ho, hbd, hs0, ha0⟩, hH, hC⟩
          · have g3 : (xb == 3) = true := by simpa using h3
            have HC : Hid (CC = true) := hC
            clear h3 hC hb
            go_wp2_with (at_builtin; refine wpList_append_one _ (by rfl) (.tmp 40) (.tmp 44) 63 (by rfl) (w.heap.size + 2) 96 i0 _ 5 80 Tryz.underlying63 IF.out.1 IF.out.2.1 IF.out.2.2.1 IF.out.2.2.2 rfl (by decide) vf LF.length (LF.flatMap pfC) (by rfl) CO3.out.chn.f ⟨W2.heap.size, 0, none⟩ 1 (pfC (k, (⟨xn, xb, lc, lr⟩, .slice ca lc.length cc, .slice ra lr.length rc))) (by rfl) rfl NW.out (pf_one A w _ HE.out) LL.out.1 LL.out.2.1 LL.out.2.2 ?_; intro a5 c5 w5 own5 gr5 wh5; have S5 := STEP.out a5 c5 w5 own5 gr5 wh5 HC.out; have xc0 := S5.1.1 0 _ rfl; have fz := S5.1.2)
            have S6 := (show Hid _ from S5.2)
            clear S5 own5 gr5 wh5 xc0 fz
            go_roundw
            case rel => exact ⟨j + 1, by omega, by go_num, S6.out⟩
            case measure => simp [intOf]; omega
          · have g3 : (xb == 3) = false := by simpa using h3
            have HH0 : Hid (H xn = some ⟨ho, hbd, hs0, ha0⟩) := hH
            by_cases he : ho = k
            · have HC : Hid (CC = true) := by unfold Hid; rw [hC]; exact decide_eq_true he
              have g4 : ((ho : Int) == (k : Int)) = true := by rw [he]; simp
              clear h3 hC hb hH he
              go_wp2_with (first
                | ((with_reducible show wpList _ _ _ (Oper.mk _ (Op.lookup _ _ _ _) _ _ _ _ :: _) _ _); refine wpList_held_if (by rfl) (.tmp 31) (.tmp 33) (by rfl) (HM.out.later HW2.out) (by rfl) xn (by rfl) NM.out _ HH0.out (.agg #[.int .i64 (ho : Int), .int .i64 hbd, .int .i64 hs0, .int .i64 ha0]) rfl ?_)
                | (at_builtin; refine wpList_append_one _ (by rfl) (.tmp 40) (.tmp 44) 63 (by rfl) (w.heap.size + 2) 96 i0 _ 5 80 Tryz.underlying63 IF.out.1 IF.out.2.1 IF.out.2.2.1 IF.out.2.2.2 rfl (by decide) vf LF.length (LF.flatMap pfC) (by rfl) CO3.out.chn.f ⟨W2.heap.size, 0, none⟩ 1 (pfC (k, (⟨xn, xb, lc, lr⟩, .slice ca lc.length cc, .slice ra lr.length rc))) (by rfl) rfl NW.out (pf_one A w _ HE.out) LL.out.1 LL.out.2.1 LL.out.2.2 ?_; intro a5 c5 w5 own5 gr5 wh5; have S5 := STEP.out a5 c5 w5 own5 gr5 wh5 HC.out; have xc0 := S5.1.1 0 _ rfl; have fz := S5.1.2))
              have S6 := (show Hid _ from S5.2)
              clear S5 own5 gr5 wh5 xc0 fz
              go_roundw
              case rel => exact ⟨j + 1, by omega, by go_num, S6.out⟩
              case measure => simp [intOf]; omega
            · have HC : Hid (CC = false) := by unfold Hid; rw [hC]; exact decide_eq_false he
              have g4 : ((ho : Int) == (k : Int)) = false := by simp; omega
              have CO4 : Hid (∃ vf vd LF LD, Cho A w (w.heap.size + 2) (w.heap.size + 1) X _ W0 vf vd LF LD W2 ∧ LF.map pfM = CF l (itemsL (l.take k) ++ (o.funcs.take (j + 1)).mapIdx (funcI k)) ∧ LD.map pdM = CD l (itemsL (l.take k) ++ (o.funcs.take (j + 1)).mapIdx (funcI k)) ∧ LF.length + LD.length ≤ k * 140 + (j + 1)) := ⟨_, _, _, _, CO2.out, MFN.out HC.out, MD2.out, by have := LN.out; omega⟩
              clear h3 hC hb hH he
              go_wp2_with ((with_reducible show wpList _ _ _ (Oper.mk _ (Op.lookup _ _ _ _) _ _ _ _ :: _) _ _); refine wpList_held_if (by rfl) (.tmp 31) (.tmp 33) (by rfl) (HM.out.later HW2.out) (by rfl) xn (by rfl) NM.out _ HH0.out (.agg #[.int .i64 (ho : Int), .int .i64 hbd, .int .i64 hs0, .int .i64 ha0]) rfl ?_)
              go_roundw
              case rel => exact ⟨j + 1, by omega, by go_num, CO4.out⟩
              case measure => simp [intOf]; omega
        · obtain rfl : j = F := by omega
          have E : o.funcs.take j = o.funcs := by rw [← EF.out.1]; exact List.take_length
          rw [E] at MF MD
          have y1 := CO.out.x.1 1 _ rfl
          have LT2 : Hid ((itemsL (l.take k) ++ o.funcs.mapIdx (funcI k)) ++ o.datas.mapIdx (dataI k) = itemsL (l.take (k + 1))) := by unfold Hid; rw [itemsL_next HX.out, List.append_assoc]; rfl
          have PRE : Hid (∀ p d, o.datas[p]? = some d → ((itemsL (l.take k) ++ o.funcs.mapIdx (funcI k)) ++ (o.datas.take p).mapIdx (dataI k)) ++ [dataI k p d] <+: itemsL l) := fun p d hd => pre_data HX.out hd
          generalize itemsL (l.take k) ++ o.funcs.mapIdx (funcI k) = T at MF MD LT2 PRE
          clear y0 E hlt2 HW
          go_wp2
          go_loopw [51] (fun i wr => ∃ p : Nat, p ≤ D ∧ i = .int .i64 p ∧ ∃ vf vd LF LD, Cho A w (w.heap.size + 2) (w.heap.size + 1) X [.slice fa j fc, .slice da D dc, .slice na Nn nc] W0 vf vd LF LD wr ∧ LF.map pfM = CF l (T ++ (o.datas.take p).mapIdx (dataI k)) ∧ LD.map pdM = CD l (T ++ (o.datas.take p).mapIdx (dataI k)) ∧ LF.length + LD.length ≤ k * 140 + 70 + p) (fun i _ => D - (intOf i).toNat)
          case atStart => exact ⟨0, Nat.zero_le _, rfl, _, _, LF, LD, CO.out, by rw [List.take_zero]; simpa using MF.out, by rw [List.take_zero]; simpa using MD.out, by have := LN.out; have := EF.out; omega⟩
          case round =>
            clear CO MF MD LN y1
            obtain ⟨p, hp, rfl, vf, vd, LF, LD, hco, hmf, hmd, hln⟩ := hrel
            have CO : Hid (Cho A w (w.heap.size + 2) (w.heap.size + 1) X [.slice fa j fc, .slice da D dc, .slice na Nn nc] W0 vf vd LF LD wr) := hco
            have MF : Hid (LF.map pfM = CF l (T ++ (o.datas.take p).mapIdx (dataI k))) := hmf
            have MD : Hid (LD.map pdM = CD l (T ++ (o.datas.take p).mapIdx (dataI k))) := hmd
            have LN : Hid (LF.length + LD.length ≤ k * 140 + 70 + p) := hln
            have HW : Hid (Below w.heap.size w wr) := UP.out.trans (hco.low.mono (Nat.le_succ _))
            clear hco hmf hmd hln
            by_cases hlt3 : p < D
            · have hlt3' : (p : Int) < D := by omega
              obtain ⟨fb, fo, ⟨xn, xb, xa, xf, xz, lb, lr⟩, rfl, -, hx, vb, vr, f0, f1, f2, f3, f4, f5, f6, hb5, hr, hnm⟩ := DX1.out p hlt3
              dsimp only at f0 f1 f2 f3 f4 hb5 hr hnm
              have HE : Hid (DE A w (⟨xn, xb, xa, xf, xz, lb, lr⟩, vb, vr)) := ⟨hb5, hr, hnm⟩
              obtain ⟨ba, bc, rfl, -⟩ := hb5.1
              obtain ⟨ra, rc, rfl, -⟩ := id hr
              have hb : xb = 1 ∨ xb = 2 ∨ xb = 3 ∨ xb = 4 := RI.out.2.1 _ (List.mem_of_getElem? hx)
              have NM : Hid (xn.size ≤ maxLen) := hnm
              have PX : Hid (dataOf l ⟨k, p, true, xn, xb⟩ = ⟨xn, xb, xa, xf, xz, lb, lr⟩) := data_at HX.out hx xn xb
              have CS := chose_data RT.out HH.out (x := ⟨k, p, true, xn, xb⟩) ((PRE.out p _ hx).subset (List.mem_append_right _ (List.mem_singleton.2 rfl))) rfl hb
              dsimp only at CS
              have KF : Hid (choseP (itemsL l) false ⟨k, p, true, xn, xb⟩ = false) := chose_kind (by simp)
              have N1 : Hid ((T ++ (o.datas.take p).mapIdx (dataI k)) ++ [⟨k, p, true, xn, xb⟩] = T ++ (o.datas.take (p + 1)).mapIdx (dataI k)) := by unfold Hid; rw [mapIdx_next (dataI k) hx, List.append_assoc]; rfl
              have MF2 : Hid (LF.map pfM = CF l (T ++ (o.datas.take (p + 1)).mapIdx (dataI k))) := by unfold Hid; rw [← N1.out, cf_no KF.out]; exact MF.out
              replace f0 := cell_any f0 HW.out
              replace f1 := cell_any f1 HW.out
              replace f2 := cell_any f2 HW.out
              replace f3 := cell_any f3 HW.out
              replace f4 := cell_any f4 HW.out
              replace f5 := cell_any f5 HW.out
              replace f6 := cell_any f6 HW.out
              have UP2 : Hid (Below wr.heap.size wr (wr.alloc (.cells #[.string xn, .int .i64 xb, .int .i64 xa, .bool xf, .int .i64 xz, .slice ba lb.length bc, .slice ra lr.length rc] 52))) := keep_alloc8 (Below.refl _ _) _
              have XF : Hid (XAt (wr.alloc (.cells #[.string xn, .int .i64 xb, .int .i64 xa, .bool xf, .int .i64 xz, .slice ba lb.length bc, .slice ra lr.length rc] 52)) wr.heap.size [.string xn, .int .i64 xb, .int .i64 xa, .bool xf, .int .i64 xz, .slice ba lb.length bc, .slice ra lr.length rc]) := XAt.new _ _ _
              have SF : Hid (wr.heap.size < (wr.alloc (.cells #[.string xn, .int .i64 xb, .int .i64 xa, .bool xf, .int .i64 xz, .slice ba lb.length bc, .slice ra lr.length rc] 52)).heap.size) := by unfold Hid; simp
              have HW2 : Hid (Below w.heap.size w (wr.alloc (.cells #[.string xn, .int .i64 xb, .int .i64 xa, .bool xf, .int .i64 xz, .slice ba lb.length bc, .slice ra lr.length rc] 52))) := bnext HW.out UP2.out
              have ZV : Hid (∃ z0 z1 z2 z3, (H xn).elim (.agg #[.int .i64 0, .int .i64 0, .int .i64 0, .int .i64 0]) holdV = .agg #[.int .i64 z0, .int .i64 z1, .int .i64 z2, .int .i64 z3]) := by
                cases H xn with
                | none => exact ⟨0, 0, 0, 0, rfl⟩
                | some h => exact ⟨h.obj, h.bind, h.size, h.align, rfl⟩
              clear hx hb5 hr hnm
              go_upto_region 14 with fail
              generalize wr.alloc (.cells #[.string xn, .int .i64 xb, .int .i64 xa, .bool xf, .int .i64 xz, .slice ba lb.length bc, .slice ra lr.length rc] 52) = W2 at UP2 XF SF HW2 ⊢
              clear f0 f1 f2 f3 f4 f5 f6
              have q0 := XF.out.1 0 _ rfl
              have q1 := XF.out.1 1 _ rfl
              have UPX1 : Hid (∀ z0 z1 z2 z3 : Int, Below wr.heap.size wr (W2.alloc (.cells #[.int .i64 z0, .int .i64 z1, .int .i64 z2, .int .i64 z3] 90))) := fun _ _ _ _ => keep_alloc8 UP2.out _
              have XF1 : Hid (∀ z0 z1 z2 z3 : Int, XAt (W2.alloc (.cells #[.int .i64 z0, .int .i64 z1, .int .i64 z2, .int .i64 z3] 90)) wr.heap.size [.string xn, .int .i64 xb, .int .i64 xa, .bool xf, .int .i64 xz, .slice ba lb.length bc, .slice ra lr.length rc]) := fun _ _ _ _ => XF.out.later SF.out (keep_alloc8 (Below.refl _ _) _)
              rcases CS with ⟨h3, hC⟩ | ⟨h3, ⟨ho, hbd, hs0, ha0⟩, hH, hC, hSA⟩
              · have g3 : (xb == 3) = true := by simpa using h3
                have g4 : (xb == 4) = false := by simp; omega
                have HC : Hid (choseP (itemsL l) true ⟨k, p, true, xn, xb⟩ = true) := hC
                have PY : Hid (partD l ⟨k, p, true, xn, xb⟩ = (k, ⟨xn, xb, xa, xf, xz, lb, lr⟩)) := by unfold partD dataC Hid; rw [if_neg (by simp; omega), PX.out]
                obtain ⟨z0, z1, z2, z3, hz⟩ := ZV.out
                clear ZV
                have ZV : Hid ((H xn).elim (.agg #[.int .i64 0, .int .i64 0, .int .i64 0, .int .i64 0]) holdV = .agg #[.int .i64 z0, .int .i64 z1, .int .i64 z2, .int .i64 z3]) := hz
                have q1x := (XF1.out z0 z1 z2 z3).1 1 _ rfl
                clear h3 hC hb hz
                go_upto_region 18 with (at_lookup; refine wpList_held_look (by rfl) (.tmp 55) (.tmp 57) (by rfl) (HM.out.later HW2.out) (by rfl) xn (by rfl) NM.out _ rfl (.agg #[.int .i64 z0, .int .i64 z1, .int .i64 z2, .int .i64 z3]) ZV.out ?_)
                have UPX := (show Hid _ from UPX1.out z0 z1 z2 z3)
                have XF := (show Hid _ from XF1.out z0 z1 z2 z3)
                generalize W2.alloc (.cells #[.int .i64 z0, .int .i64 z1, .int .i64 z2, .int .i64 z3] 90) = Wx at XF UPX ⊢
                clear q0 q1 q1x UPX1 XF1
                have HE2 : Hid (DE A w (⟨xn, xb, xa, xf, xz, lb, lr⟩, .slice ba lb.length bc, .slice ra lr.length rc)) := HE.out
                have MDZ : Hid ((LD ++ [((k, (⟨xn, xb, xa, xf, xz, lb, lr⟩, .slice ba lb.length bc, .slice ra lr.length rc)) : PD)]).map pdM = CD l (T ++ (o.datas.take (p + 1)).mapIdx (dataI k))) := by unfold Hid; rw [← N1.out, cd_yes HC.out, PY.out, List.map_append, MD.out]; rfl
                have CO2 : Hid (Cho A w (w.heap.size + 2) (w.heap.size + 1) X _ W0 vf vd LF LD Wx) := CO.out.later UPX.out
                have q0 := XF.out.1 0 _ rfl
                have q1 := XF.out.1 1 _ rfl
                have q2 := XF.out.1 2 _ rfl
                have q3 := XF.out.1 3 _ rfl
                have q4 := XF.out.1 4 _ rfl
                have q5 := XF.out.1 5 _ rfl
                have q6 := XF.out.1 6 _ rfl
                have c1 := CO2.out.c.1 1 _ rfl
                have CO3 : Hid (Cho A w (w.heap.size + 2) (w.heap.size + 1) X _ W0 vf vd LF LD (Wx.alloc (.cells #[.int .i64 (k : Int), .string xn, .int .i64 xb, .int .i64 xa, .bool xf, .int .i64 xz, .slice ba lb.length bc, .slice ra lr.length rc] 100))) := CO2.out.later (keep_alloc8 (Below.refl _ _) _)
                have NW : Hid (∀ i u, (pdC (k, (⟨xn, xb, xa, xf, xz, lb, lr⟩, .slice ba lb.length bc, .slice ra lr.length rc)))[i]? = some u → (Wx.alloc (.cells #[.int .i64 (k : Int), .string xn, .int .i64 xb, .int .i64 xa, .bool xf, .int .i64 xz, .slice ba lb.length bc, .slice ra lr.length rc] 100)).cell? ((⟨Wx.heap.size, 0, none⟩ : Addr).add i) = some u) := fun i u hu => by
                  rw [addr_add11, Nat.zero_add]; exact new_cell' Wx _ _ i u (by simpa [pdC, dxC] using hu)
                have LL : Hid (LD.length + 1 ≤ maxLen ∧ (LD.length + 1) * 104 ≤ 140737488355328 ∧ w.heap.size + 2 ≤ (Wx.alloc (.cells #[.int .i64 (k : Int), .string xn, .int .i64 xb, .int .i64 xa, .bool xf, .int .i64 xz, .slice ba lb.length bc, .slice ra lr.length rc] 100)).heap.size) := by
                  have h1 := LN.out
                  have h2 := CO3.out.lt
                  exact ⟨by unfold maxLen; omega, by omega, by omega⟩
                have step : ∀ (a5 : Option Addr) (c5 : Nat) (w5 : World), w5.ownsRow (w.heap.size + 2) 100 8 (.slice a5 (LD.length + 1) c5) (LD.length + 1) (LD.flatMap pdC ++ pdC (k, (⟨xn, xb, xa, xf, xz, lb, lr⟩, .slice ba lb.length bc, .slice ra lr.length rc))) → (Wx.alloc (.cells #[.int .i64 (k : Int), .string xn, .int .i64 xb, .int .i64 xa, .bool xf, .int .i64 xz, .slice ba lb.length bc, .slice ra lr.length rc] 100)).grownBy w5 vd.ownBlock →
                    (∀ q, a5 = some q → vd.ownBlock = some q.block ∨ q.block = (Wx.alloc (.cells #[.int .i64 (k : Int), .string xn, .int .i64 xb, .int .i64 xa, .bool xf, .int .i64 xz, .slice ba lb.length bc, .slice ra lr.length rc] 100)).heap.size) →
                    XAt w5 (w.heap.size + 1) [vf, vd] ∧ ∃ vf' vd' LF' LD', Cho A w (w.heap.size + 2) (w.heap.size + 1) X _ W0 vf' vd' LF' LD' (w5.setCell ⟨w.heap.size + 1, 1, none⟩ (.slice a5 (LD.length + 1) c5)) ∧ LF'.map pfM = CF l (T ++ (o.datas.take (p + 1)).mapIdx (dataI k)) ∧ LD'.map pdM = CD l (T ++ (o.datas.take (p + 1)).mapIdx (dataI k)) ∧ LF'.length + LD'.length ≤ k * 140 + 70 + (p + 1) := fun a5 c5 w5 own5 gr5 wh5 =>
                  ⟨CO3.out.kept (fun q hq => (own_oct CO3.out.chn.d q hq).1) gr5, _, _, _, _, CO3.out.data HE2.out own5 gr5 wh5, MF2.out, MDZ.out, by have := LN.out; simp; omega⟩
                have STEP := (show Hid _ from step)
                clear step
                go_wp2_with (at_builtin; refine wpList_append_one _ (by rfl) (.tmp 78) (.tmp 82) 64 (by rfl) (w.heap.size + 2) 100 i1 _ 8 104 Tryz.underlying64 ID.out.1 ID.out.2.1 ID.out.2.2.1 ID.out.2.2.2 rfl (by decide) vd LD.length (LD.flatMap pdC) (by rfl) CO3.out.chn.d ⟨Wx.heap.size, 0, none⟩ 1 (pdC (k, (⟨xn, xb, xa, xf, xz, lb, lr⟩, .slice ba lb.length bc, .slice ra lr.length rc))) (by rfl) rfl NW.out (pd_one A w _ HE2.out) LL.out.1 LL.out.2.1 LL.out.2.2 ?_; intro a5 c5 w5 own5 gr5 wh5; have S5 := STEP.out a5 c5 w5 own5 gr5 wh5; have xc1 := S5.1.1 1 _ rfl; have fz := S5.1.2)
                have S6 := (show Hid _ from S5.2)
                clear S5 own5 gr5 wh5 xc1 fz
                go_roundw
                case rel => exact ⟨p + 1, by omega, by go_num, S6.out⟩
                case measure => simp [intOf]; omega
              · have g3 : (xb == 3) = false := by simpa using h3
                clear ZV
                obtain ⟨z0, ez0⟩ : ∃ z0 : Int, z0 = (ho : Int) := ⟨_, rfl⟩
                have ZV : Hid ((H xn).elim (.agg #[.int .i64 0, .int .i64 0, .int .i64 0, .int .i64 0]) holdV = .agg #[.int .i64 z0, .int .i64 hbd, .int .i64 hs0, .int .i64 ha0]) := by unfold Hid; rw [hH, ez0]; rfl
                have q1x := (XF1.out z0 hbd hs0 ha0).1 1 _ rfl
                by_cases he : ho = k
                · have g5 : (z0 == (k : Int)) = true := by rw [ez0, he]; simp
                  have HC : Hid (choseP (itemsL l) true ⟨k, p, true, xn, xb⟩ = true) := by unfold Hid; rw [hC]; exact decide_eq_true he
                  by_cases h4 : xb = 4
                  · have g4 : (xb == 4) = true := by simpa using h4
                    have PY : Hid (partD l ⟨k, p, true, xn, xb⟩ = (k, ⟨xn, xb, ha0, xf, hs0, lb, lr⟩)) := by
                      have := hSA he h4
                      dsimp only at this
                      unfold partD Hid
                      rw [this.1, this.2]
                      unfold dataC
                      rw [if_pos h4, PX.out]
                    clear h3 hC hb hH he h4 hSA ez0
                    go_upto_region 17 with (at_lookup; refine wpList_held_look (by rfl) (.tmp 55) (.tmp 57) (by rfl) (HM.out.later HW2.out) (by rfl) xn (by rfl) NM.out _ rfl (.agg #[.int .i64 z0, .int .i64 hbd, .int .i64 hs0, .int .i64 ha0]) ZV.out ?_)
                    have UPX := (show Hid _ from UPX1.out z0 hbd hs0 ha0)
                    have XFa := (show Hid _ from XF1.out z0 hbd hs0 ha0)
                    have y2 : (W2.alloc (.cells #[.int .i64 z0, .int .i64 hbd, .int .i64 hs0, .int .i64 ha0] 90)).cell? ⟨W2.heap.size, 2, none⟩ = some (.int .i64 hs0) := new_cell' _ _ _ 2 _ rfl
                    have y3 : (W2.alloc (.cells #[.int .i64 z0, .int .i64 hbd, .int .i64 hs0, .int .i64 ha0] 90)).cell? ⟨W2.heap.size, 3, none⟩ = some (.int .i64 ha0) := new_cell' _ _ _ 3 _ rfl
                    have hne : wr.heap.size ≠ W2.heap.size := by have := SF.out; omega
                    generalize W2.alloc (.cells #[.int .i64 z0, .int .i64 hbd, .int .i64 hs0, .int .i64 ha0] 90) = Wy at XFa UPX y2 y3 ⊢
                    clear q0 q1 q1x UPX1 XF1 UP2
                    generalize W2.heap.size = HK at y2 y3 hne ⊢
                    replace XFa : Hid (XAt Wy wr.heap.size [.string xn, .int .i64 xb, .int .i64 xa, .bool xf, .int .i64 xz, .slice ba lb.length bc, .slice ra lr.length rc]) := XFa.out
                    have q2 := XFa.out.1 2 _ rfl
                    have q4 := XFa.out.1 4 _ rfl
                    have q2' := XFa.out.2 2
                    have q4' := XFa.out.2 4
                    go_region_held3 (fun W => W.cell? ⟨HK, 2, none⟩ = some (.int .i64 hs0) ∧ W.cell? ⟨HK, 3, none⟩ = some (.int .i64 ha0)) (go_keep) (fail)
                    have XF : Hid (XAt ((Wy.setCell ⟨wr.heap.size, 4, none⟩ (.int .i64 hs0)).setCell ⟨wr.heap.size, 2, none⟩ (.int .i64 ha0)).drew wr.heap.size [.string xn, .int .i64 xb, .int .i64 ha0, .bool xf, .int .i64 hs0, .slice ba lb.length bc, .slice ra lr.length rc]) :=
                      XAt.keep ((XFa.out.set 4 (by simp) _).set 2 (by simp) _) rfl
                    have UPZ : Hid (Below wr.heap.size wr ((Wy.setCell ⟨wr.heap.size, 4, none⟩ (.int .i64 hs0)).setCell ⟨wr.heap.size, 2, none⟩ (.int .i64 ha0)).drew) :=
                      ((UPX.out.setCell (p := ⟨wr.heap.size, 4, none⟩) (Nat.le_refl _) _).setCell (p := ⟨wr.heap.size, 2, none⟩) (Nat.le_refl _) _).drew
                    clear UPX XFa y2 y3 q2 q4 q2' q4' hne
                    have UPX := UPZ
                    clear UPZ
                    generalize ((Wy.setCell ⟨wr.heap.size, 4, none⟩ (.int .i64 hs0)).setCell ⟨wr.heap.size, 2, none⟩ (.int .i64 ha0)).drew = Wx at XF UPX ⊢
                    have HE2 : Hid (DE A w (⟨xn, xb, ha0, xf, hs0, lb, lr⟩, .slice ba lb.length bc, .slice ra lr.length rc)) := HE.out
                    have MDZ : Hid ((LD ++ [((k, (⟨xn, xb, ha0, xf, hs0, lb, lr⟩, .slice ba lb.length bc, .slice ra lr.length rc)) : PD)]).map pdM = CD l (T ++ (o.datas.take (p + 1)).mapIdx (dataI k))) := by unfold Hid; rw [← N1.out, cd_yes HC.out, PY.out, List.map_append, MD.out]; rfl
                    have CO2 : Hid (Cho A w (w.heap.size + 2) (w.heap.size + 1) X _ W0 vf vd LF LD Wx) := CO.out.later UPX.out
                    have q0 := XF.out.1 0 _ rfl
                    have q1 := XF.out.1 1 _ rfl
                    have q2 := XF.out.1 2 _ rfl
                    have q3 := XF.out.1 3 _ rfl
                    have q4 := XF.out.1 4 _ rfl
                    have q5 := XF.out.1 5 _ rfl
                    have q6 := XF.out.1 6 _ rfl
                    have c1 := CO2.out.c.1 1 _ rfl
                    have CO3 : Hid (Cho A w (w.heap.size + 2) (w.heap.size + 1) X _ W0 vf vd LF LD (Wx.alloc (.cells #[.int .i64 (k : Int), .string xn, .int .i64 xb, .int .i64 ha0, .bool xf, .int .i64 hs0, .slice ba lb.length bc, .slice ra lr.length rc] 100))) := CO2.out.later (keep_alloc8 (Below.refl _ _) _)
                    have NW : Hid (∀ i u, (pdC (k, (⟨xn, xb, ha0, xf, hs0, lb, lr⟩, .slice ba lb.length bc, .slice ra lr.length rc)))[i]? = some u → (Wx.alloc (.cells #[.int .i64 (k : Int), .string xn, .int .i64 xb, .int .i64 ha0, .bool xf, .int .i64 hs0, .slice ba lb.length bc, .slice ra lr.length rc] 100)).cell? ((⟨Wx.heap.size, 0, none⟩ : Addr).add i) = some u) := fun i u hu => by
                      rw [addr_add11, Nat.zero_add]; exact new_cell' Wx _ _ i u (by simpa [pdC, dxC] using hu)
                    have LL : Hid (LD.length + 1 ≤ maxLen ∧ (LD.length + 1) * 104 ≤ 140737488355328 ∧ w.heap.size + 2 ≤ (Wx.alloc (.cells #[.int .i64 (k : Int), .string xn, .int .i64 xb, .int .i64 ha0, .bool xf, .int .i64 hs0, .slice ba lb.length bc, .slice ra lr.length rc] 100)).heap.size) := by
                      have h1 := LN.out
                      have h2 := CO3.out.lt
                      exact ⟨by unfold maxLen; omega, by omega, by omega⟩
                    have step : ∀ (a5 : Option Addr) (c5 : Nat) (w5 : World), w5.ownsRow (w.heap.size + 2) 100 8 (.slice a5 (LD.length + 1) c5) (LD.length + 1) (LD.flatMap pdC ++ pdC (k, (⟨xn, xb, ha0, xf, hs0, lb, lr⟩, .slice ba lb.length bc, .slice ra lr.length rc))) → (Wx.alloc (.cells #[.int .i64 (k : Int), .string xn, .int .i64 xb, .int .i64 ha0, .bool xf, .int .i64 hs0, .slice ba lb.length bc, .slice ra lr.length rc] 100)).grownBy w5 vd.ownBlock →
                        (∀ q, a5 = some q → vd.ownBlock = some q.block ∨ q.block = (Wx.alloc (.cells #[.int .i64 (k : Int), .string xn, .int .i64 xb, .int .i64 ha0, .bool xf, .int .i64 hs0, .slice ba lb.length bc, .slice ra lr.length rc] 100)).heap.size) →
                        XAt w5 (w.heap.size + 1) [vf, vd] ∧ ∃ vf' vd' LF' LD', Cho A w (w.heap.size + 2) (w.heap.size + 1) X _ W0 vf' vd' LF' LD' (w5.setCell ⟨w.heap.size + 1, 1, none⟩ (.slice a5 (LD.length + 1) c5)) ∧ LF'.map pfM = CF l (T ++ (o.datas.take (p + 1)).mapIdx (dataI k)) ∧ LD'.map pdM = CD l (T ++ (o.datas.take (p + 1)).mapIdx (dataI k)) ∧ LF'.length + LD'.length ≤ k * 140 + 70 + (p + 1) := fun a5 c5 w5 own5 gr5 wh5 =>
                      ⟨CO3.out.kept (fun q hq => (own_oct CO3.out.chn.d q hq).1) gr5, _, _, _, _, CO3.out.data HE2.out own5 gr5 wh5, MF2.out, MDZ.out, by have := LN.out; simp; omega⟩
                    have STEP := (show Hid _ from step)
                    clear step
                    go_wp2_with (at_builtin; refine wpList_append_one _ (by rfl) (.tmp 78) (.tmp 82) 64 (by rfl) (w.heap.size + 2) 100 i1 _ 8 104 Tryz.underlying64 ID.out.1 ID.out.2.1 ID.out.2.2.1 ID.out.2.2.2 rfl (by decide) vd LD.length (LD.flatMap pdC) (by rfl) CO3.out.chn.d ⟨Wx.heap.size, 0, none⟩ 1 (pdC (k, (⟨xn, xb, ha0, xf, hs0, lb, lr⟩, .slice ba lb.length bc, .slice ra lr.length rc))) (by rfl) rfl NW.out (pd_one A w _ HE2.out) LL.out.1 LL.out.2.1 LL.out.2.2 ?_; intro a5 c5 w5 own5 gr5 wh5; have S5 := STEP.out a5 c5 w5 own5 gr5 wh5; have xc1 := S5.1.1 1 _ rfl; have fz := S5.1.2)
                    have S6 := (show Hid _ from S5.2)
                    clear S5 own5 gr5 wh5 xc1 fz
                    go_roundw
                    case rel => exact ⟨p + 1, by omega, by go_num, S6.out⟩
                    case measure => simp [intOf]; omega
                  · have g4 : (xb == 4) = false := by simpa using h4
                    have PY : Hid (partD l ⟨k, p, true, xn, xb⟩ = (k, ⟨xn, xb, xa, xf, xz, lb, lr⟩)) := by unfold partD dataC Hid; rw [if_neg h4, PX.out]
                    clear h3 hC hb hH he h4 hSA ez0
                    go_upto_region 18 with (at_lookup; refine wpList_held_look (by rfl) (.tmp 55) (.tmp 57) (by rfl) (HM.out.later HW2.out) (by rfl) xn (by rfl) NM.out _ rfl (.agg #[.int .i64 z0, .int .i64 hbd, .int .i64 hs0, .int .i64 ha0]) ZV.out ?_)
                    have UPX := (show Hid _ from UPX1.out z0 hbd hs0 ha0)
                    have XF := (show Hid _ from XF1.out z0 hbd hs0 ha0)
                    generalize W2.alloc (.cells #[.int .i64 z0, .int .i64 hbd, .int .i64 hs0, .int .i64 ha0] 90) = Wx at XF UPX ⊢
                    clear q0 q1 q1x UPX1 XF1
                    have HE2 : Hid (DE A w (⟨xn, xb, xa, xf, xz, lb, lr⟩, .slice ba lb.length bc, .slice ra lr.length rc)) := HE.out
                    have MDZ : Hid ((LD ++ [((k, (⟨xn, xb, xa, xf, xz, lb, lr⟩, .slice ba lb.length bc, .slice ra lr.length rc)) : PD)]).map pdM = CD l (T ++ (o.datas.take (p + 1)).mapIdx (dataI k))) := by unfold Hid; rw [← N1.out, cd_yes HC.out, PY.out, List.map_append, MD.out]; rfl
                    have CO2 : Hid (Cho A w (w.heap.size + 2) (w.heap.size + 1) X _ W0 vf vd LF LD Wx) := CO.out.later UPX.out
                    have q0 := XF.out.1 0 _ rfl
                    have q1 := XF.out.1 1 _ rfl
                    have q2 := XF.out.1 2 _ rfl
                    have q3 := XF.out.1 3 _ rfl
                    have q4 := XF.out.1 4 _ rfl
                    have q5 := XF.out.1 5 _ rfl
                    have q6 := XF.out.1 6 _ rfl
                    have c1 := CO2.out.c.1 1 _ rfl
                    have CO3 : Hid (Cho A w (w.heap.size + 2) (w.heap.size + 1) X _ W0 vf vd LF LD (Wx.alloc (.cells #[.int .i64 (k : Int), .string xn, .int .i64 xb, .int .i64 xa, .bool xf, .int .i64 xz, .slice ba lb.length bc, .slice ra lr.length rc] 100))) := CO2.out.later (keep_alloc8 (Below.refl _ _) _)
                    have NW : Hid (∀ i u, (pdC (k, (⟨xn, xb, xa, xf, xz, lb, lr⟩, .slice ba lb.length bc, .slice ra lr.length rc)))[i]? = some u → (Wx.alloc (.cells #[.int .i64 (k : Int), .string xn, .int .i64 xb, .int .i64 xa, .bool xf, .int .i64 xz, .slice ba lb.length bc, .slice ra lr.length rc] 100)).cell? ((⟨Wx.heap.size, 0, none⟩ : Addr).add i) = some u) := fun i u hu => by
                      rw [addr_add11, Nat.zero_add]; exact new_cell' Wx _ _ i u (by simpa [pdC, dxC] using hu)
                    have LL : Hid (LD.length + 1 ≤ maxLen ∧ (LD.length + 1) * 104 ≤ 140737488355328 ∧ w.heap.size + 2 ≤ (Wx.alloc (.cells #[.int .i64 (k : Int), .string xn, .int .i64 xb, .int .i64 xa, .bool xf, .int .i64 xz, .slice ba lb.length bc, .slice ra lr.length rc] 100)).heap.size) := by
                      have h1 := LN.out
                      have h2 := CO3.out.lt
                      exact ⟨by unfold maxLen; omega, by omega, by omega⟩
                    have step : ∀ (a5 : Option Addr) (c5 : Nat) (w5 : World), w5.ownsRow (w.heap.size + 2) 100 8 (.slice a5 (LD.length + 1) c5) (LD.length + 1) (LD.flatMap pdC ++ pdC (k, (⟨xn, xb, xa, xf, xz, lb, lr⟩, .slice ba lb.length bc, .slice ra lr.length rc))) → (Wx.alloc (.cells #[.int .i64 (k : Int), .string xn, .int .i64 xb, .int .i64 xa, .bool xf, .int .i64 xz, .slice ba lb.length bc, .slice ra lr.length rc] 100)).grownBy w5 vd.ownBlock →
                        (∀ q, a5 = some q → vd.ownBlock = some q.block ∨ q.block = (Wx.alloc (.cells #[.int .i64 (k : Int), .string xn, .int .i64 xb, .int .i64 xa, .bool xf, .int .i64 xz, .slice ba lb.length bc, .slice ra lr.length rc] 100)).heap.size) →
                        XAt w5 (w.heap.size + 1) [vf, vd] ∧ ∃ vf' vd' LF' LD', Cho A w (w.heap.size + 2) (w.heap.size + 1) X _ W0 vf' vd' LF' LD' (w5.setCell ⟨w.heap.size + 1, 1, none⟩ (.slice a5 (LD.length + 1) c5)) ∧ LF'.map pfM = CF l (T ++ (o.datas.take (p + 1)).mapIdx (dataI k)) ∧ LD'.map pdM = CD l (T ++ (o.datas.take (p + 1)).mapIdx (dataI k)) ∧ LF'.length + LD'.length ≤ k * 140 + 70 + (p + 1) := fun a5 c5 w5 own5 gr5 wh5 =>
                      ⟨CO3.out.kept (fun q hq => (own_oct CO3.out.chn.d q hq).1) gr5, _, _, _, _, CO3.out.data HE2.out own5 gr5 wh5, MF2.out, MDZ.out, by have := LN.out; simp; omega⟩
                    have STEP := (show Hid _ from step)
                    clear step
                    go_wp2_with (at_builtin; refine wpList_append_one _ (by rfl) (.tmp 78) (.tmp 82) 64 (by rfl) (w.heap.size + 2) 100 i1 _ 8 104 Tryz.underlying64 ID.out.1 ID.out.2.1 ID.out.2.2.1 ID.out.2.2.2 rfl (by decide) vd LD.length (LD.flatMap pdC) (by rfl) CO3.out.chn.d ⟨Wx.heap.size, 0, none⟩ 1 (pdC (k, (⟨xn, xb, xa, xf, xz, lb, lr⟩, .slice ba lb.length bc, .slice ra lr.length rc))) (by rfl) rfl NW.out (pd_one A w _ HE2.out) LL.out.1 LL.out.2.1 LL.out.2.2 ?_; intro a5 c5 w5 own5 gr5 wh5; have S5 := STEP.out a5 c5 w5 own5 gr5 wh5; have xc1 := S5.1.1 1 _ rfl; have fz := S5.1.2)
                    have S6 := (show Hid _ from S5.2)
                    clear S5 own5 gr5 wh5 xc1 fz
                    go_roundw
                    case rel => exact ⟨p + 1, by omega, by go_num, S6.out⟩
                    case measure => simp [intOf]; omega
                · have g5 : (z0 == (k : Int)) = false := by rw [ez0]; simp; omega
                  have HC : Hid (choseP (itemsL l) true ⟨k, p, true, xn, xb⟩ = false) := by unfold Hid; rw [hC]; exact decide_eq_false he
                  have CO4 : Hid (∃ vf vd LF LD, Cho A w (w.heap.size + 2) (w.heap.size + 1) X _ W0 vf vd LF LD (W2.alloc (.cells #[.int .i64 z0, .int .i64 hbd, .int .i64 hs0, .int .i64 ha0] 90)) ∧ LF.map pfM = CF l (T ++ (o.datas.take (p + 1)).mapIdx (dataI k)) ∧ LD.map pdM = CD l (T ++ (o.datas.take (p + 1)).mapIdx (dataI k)) ∧ LF.length + LD.length ≤ k * 140 + 70 + (p + 1)) :=
                    ⟨_, _, _, _, CO.out.later (UPX1.out _ _ _ _), MF2.out, by rw [← N1.out, cd_no HC.out]; exact MD.out, by have := LN.out; omega⟩
                  clear h3 hC hb hH he hSA ez0
                  go_wp2_with (at_lookup; refine wpList_held_look (by rfl) (.tmp 55) (.tmp 57) (by rfl) (HM.out.later HW2.out) (by rfl) xn (by rfl) NM.out _ rfl (.agg #[.int .i64 z0, .int .i64 hbd, .int .i64 hs0, .int .i64 ha0]) ZV.out ?_)
                  go_roundw
                  case rel => exact ⟨p + 1, by omega, by go_num, CO4.out⟩
                  case measure => simp [intOf]; omega
            · obtain rfl : p = D := by omega
              have E : o.datas.take p = o.datas := by rw [← EF.out.2.1]; exact List.take_length
              rw [E, LT2.out] at MF MD
              have CO5 : Hid (∃ vf vd LF LD, XAt wr (w.heap.size + 1) [vf, vd] ∧ Chn A w (w.heap.size + 2) vf vd LF LD wr ∧ LF.map pfM = CF l (itemsL (l.take (k + 1))) ∧ LD.map pdM = CD l (itemsL (l.take (k + 1))) ∧ LF.length + LD.length ≤ (k + 1) * 140) := ⟨_, _, LF, LD, CO.out.c, CO.out.chn, MF.out, MD.out, by have := LN.out; have := EF.out; omega⟩
              have BL5 : Hid (Below (w.heap.size + 1) W0 wr) := CO.out.low
              go_wp2
              go_roundw
              case rel => exact ⟨k + 1, by omega, by go_num, CO5.out, BL5.out⟩
              case measure => simp [intOf]; omega
    · obtain rfl : k = n := by omega
      have E : l.take k = l := by rw [← HN.out]; exact List.take_length
      rw [E] at MF MD
      have XR2 : Hid (XAt wr w.heap.size [.slice none 0 0, .slice none 0 0]) := XR.out.keep (HB.out.block _ (Nat.lt_succ_self _))
      obtain ⟨fa, fc, rfl⟩ := own_form CH.out.f
      obtain ⟨da, dc, rfl⟩ := own_form CH.out.d
      have c0 := XC1.out.1 0 _ rfl
      have c1 := XC1.out.1 1 _ rfl
      have r0 := XR2.out.1 0 _ rfl
      have r1 := XR2.out.1 1 _ rfl
      have fz := XR2.out.2
      go_wp2
      refine bodyPost_ret (results_cell Tryz.results21 _ w.heap.size (by first | rfl | simp) _ [.slice fa LF.length fc, .slice da LD.length dc] ((XR2.out.set 0 (by simp) _).set 1 (by simp) _) Tryz.underlying66 rfl (by kernel_rfl)) rfl ⟨⟨_, _, LF, LD, rfl, ?_, MF.out, MD.out, by have := LN.out; omega⟩, (HW.out.setCell (p := ⟨w.heap.size, 0, none⟩) (Nat.le_refl _) _).setCell (p := ⟨w.heap.size, 1, none⟩) (Nat.le_refl _) _⟩
      have key := CH.out.stay (W' := (wr.setCell ⟨w.heap.size, 0, none⟩ (.slice fa LF.length fc)).setCell ⟨w.heap.size, 1, none⟩ (.slice da LD.length dc)) fun q h1 h2 => (Below.heap_setCell _ _ _ _ (by simp; omega)).trans (Below.heap_setCell _ _ _ _ (by simp; omega))
      exact ⟨own_mono11 key.f (by omega), own_mono11 key.d (by omega), key.ef, key.ed, key.ne⟩
end Go.Proofs.YteakbpcmafdikaaGreatDoor
