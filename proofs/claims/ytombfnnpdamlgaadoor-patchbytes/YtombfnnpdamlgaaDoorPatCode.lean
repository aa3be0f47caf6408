/- A function's words with its relocations done, as the code has it. -/
import Derived.Test.YtombfnnpdamlgaaDoorPatVal2
import Derived.Test.YtombfnnpdamlgaaDoorSliceLib
import Derived.Test.YtombfnnpdamlgaaDoorPlcRep
import Derived.Deep.CutBlock
import Derived.Deep.MidRow
namespace Go.Proofs.YtombfnnpdamlgaaDoor
open Go.ChangeShapes Go.WideShapes Go.ChangeAt Go.RowKit
set_option linter.unusedVariables false
set_option linter.unusedSimpArgs false
/-- A row of one's own, or that it doesn't fit. -/
def RowPost (k : IntKind) (base : Nat) (o : Option (List Int)) (e : Ending) (w : World) : Prop :=
  (o = none ∧ e = .returned (.tuple #[.slice none 0 0, .int .i64 7])) ∨ ∃ l v, o = some l ∧ e = .returned (.tuple #[v, .int .i64 0]) ∧ RowU k base w v l
theorem infoU32 : (Tryd.prog.info? 47).map (fun i => (i.zero, i.size, i.bytes)) = some (some (.int .u32 0), 1, 4) := by kernel_rfl
/-- 'append([]T(nil), xs...)': T of one cell. -/
theorem wpList_append_nil {P : Program} (w : World) {ops : Array Oper} {rest : List Oper} {o : Oper} {a : Act} {Q : Exit → Act → World → Prop} (hgd : o.guard = none) (s x : Operand) (t : TypeId)
    (ho : o.op = .call { callee := .builtin .append, args := #[s, x], argTypes := #[t, t] })
    (e : TypeId) (z : Value) (bytes : Nat) (ht : P.underlying t = some (.slice e)) (hi : (P.info? e).map (fun i => (i.zero, i.size, i.bytes)) = some (some z, 1, bytes)) (hzs : z.cells.size = 1)
    (hs : a.eval s = .slice none 0 0)
    (sp : Option Addr) (m c : Nat) (news : List Value) (hx : a.eval x = .slice sp m c) (hl : news.length = m) (hnil : sp = none → m = 0 ∧ c = 0) (hnews : ∀ ad, sp = some ad → ∀ j u, news[j]? = some u → w.cell? (ad.add j) = some u) (h1 : ∀ u ∈ news, u.oneCell' = true)
    (h63 : m ≤ maxLen) (hbytes : m * bytes ≤ 140737488355328)
    (h : ∀ a' cap' w', w'.ownsRow w.heap.size e 1 (.slice a' m cap') m news → Below w.heap.size w w' → wpList P ops Q rest (a.put o.dst (.slice a' m cap')) w') : wpList P ops Q (o :: rest) a w := by
  obtain ⟨i, hi0, hz0, hz1, hz2⟩ := info_parts hi
  refine wpList_append_all _ hgd s x t ho w.heap.size e i z 1 bytes ht hi0 hz0 hz1 hz2 hzs (by decide) _ 0 [] hs own_none sp m c news hx (by omega) hnil hnews h1 (by omega) (by rwa [Nat.zero_add]) (Nat.le_refl _) ?_
  intro a' cap' w' hown hgrow
  rw [Nat.zero_add, List.nil_append] at hown
  rw [Nat.zero_add]
  exact h a' cap' w' hown (grew_below hgrow)
theorem lst_cells {k : IntKind} {w : World} {a : Option Addr} {l : List Int} (h : l = [] ∨ ∃ b off, a = some ⟨b, off, none⟩ ∧ ∀ i x, l[i]? = some x → NumAt k w b (off + i * 1) x) : ∀ ad, a = some ad → ∀ j u, (l.map fun x => Value.int k x)[j]? = some u → w.cell? (ad.add j) = some u := by
  rintro ad rfl j u hu
  rw [List.getElem?_map, Option.map_eq_some_iff] at hu
  obtain ⟨x, hx, rfl⟩ := hu
  rcases h with rfl | ⟨b, off, e, hc⟩
  · simp at hx
  · injection e with e
    subst e
    have this : w.cell? ⟨b, off + j * 1, none⟩ = some (.int k x) := hc j x hx
    rw [Nat.mul_one] at this
    cases j <;> simpa [Addr.add] using this
theorem xat_range {w : World} {g : Nat} {cs : List Value} (h : XAt w g cs) : w.rangeAt g 0 cs := fun j v hj => by rw [Nat.zero_add]; exact h.1 j v hj
/-- A row of one's own, at a place of it. -/
theorem RowU.at {k : IntKind} {base : Nat} {w : World} {a : Option Addr} {n c : Nat} {l : List Int} (h : RowU k base w (.slice a n c) l) {j : Nat} {y : Int} (hj : l[j]? = some y) :
    ∃ g, a = some ⟨g, 0, none⟩ ∧ base ≤ g ∧ g < w.heap.size ∧ w.cell? ⟨g, j, none⟩ = some (.int k y) ∧ w.frozen? ⟨g, j, none⟩ = false ∧ ∀ u, RowU k base (w.setCell ⟨g, j, none⟩ (.int k u)) (.slice a n c) (l.set j u) := by
  obtain ⟨a', c', e, hh, hl⟩ := h
  injection e with e1 e2 e3
  subst e1 e2 e3
  rcases hl with rfl | ⟨g, rfl, h2, h3, h4⟩
  · simp at hj
  · refine ⟨g, rfl, h2, h3, xat_num h4 hj, h4.2 j, fun u => ⟨some ⟨g, 0, none⟩, c, by simp, by simpa using hh, .inr ⟨g, rfl, h2, by simpa using h3, xat_put h4 (get_lt hj) u⟩⟩⟩
set_option maxRecDepth 100000 in
set_option maxHeartbeats 4000000 in
theorem pcode_any {w : World} {vp vx : Value} {p : ProgM} {x : PlanZ} {base : Nat} (hp : IsProg Any8 w vp p) (hx : IsPlan base w vx x) (hT : Tab w) (hR : RightP p) (hO : PlanOk p.funcs.length p.datas.length x)
    (f : Nat) {F : PFuncM} {c : Int} (hf : p.funcs[f]? = some F) (hc : x.code[f]? = some c) (h0 : 0 ≤ c) (hl : F.code.length ≤ 70000) :
    Calls Tryd.prog 11 #[vp, vx, .int .i64 f] w fun e w' => RowPost .u32 w.heap.size (codeZ x c F) e w' ∧ Below w.heap.size w w' := by
  obtain ⟨vf, vd, rfl, pf, pd⟩ := hp
  obtain ⟨xc, xd, rfl, xc1, xd1, -⟩ := hx
  have hcn := xc1.isNums
  have hdn := xd1.isNums
  clear xc1 xd1
  obtain ⟨fa, fc, rfl, fm, -, fx⟩ := LstA.open pf
  have hlf := get_lt hf
  obtain ⟨b, off, F', rfl, -, hF', vc, vr, -, -, -, f3, f4, fw, fr⟩ := fx f hlf
  rw [hf] at hF'
  injection hF' with hF'
  subst hF'
  have hFO : FnOk p.funcs.length p.datas.length F := hR.1 F (List.mem_of_getElem? hf)
  obtain ⟨nf, enf⟩ : ∃ n, p.funcs.length = n := ⟨_, rfl⟩
  obtain ⟨nd, endd⟩ : ∃ n, p.datas.length = n := ⟨_, rfl⟩
  rw [enf] at hlf fm hO hFO ⊢
  rw [endd] at hO hFO
  obtain ⟨ca, cc, rfl, ch, -, ccells⟩ := fw.1
  have hwrd := fw.2
  obtain ⟨ra, rc, rfl, rm, -, rx⟩ := LstA.open fr
  have hck := hO.hc c (List.mem_of_getElem? hc)
  have hlc := get_lt hc
  obtain ⟨m, em⟩ : ∃ m, F.code.length = m := ⟨_, rfl⟩
  obtain ⟨rn, ern⟩ : ∃ m, F.rels.length = m := ⟨_, rfl⟩
  rw [em] at ch hl f3
  rw [ern] at rm rx f4
  have hm' := may_len fm
  have hk' : (f : Int) < nf := by omega
  have hST : Hid (∀ W, Below w.heap.size w W → Calls Tryd.prog 25 #[xc, .int .i64 f] W fun e w' => e = .returned (.tuple #[.int .i64 c, .bool true]) ∧ w' = W) := fun W hW => (stands_any (hcn.later hW) f hlc hc).mono fun e w' h => by
    rcases h with ⟨h | h, hw⟩
    · exact ⟨h.2, hw⟩
    · omega
  obtain ⟨pe, epe⟩ : ∃ m, p.entry = m := ⟨_, rfl⟩
  rw [epe]
  have c0 := new_cell' w #[.slice (some ⟨b, off, none⟩) nf fc, vd, .int .i64 pe] 25 0 _ rfl
  have UP : Hid (∀ o, Below w.heap.size w ((w.alloc (.cells #[.slice (some ⟨b, off, none⟩) nf fc, vd, .int .i64 pe] 25)).alloc o)) := fun o => keep_alloc8 (keep_alloc8 (Below.refl _ _) _) _
  have SRC : Hid (∀ W, Below w.heap.size w W → ∀ ad, ca = some ad → ∀ j u, (F.code.map fun x => Value.int .u32 x)[j]? = some u → W.cell? (ad.add j) = some u) := fun W hW ad e j u hu => cell_any (lst_cells ccells ad e j u hu) hW
  have HH : Hid (Head ca m cc ∧ cc ≤ maxLen) := ch
  have EM : Hid (F.code.length = m ∧ F.rels.length = rn) := ⟨em, ern⟩
  have RX : Hid (∀ k, k < rn → ∃ b off x, ra = some ⟨b, off, none⟩ ∧ Any8 b ∧ F.rels[k]? = some x ∧ PRelAt w b (off + k * 4) x) := rx
  have CK : Hid (-1 ≤ c ∧ c ≤ 65536) := hck
  have HL : Hid (m ≤ 70000) := hl
  have F34 : Hid (w.cell? ⟨b, off + f * 5 + 3, none⟩ = some (.slice ca m cc) ∧ w.cell? ⟨b, off + f * 5 + 4, none⟩ = some (.slice ra rn rc)) := ⟨f3, f4⟩
  clear f3 f4 fx pf pd fr fw rx em ern ccells ch hck hl
  have C0 : Hid (∀ o, ((w.alloc (.cells #[.slice (some ⟨b, off, none⟩) nf fc, vd, .int .i64 pe] 25)).alloc o).cell? ⟨w.heap.size, 0, none⟩ = some (.slice (some ⟨b, off, none⟩) nf fc)) := fun o => cell_any c0 (keep_alloc8 (Below.refl _ _) _)
  have C1 := new_cell' (w.alloc (.cells #[.slice (some ⟨b, off, none⟩) nf fc, vd, .int .i64 pe] 25)) #[xc, xd, .int .i64 x.words, .int .i64 x.bytes, .int .i64 x.write] 30 0 _ rfl
  have X1 := XAt.new (w.alloc (.cells #[.slice (some ⟨b, off, none⟩) nf fc, vd, .int .i64 pe] 25)) #[xc, xd, .int .i64 x.words, .int .i64 x.bytes, .int .i64 x.write] 30
  rw [World.size_alloc] at C1 X1
  clear c0
  go_enter Tryd.func11, Tryd.ntmps11
  go_upto_region 1 with fail
  replace C0 := C0.out (.cells #[xc, xd, .int .i64 x.words, .int .i64 x.bytes, .int .i64 x.write] 30)
  replace UP : Hid (Below w.heap.size w ((w.alloc (.cells #[.slice (some ⟨b, off, none⟩) nf fc, vd, .int .i64 pe] 25)).alloc (.cells #[xc, xd, .int .i64 x.words, .int .i64 x.bytes, .int .i64 x.write] 30))) := UP.out _
  generalize (w.alloc (.cells #[.slice (some ⟨b, off, none⟩) nf fc, vd, .int .i64 pe] 25)).alloc (.cells #[xc, xd, .int .i64 x.words, .int .i64 x.bytes, .int .i64 x.write] 30) = w0 at C0 C1 X1 UP ⊢
  have f3' := cell_any F34.out.1 UP.out
  go_upto_region 5 with (first | (go_at_call 25; refine (hST.out _ UP.out).mono ?_; rintro e w' ⟨rfl, hw'⟩; subst w') | (at_builtin; refine wpList_append_nil _ rfl (.const (.slice none 0 0)) (.tmp 38) 34 rfl 47 (.int .u32 0) 4 Tryd.underlying34 infoU32 rfl rfl ca m cc (F.code.map fun x => Value.int .u32 x) rfl (by rw [List.length_map]; exact EM.out.1) (head_nil HH.out.1) (SRC.out _ UP.out) (by simp [Value.oneCell']) (by have := HL.out; unfold maxLen; omega) (by have := HL.out; omega) ?_; intro a1 c1 w1 own1 hb1))
  have c0' := cell_any C0 hb1
  have XA : Hid (XAt w0 (w.heap.size + 1) [xc, xd, .int .i64 x.words, .int .i64 x.bytes, .int .i64 x.write]) := X1
  have f4' := cell_any F34.out.2 (bnext UP.out hb1)
  have R1 : Hid (RowU .u32 w0.heap.size w1 (.slice a1 m c1) F.code) := by
    have e := EM.out.1
    rw [← e] at own1 ⊢
    exact own_rowU own1
  have HB1 : Hid (Below w0.heap.size w0 w1) := hb1
  have WR : Hid (Wrd F.code) := hwrd
  have HF : Hid (FnOk nf nd F ∧ PlanOk nf nd x ∧ IsNums w xc x.code ∧ IsNums w xd x.data ∧ Tab w) := ⟨hFO, hO, hcn, hdn, hT⟩
  clear hwrd own1 hb1 hFO hO hcn hdn C0 f3' C1 X1 hR
  have rm' := may_len rm
  go_wp2
  go_loopw [47] (fun i wr => ∃ (k : Nat) (ws : List Int), k ≤ rn ∧ i = .int .i64 k ∧ relsZ x c (F.rels.take k) F.code = some ws ∧ RowU .u32 w0.heap.size wr (.slice a1 m c1) ws ∧ Below w0.heap.size w0 wr) (fun i _ => rn - (intOf i).toNat)
  case atStart => exact ⟨0, F.code, Nat.zero_le _, rfl, rfl, R1.out, HB1.out⟩
  case round =>
    obtain ⟨k, ws, hk, rfl, hz, hrow, hb⟩ := hrel
    have HZ : Hid (relsZ x c (F.rels.take k) F.code = some ws) := hz
    have HROW : Hid (RowU .u32 w0.heap.size wr (.slice a1 m c1) ws) := hrow
    have HB : Hid (Below w0.heap.size w0 wr) := hb
    clear hz hrow hb
    by_cases hlt : k < rn
    · have hlt' : (k : Int) < rn := by omega
      obtain ⟨q, qo, r, rfl, -, hr, x0, x1, x2, x3⟩ := RX.out k hlt
      have y0 := cell_any x0 (bnext UP.out HB.out)
      have y1 := cell_any x1 (bnext UP.out HB.out)
      have y2 := cell_any x2 (bnext UP.out HB.out)
      have y3 := cell_any x3 (bnext UP.out HB.out)
      clear x0 x1 x2 x3
      have hrF := HF.out.1.1 r (List.mem_of_getElem? hr)
      have hwas := relsZ_was HF.out.1 hr HZ.out
      have hnext := relsZ_next (x := x) (c := c) (ws := F.code) hr
      have hmem := relsZ_keeps HZ.out
      rw [HZ.out] at hnext
      obtain ⟨A, hA⟩ : ∃ A : Nat, r.at_ = A := ⟨r.at_.toNat, by have := hrF.1; omega⟩
      have hAm : A < m := by have := hrF.2.1; have := EM.out.1; omega
      obtain ⟨y, hy⟩ : ∃ y, ws[A]? = some y := get_some (by rw [hmem.1, EM.out.1]; exact hAm)
      have hyr := hmem.2 WR.out y (List.mem_of_getElem? hy)
      simp only [relStep, Option.bind_some, hA, Int.toNat_natCast, List.getD_eq_getElem?_getD, hy, Option.getD_some, wordZ] at hnext
      obtain ⟨g, rfl, g1, g2, gc, gf, gset⟩ := HROW.out.at hy
      have HBC : Hid (∀ W, Below w.heap.size w W → Calls Tryd.prog 26 #[.agg #[xc, xd, .int .i64 x.words, .int .i64 x.bytes, .int .i64 x.write], .agg #[.int .i64 A, .int .i64 r.kind, .int .i64 r.to, .int .i64 r.add], .int .i64 (c + A)] W fun e w' => Fit2 .i64 (becZ x r (c + A)) e ∧ Below W.heap.size W w') := fun W hW => by
        have h := becomes_any (a := x.words) (b := x.bytes) (c := x.write) (HF.out.2.2.1.later hW) (HF.out.2.2.2.1.later hW) HF.out.2.1 r hrF.2.2.2.2.1 (by rcases hrF.2.2.2.2.2.2 with ⟨h1, _, h2⟩ | ⟨⟨h1, _⟩ | ⟨h1, _⟩, h2⟩; exact .inl ⟨h1, h2⟩; exact .inr ⟨.inl h1, h2⟩; exact .inr ⟨.inr h1, h2⟩) hrF.2.2.1 hrF.2.2.2.1 (c + A) (by omega) (by have := CK.out; have := HL.out; omega)
        rw [hA] at h
        exact h
      have HWI : Hid (∀ i W, Below w.heap.size w W → Calls Tryd.prog 27 #[.int .u32 y, .int .i64 i] W fun e w' => Fit2 .u32 (withZ y i) e ∧ Below W.heap.size W w') := fun i W hW => with_any y i hyr.1 hyr.2 (HF.out.2.2.2.2.later hW)
      have HN : Hid (relsZ x c (F.rels.take (k + 1)) F.code = Option.map (fun w => ws.set A w) ((becZ x r (c + A)).bind (withZ y))) := hnext
      have GS : Hid (∀ W, Below wr.heap.size wr W → W.cell? ⟨g, A, none⟩ = some (.int .u32 y) ∧ W.frozen? ⟨g, A, none⟩ = false ∧ ∀ u, RowU .u32 w0.heap.size (W.setCell ⟨g, A, none⟩ (.int .u32 u)) (.slice (some ⟨g, 0, none⟩) m c1) (ws.set A u)) := fun W hW => by
        obtain ⟨g', e, -, -, q1, q2, q3⟩ := (HROW.out.later hW).at hy
        injection e with e
        injection e with e
        subst e
        exact ⟨q1, q2, q3⟩
      have GL : Hid (w0.heap.size ≤ g) := g1
      clear hnext hwas hmem hrF hyr hy hr gset gc gf g1 g2
      obtain ⟨at_, kd, tt, ad⟩ := r
      dsimp only at *
      subst hA
      have XR := XAt.new wr #[.int .i64 A, .int .i64 kd, .int .i64 tt, .int .i64 ad] 46
      have hr0 := new_cell' wr #[.int .i64 A, .int .i64 kd, .int .i64 tt, .int .i64 ad] 46 0 _ rfl
      have HX2 := keep_alloc8 HB.out (.cells #[.int .i64 A, .int .i64 kd, .int .i64 tt, .int .i64 ad] 46)
      have HS2 := keep_alloc8 (Below.refl wr.heap.size wr) (.cells #[.int .i64 A, .int .i64 kd, .int .i64 tt, .int .i64 ad] 46)
      have lt0 : ¬ ((A : Int) < 0) := by omega
      have ck1 := CK.out.2
      have hAi : (A : Int) ≤ 70000 := by have := HL.out; omega
      have ltm : ¬ ((m : Int) ≤ (A : Int)) := by omega
      go_upto_region 8 with fail
      generalize wr.alloc (.cells #[.int .i64 A, .int .i64 kd, .int .i64 tt, .int .i64 ad] 46) = w2 at XR hr0 HX2 HS2 ⊢
      have XA2 : Hid (XAt w2 (w.heap.size + 1) [xc, xd, .int .i64 x.words, .int .i64 x.bytes, .int .i64 x.write]) := XA.out.later (XA.out.lt (by simp)) HX2
      have XR2 : Hid (XAt w2 wr.heap.size [.int .i64 A, .int .i64 kd, .int .i64 tt, .int .i64 ad]) := XR
      have H20 : Hid (Below w.heap.size w w2) := bnext UP.out HX2
      have H22 : Hid (Below w0.heap.size w0 w2 ∧ Below wr.heap.size wr w2) := ⟨HX2, HS2⟩
      clear XR HX2 HS2
      have p0 := XA2.out.1 0 _ rfl
      have p1 := XA2.out.1 1 _ rfl
      have p2 := XA2.out.1 2 _ rfl
      have p3 := XA2.out.1 3 _ rfl
      have p4 := XA2.out.1 4 _ rfl
      have hr1 := XR2.out.1 1 _ rfl
      have hr2 := XR2.out.1 2 _ rfl
      have hr3 := XR2.out.1 3 _ rfl
      go_wp2_with (first
        | (go_at_call 27; have q := hb3; refine (HWI.out _ _ (bnext H20.out hb3)).mono ?_; rintro e w4 ⟨⟨u, hu, rfl⟩ | ⟨hu, u, rfl⟩, hb4⟩; all_goals (have r04 := cell_any hr03 hb4; obtain ⟨s1, s2, s3⟩ := GS.out _ (bnext (bnext H22.out.2 hb3) hb4); have S3 : Hid (∀ u, RowU .u32 w0.heap.size (w4.setCell ⟨g, A, none⟩ (.int .u32 u)) (.slice (some ⟨g, 0, none⟩) m c1) (ws.set A u)) := s3; clear s3))
        | (go_at_call 26; refine (HBC.out _ H20.out).mono ?_; rintro e w3 ⟨⟨i, hi, rfl⟩ | ⟨hi, i, rfl⟩, hb3⟩; all_goals (have hr03 := cell_any hr0 hb3; obtain ⟨s13, s23, -⟩ := GS.out _ (bnext H22.out.2 hb3))))
      · go_roundw
        case rel => exact ⟨k + 1, ws.set A u, by omega, by go_num, by rw [HN.out, hi, Option.bind_some, hu]; rfl, S3.out u, (bnext (bnext H22.out.1 hb3) hb4).setCell GL.out _⟩
        case measure => simp [intOf]; omega
      · exact bodyPost_ret (by simp [results, Tryd.results11, go_sem]) rfl ⟨.inl ⟨relsZ_stop (HN.out.trans (by rw [hi, Option.bind_some, hu]; rfl)), rfl⟩, bnext (bnext H20.out hb3) hb4⟩
      · exact bodyPost_ret (by simp [results, Tryd.results11, go_sem]) rfl ⟨.inl ⟨relsZ_stop (HN.out.trans (by rw [hi]; rfl)), rfl⟩, bnext (bnext H20.out hb3) hb4⟩
      · exact bodyPost_ret (by simp [results, Tryd.results11, go_sem]) rfl ⟨.inl ⟨relsZ_stop (HN.out.trans (by rw [hi]; rfl)), rfl⟩, bnext (bnext H20.out hb3) hb4⟩
    · obtain rfl : k = rn := by omega
      go_wp2
      exact bodyPost_ret (by simp [results, Tryd.results11, go_sem]) rfl ⟨.inr ⟨ws, _, by rw [← EM.out.2, List.take_length] at HZ; exact HZ.out, rfl, HROW.out.lower UP.out.size⟩, bnext UP.out HB.out⟩
end Go.Proofs.YtombfnnpdamlgaaDoor
