/- A function's words with its relocations done, as the document has it. -/
import Derived.Test.YtombfnnpdamlgaaDoorPatCode
import Derived.Test.YtombfnnpdamlgaaDoorCodeAwake
namespace Go.Proofs.YtombfnnpdamlgaaDoor
open Go.ChangeShapes Go.WideShapes Go.ChangeAt Go.RowKit
set_option linter.unusedVariables false
set_option linter.unusedSimpArgs false
theorem with_rb {y imm : Int} (h : okG y = true) : withZ y imm = if rightB (gO y) (gA y) (gB y) (gC y) imm = true then some (putZ (gO y) (gA y) (gB y) (gC y) imm) else none := by unfold withZ; simp [h]
theorem with_far {y imm : Int} (h : okG y = true) (ho : gO y = 19 ∨ gO y = 20) : rightB (gO y) (gA y) (gB y) (gC y) imm = decide (-8388608 ≤ imm ∧ imm ≤ 8388607) := by
  have h1 := (ok_put y h).1
  rw [right_far _ _ _ _ _ ho] at h1 ⊢
  rw [decide_eq_true_eq] at h1
  rw [Bool.eq_iff_iff]; simp only [decide_eq_true_eq]; omega
theorem with_half {y imm : Int} (h : okG y = true) (ho : gO y = 9 ∨ gO y = 10) (h0 : 0 ≤ imm) (h1 : imm ≤ 65535) : rightB (gO y) (gA y) (gB y) (gC y) imm = true := by
  have h2 := (ok_put y h).1
  rcases ho with ho | ho
  · rw [ho] at h2 ⊢
    rw [right_high] at h2 ⊢
    rw [decide_eq_true_eq] at h2 ⊢; omega
  · rw [ho] at h2 ⊢
    rw [right_ori] at h2 ⊢
    rw [decide_eq_true_eq] at h2 ⊢; omega
theorem wrap_mid {y : Int} (h0 : -4294967296 ≤ y) (h1 : y < 4294967296) : IntKind.i64.wrap y = y := by simp [IntKind.wrap, IntKind.bits, IntKind.signed]; omega
/-- Numbers there, one by one. -/
theorem nums_open {w : World} {v : Value} {l : List Int} (h : IsNums w v l) {n : Nat} (hn : l.length = n) : ∃ a c, v = .slice a n c ∧ n ≤ maxLen ∧ (n = 0 ∨ ∃ b off, a = some ⟨b, off, none⟩ ∧ ∀ (k : Nat) y, l[k]? = some y → w.cell? ⟨b, off + k, none⟩ = some (.int .i64 y)) := by
  obtain ⟨a, c, e, hh, -, hl⟩ := h
  subst hn
  refine ⟨a, c, e, Nat.le_trans hh.1.1 hh.2, ?_⟩
  rcases hl with rfl | ⟨b, off, rfl, hc⟩
  · exact .inl rfl
  · exact .inr ⟨b, off, rfl, fun k y hk => by have h : w.cell? ⟨b, off + k * 1, none⟩ = _ := hc k y hk; rwa [Nat.mul_one] at h⟩
set_option maxRecDepth 100000 in
set_option maxHeartbeats 4000000 in
theorem rcode_any {w : World} {vp vx : Value} {p : ProgM} {x : PlanZ} {base : Nat} (hp : IsProg Any8 w vp p) (hx : IsPlan base w vx x) (hT : Tab w) (hR : RightP p) (hO : PlanOk p.funcs.length p.datas.length x)
    (f : Nat) {F : PFuncM} {c : Int} (hf : p.funcs[f]? = some F) (hc : x.code[f]? = some c) (h0 : 0 ≤ c) (hl : F.code.length ≤ 70000) :
    Calls Tryd.prog 12 #[vp, vx, .int .i64 f] w fun e w' => RowPost .u32 w.heap.size (codeZ x c F) e w' ∧ Below w.heap.size w w' := by
  obtain ⟨vf, vd, rfl, pf, pd⟩ := hp
  obtain ⟨xc, xd, rfl, xc1, xd1, -⟩ := hx
  have hcn := xc1.isNums
  have hdn := xd1.isNums
  clear xc1 xd1
  obtain ⟨fa, fc, rfl, fm, -, fx⟩ := LstA.open pf
  have hlf := get_lt hf
  obtain ⟨b, off, F', rfl, -, hF', vc, vr, -, -, -, f3, f4, fw, fr⟩ := fx f hlf
  rw [hf] at hF'
  injection hF' with hF'
  subst hF'
  have hFO : FnOk p.funcs.length p.datas.length F := hR.1 F (List.mem_of_getElem? hf)
  obtain ⟨nf, enf⟩ : ∃ n, p.funcs.length = n := ⟨_, rfl⟩
  obtain ⟨nd, endd⟩ : ∃ n, p.datas.length = n := ⟨_, rfl⟩
  rw [enf] at hlf fm hO hFO ⊢
  rw [endd] at hO hFO
  obtain ⟨ca, cc, rfl, ch, -, ccells⟩ := fw.1
  have hwrd := fw.2
  obtain ⟨ra, rc, rfl, rm, -, rx⟩ := LstA.open fr
  have hck := hO.hc c (List.mem_of_getElem? hc)
  have hlc := get_lt hc
  obtain ⟨m, em⟩ : ∃ m, F.code.length = m := ⟨_, rfl⟩
  obtain ⟨rn, ern⟩ : ∃ m, F.rels.length = m := ⟨_, rfl⟩
  rw [em] at ch hl f3
  rw [ern] at rm rx f4
  have hm' := may_len fm
  have hk' : (f : Int) < nf := by omega
  obtain ⟨xa, xcc, rfl, xm, hxa⟩ := nums_open hcn hO.nc
  obtain ⟨ya, ycc, rfl, ym, hya⟩ := nums_open hdn hO.nd
  rcases hxa with hxa | ⟨xb, xo, rfl, hxc⟩
  · omega
  have XC : Hid (∀ (k : Nat) y, x.code[k]? = some y → w.cell? ⟨xb, xo + k, none⟩ = some (.int .i64 y)) := hxc
  have YC : Hid (nd = 0 ∨ ∃ b off, ya = some ⟨b, off, none⟩ ∧ ∀ (k : Nat) y, x.data[k]? = some y → w.cell? ⟨b, off + k, none⟩ = some (.int .i64 y)) := hya
  have xm' := may_len xm
  have ym' := may_len ym
  clear hxc hya
  obtain ⟨pe, epe⟩ : ∃ m, p.entry = m := ⟨_, rfl⟩
  rw [epe]
  have c0 := new_cell' w #[.slice (some ⟨b, off, none⟩) nf fc, vd, .int .i64 pe] 25 0 _ rfl
  have UP : Hid (∀ o, Below w.heap.size w ((w.alloc (.cells #[.slice (some ⟨b, off, none⟩) nf fc, vd, .int .i64 pe] 25)).alloc o)) := fun o => keep_alloc8 (keep_alloc8 (Below.refl _ _) _) _
  have SRC : Hid (∀ W, Below w.heap.size w W → ∀ ad, ca = some ad → ∀ j u, (F.code.map fun x => Value.int .u32 x)[j]? = some u → W.cell? (ad.add j) = some u) := fun W hW ad e j u hu => cell_any (lst_cells ccells ad e j u hu) hW
  have HH : Hid (Head ca m cc ∧ cc ≤ maxLen) := ch
  have EM : Hid (F.code.length = m ∧ F.rels.length = rn) := ⟨em, ern⟩
  have RX : Hid (∀ k, k < rn → ∃ b off x, ra = some ⟨b, off, none⟩ ∧ Any8 b ∧ F.rels[k]? = some x ∧ PRelAt w b (off + k * 4) x) := rx
  have CK : Hid (-1 ≤ c ∧ c ≤ 65536) := hck
  have HL : Hid (m ≤ 70000) := hl
  have F34 : Hid (w.cell? ⟨b, off + f * 5 + 3, none⟩ = some (.slice ca m cc) ∧ w.cell? ⟨b, off + f * 5 + 4, none⟩ = some (.slice ra rn rc)) := ⟨f3, f4⟩
  clear f3 f4 fx pf pd fr fw rx em ern ccells ch hck hl
  have C0 : Hid (∀ o, ((w.alloc (.cells #[.slice (some ⟨b, off, none⟩) nf fc, vd, .int .i64 pe] 25)).alloc o).cell? ⟨w.heap.size, 0, none⟩ = some (.slice (some ⟨b, off, none⟩) nf fc)) := fun o => cell_any c0 (keep_alloc8 (Below.refl _ _) _)
  have C1 := new_cell' (w.alloc (.cells #[.slice (some ⟨b, off, none⟩) nf fc, vd, .int .i64 pe] 25)) #[.slice (some ⟨xb, xo, none⟩) nf xcc, .slice ya nd ycc, .int .i64 x.words, .int .i64 x.bytes, .int .i64 x.write] 30 0 _ rfl
  have X1 := XAt.new (w.alloc (.cells #[.slice (some ⟨b, off, none⟩) nf fc, vd, .int .i64 pe] 25)) #[.slice (some ⟨xb, xo, none⟩) nf xcc, .slice ya nd ycc, .int .i64 x.words, .int .i64 x.bytes, .int .i64 x.write] 30
  rw [World.size_alloc] at C1 X1
  clear c0
  go_enter Tryd.func12, Tryd.ntmps12
  go_upto_region 1 with fail
  replace C0 := C0.out (.cells #[.slice (some ⟨xb, xo, none⟩) nf xcc, .slice ya nd ycc, .int .i64 x.words, .int .i64 x.bytes, .int .i64 x.write] 30)
  replace UP : Hid (Below w.heap.size w ((w.alloc (.cells #[.slice (some ⟨b, off, none⟩) nf fc, vd, .int .i64 pe] 25)).alloc (.cells #[.slice (some ⟨xb, xo, none⟩) nf xcc, .slice ya nd ycc, .int .i64 x.words, .int .i64 x.bytes, .int .i64 x.write] 30))) := UP.out _
  generalize (w.alloc (.cells #[.slice (some ⟨b, off, none⟩) nf fc, vd, .int .i64 pe] 25)).alloc (.cells #[.slice (some ⟨xb, xo, none⟩) nf xcc, .slice ya nd ycc, .int .i64 x.words, .int .i64 x.bytes, .int .i64 x.write] 30) = w0 at C0 C1 X1 UP ⊢
  have f3' := cell_any F34.out.1 UP.out
  have e0 := cell_any C0 (keep_alloc8 (Below.refl _ _) (.cells #[] 47))
  have e3 := cell_any f3' (keep_alloc8 (Below.refl _ _) (.cells #[] 47))
  go_upto_region 2 with (at_builtin; refine wpList_append_fresh w0 rfl (.tmp 14) (.tmp 20) 34 rfl 47 (.int .u32 0) 4 Tryd.underlying34 infoU32 rfl rfl ca m cc (F.code.map fun x => Value.int .u32 x) rfl (by rw [List.length_map]; exact EM.out.1) (head_nil HH.out.1) (SRC.out _ UP.out) (by simp [Value.oneCell']) (by have := HL.out; unfold maxLen; omega) (by have := HL.out; omega) ?_; intro a1 c1 w1 own1 hb1)
  have c0' := cell_any C0 hb1
  have XA : Hid (XAt w0 (w.heap.size + 1) [.slice (some ⟨xb, xo, none⟩) nf xcc, .slice ya nd ycc, .int .i64 x.words, .int .i64 x.bytes, .int .i64 x.write]) := X1
  have f4' := cell_any F34.out.2 (bnext UP.out hb1)
  have f3'' := cell_any f3' hb1
  have R1 : Hid (RowU .u32 w0.heap.size w1 (.slice a1 m c1) F.code) := by
    have e := EM.out.1
    rw [← e] at own1 ⊢
    exact own_rowU own1
  have HB1 : Hid (Below w0.heap.size w0 w1) := hb1
  have WR : Hid (Wrd F.code) := hwrd
  have HF : Hid (FnOk nf nd F ∧ PlanOk nf nd x ∧ Tab w) := ⟨hFO, hO, hT⟩
  have C00 : Hid (w0.cell? ⟨w.heap.size, 0, none⟩ = some (.slice (some ⟨b, off, none⟩) nf fc)) := C0
  clear hwrd own1 hb1 hFO hO hcn hdn C0 f3' C1 X1 hR
  have rm' := may_len rm
  go_wp2
  go_loopw [9] (fun i wr => ∃ (k : Nat) (ws : List Int), k ≤ rn ∧ i = .int .i64 k ∧ relsZ x c (F.rels.take k) F.code = some ws ∧ RowU .u32 w0.heap.size wr (.slice a1 m c1) ws ∧ Below w0.heap.size w0 wr) (fun i _ => rn - (intOf i).toNat)
  case atStart => exact ⟨0, F.code, Nat.zero_le _, rfl, rfl, R1.out, HB1.out⟩
  case round =>
    obtain ⟨k, ws, hk, rfl, hz, hrow, hb⟩ := hrel
    have HZ : Hid (relsZ x c (F.rels.take k) F.code = some ws) := hz
    have HROW : Hid (RowU .u32 w0.heap.size wr (.slice a1 m c1) ws) := hrow
    have HB : Hid (Below w0.heap.size w0 wr) := hb
    clear hz hrow hb
    have d0 := cell_any C00.out HB.out
    have d4 := cell_any F34.out.2 (bnext UP.out HB.out)
    by_cases hlt : k < rn
    · have hlt' : (k : Int) < rn := by omega
      obtain ⟨q, qo, r, rfl, -, hr, x0, x1, x2, x3⟩ := RX.out k hlt
      have y0 := cell_any x0 (bnext UP.out HB.out)
      have y1 := cell_any x1 (bnext UP.out HB.out)
      have y2 := cell_any x2 (bnext UP.out HB.out)
      have y3 := cell_any x3 (bnext UP.out HB.out)
      clear x0 x1 x2 x3
      have hrF := HF.out.1.1 r (List.mem_of_getElem? hr)
      have hwas := relsZ_was HF.out.1 hr HZ.out
      have hnext := relsZ_next (x := x) (c := c) (ws := F.code) hr
      have hmem := relsZ_keeps HZ.out
      rw [HZ.out] at hnext
      obtain ⟨A, hA⟩ : ∃ A : Nat, r.at_ = A := ⟨r.at_.toNat, by have := hrF.1; omega⟩
      have hAm : A < m := by have := hrF.2.1; have := EM.out.1; omega
      obtain ⟨y, hy⟩ : ∃ y, ws[A]? = some y := get_some (by rw [hmem.1, EM.out.1]; exact hAm)
      have hyr := hmem.2 WR.out y (List.mem_of_getElem? hy)
      have hwy : ws.getD r.at_.toNat 0 = y := by rw [hA, Int.toNat_natCast, List.getD_eq_getElem?_getD, hy]; rfl
      simp only [relStep, Option.bind_some, hA, Int.toNat_natCast, List.getD_eq_getElem?_getD, hy, Option.getD_some, wordZ] at hnext
      obtain ⟨g, rfl, g1, g2, gc, gf, gset⟩ := HROW.out.at hy
      unfold RelF at hrF
      rw [← hwas, hwy] at hrF
      have GS : Hid (∀ W, Below wr.heap.size wr W → W.cell? ⟨g, A, none⟩ = some (.int .u32 y) ∧ W.frozen? ⟨g, A, none⟩ = false ∧ ∀ u, RowU .u32 w0.heap.size (W.setCell ⟨g, A, none⟩ (.int .u32 u)) (.slice (some ⟨g, 0, none⟩) m c1) (ws.set A u)) := fun W hW => by
        obtain ⟨g', e, -, -, q1, q2, q3⟩ := (HROW.out.later hW).at hy
        injection e with e
        injection e with e
        subst e
        exact ⟨q1, q2, q3⟩
      have GL : Hid (w0.heap.size ≤ g) := g1
      have HGL : Hid (g < wr.heap.size) := g2
      have HN : Hid (relsZ x c (F.rels.take (k + 1)) F.code = Option.map (fun w => ws.set A w) ((becZ x r (c + A)).bind (withZ y))) := hnext
      have HG : Hid (∀ W, Calls Tryd.prog 17 #[.int .u32 y] W fun e w' => e = .returned (.tuple #[.agg #[.int .i64 (gO y), .int .i64 (gA y), .int .i64 (gB y), .int .i64 (gC y), .int .i64 (gI y)], .bool true]) ∧ Below W.heap.size W w') := fun W => by
        have h := rget_all y W hyr.1 hyr.2
        unfold rgetV insV at h
        rw [if_pos hrF.2.2.2.2.2.1] at h
        exact h
      have HPT : Hid (∀ imm W, rightB (gO y) (gA y) (gB y) (gC y) imm = true → Calls Tryd.prog 28 #[.agg #[.int .i64 (gO y), .int .i64 (gA y), .int .i64 (gB y), .int .i64 (gC y), .int .i64 imm]] W fun e w' => e = .returned (.int .u32 (putZ (gO y) (gA y) (gB y) (gC y) imm)) ∧ Below W.heap.size W w') := fun imm W h => rputI_any _ _ _ _ _ W h
      have HKO : Hid (okG y = true ∧ ((r.kind = 1 ∧ (gO y = 19 ∨ gO y = 20) ∧ r.to < nf) ∨ (((r.kind = 2 ∧ gO y = 9) ∨ (r.kind = 3 ∧ gO y = 10)) ∧ r.to < nd))) := ⟨hrF.2.2.2.2.2.1, hrF.2.2.2.2.2.2⟩
      obtain ⟨K, hK⟩ : ∃ K : Nat, r.to = K := ⟨r.to.toNat, by have := hrF.2.2.2.2.1; omega⟩
      have had : -1048576 ≤ r.add ∧ r.add ≤ 1048576 := ⟨hrF.2.2.1, hrF.2.2.2.1⟩
      clear hnext hwas hmem hrF hyr hy hr gset gc gf g1 g2 hwy
      obtain ⟨at_, kd, tt, ad⟩ := r
      dsimp only at *
      subst hA hK
      have XR := XAt.new wr #[.int .i64 A, .int .i64 kd, .int .i64 K, .int .i64 ad] 46
      have hr0 := new_cell' wr #[.int .i64 A, .int .i64 kd, .int .i64 K, .int .i64 ad] 46 0 _ rfl
      have HX2 := keep_alloc8 HB.out (.cells #[.int .i64 A, .int .i64 kd, .int .i64 K, .int .i64 ad] 46)
      have HS2 := keep_alloc8 (Below.refl wr.heap.size wr) (.cells #[.int .i64 A, .int .i64 kd, .int .i64 K, .int .i64 ad] 46)
      go_upto_region 6 with fail
      generalize wr.alloc (.cells #[.int .i64 A, .int .i64 kd, .int .i64 K, .int .i64 ad] 46) = w2 at XR hr0 HX2 HS2 ⊢
      obtain ⟨s1, s2, -⟩ := GS.out _ HS2
      go_upto_region 7 with (go_at_call 17; refine (HG.out _).mono ?_; rintro e w3 ⟨rfl, hb3⟩)
      have XA2 : Hid (XAt w2 (w.heap.size + 1) [.slice (some ⟨xb, xo, none⟩) nf xcc, .slice ya nd ycc, .int .i64 x.words, .int .i64 x.bytes, .int .i64 x.write]) := XA.out.later (XA.out.lt (by simp)) HX2
      have XR2 : Hid (XAt w2 wr.heap.size [.int .i64 A, .int .i64 kd, .int .i64 K, .int .i64 ad]) := XR
      have H20 : Hid (Below w.heap.size w w2) := bnext UP.out HX2
      have H22 : Hid (Below w0.heap.size w0 w2 ∧ Below wr.heap.size wr w2) := ⟨HX2, HS2⟩
      have H3 : Hid (∀ o, Below w2.heap.size w2 (w3.alloc o)) := fun o => keep_alloc8 hb3 o
      have BC : Hid (∀ W, Below w2.heap.size w2 W → W.cell? ⟨wr.heap.size, 0, none⟩ = some (.int .i64 A) ∧ W.cell? ⟨wr.heap.size, 1, none⟩ = some (.int .i64 kd) ∧ W.cell? ⟨wr.heap.size, 2, none⟩ = some (.int .i64 K) ∧ W.cell? ⟨wr.heap.size, 3, none⟩ = some (.int .i64 ad) ∧
          W.cell? ⟨w.heap.size + 1, 0, none⟩ = some (.slice (some ⟨xb, xo, none⟩) nf xcc) ∧ W.cell? ⟨w.heap.size + 1, 1, none⟩ = some (.slice ya nd ycc)) := fun W hW =>
        ⟨cell_any (XR2.out.1 0 _ rfl) hW, cell_any (XR2.out.1 1 _ rfl) hW, cell_any (XR2.out.1 2 _ rfl) hW, cell_any (XR2.out.1 3 _ rfl) hW, cell_any (XA2.out.1 0 _ rfl) hW, cell_any (XA2.out.1 1 _ rfl) hW⟩
      have WO : Hid (∀ W, Below w2.heap.size w2 W → ∀ u, RowU .u32 w0.heap.size (W.setCell ⟨g, A, none⟩ (.int .u32 u)) (.slice (some ⟨g, 0, none⟩) m c1) (ws.set A u)) := fun W hW => (GS.out W (bnext H22.out.2 hW)).2.2
      have WC : Hid (∀ W, Below w2.heap.size w2 W → W.cell? ⟨g, A, none⟩ = some (.int .u32 y) ∧ W.frozen? ⟨g, A, none⟩ = false) := fun W hW => ⟨(GS.out W (bnext H22.out.2 hW)).1, (GS.out W (bnext H22.out.2 hW)).2.1⟩
      have GG : Hid (g < wr.heap.size ∧ g < w3.heap.size) := ⟨HGL.out, Nat.lt_of_lt_of_le HGL.out (Nat.le_trans HS2.size hb3.size)⟩
      have HW3 : Hid (w2.heap.size ≤ w3.heap.size) := hb3.size
      clear XR HX2 HS2 hb3 hr0 s1 s2 y0 y1 y2 y3 d0 d4
      obtain ⟨r0, r1, r2, r3, p0, p1⟩ := BC.out _ (H3.out (.cells #[.int .i64 (gO y), .int .i64 (gA y), .int .i64 (gB y), .int .i64 (gC y), .int .i64 (gI y)] 49))
      rcases HKO.out.2 with ⟨rfl, ho, hto⟩ | ⟨hkk, hto⟩
      · obtain ⟨q0, q1, q2⟩ := HF.out.2.1.fun_ (k := K) (by omega) hto
        have kc := cell_any (XC.out K _ q0) (bnext H20.out (H3.out (.cells #[.int .i64 (gO y), .int .i64 (gA y), .int .i64 (gB y), .int .i64 (gC y), .int .i64 (gI y)] 49)))
        have fcc := cell_any (XC.out f _ hc) (bnext H20.out (H3.out (.cells #[.int .i64 (gO y), .int .i64 (gA y), .int .i64 (gB y), .int .i64 (gC y), .int .i64 (gI y)] 49)))
        obtain ⟨P, eP⟩ : ∃ P, plc x.code K = P := ⟨_, rfl⟩
        have KC : Hid (∀ W, Below w.heap.size w W → W.cell? ⟨xb, xo + K, none⟩ = some (.int .i64 (plc x.code K))) := fun W hW => cell_any (XC.out K _ q0) hW
        rw [eP] at q1 q2 kc KC
        have hB1 : becZ x ⟨A, 1, K, ad⟩ (c + A) = if 0 ≤ P then some (P - (c + A) - 1) else none := by unfold becZ; rw [if_pos rfl]; dsimp only; rw [eP]
        have HB1 : Hid (becZ x ⟨A, 1, K, ad⟩ (c + A) = if 0 ≤ P then some (P - (c + A) - 1) else none) := hB1
        clear q0 eP hB1
        have hAi : (A : Int) ≤ 70000 := by have := HL.out; omega
        have ck1 := CK.out.2
        rcases (by omega : P < 0 ∨ 0 ≤ P) with hP | hP
        · go_wp2
          exact bodyPost_ret (by simp [results, Tryd.results12, go_sem]) rfl ⟨.inl ⟨relsZ_stop (HN.out.trans (by rw [HB1.out, if_neg (by omega)]; rfl)), rfl⟩, bnext H20.out (H3.out _)⟩
        · go_upto_region 10 with fail
          have KD : Hid (∀ o, (w3.alloc o).drew.cell? ⟨wr.heap.size, 0, none⟩ = some (.int .i64 A) ∧ (w3.alloc o).drew.cell? ⟨wr.heap.size, 2, none⟩ = some (.int .i64 K) ∧ (w3.alloc o).drew.cell? ⟨w.heap.size + 1, 0, none⟩ = some (.slice (some ⟨xb, xo, none⟩) nf xcc) ∧ (w3.alloc o).drew.cell? ⟨xb, xo + K, none⟩ = some (.int .i64 P) ∧ (w3.alloc o).drew.cell? ⟨xb, xo + f, none⟩ = some (.int .i64 c)) := fun o =>
            ⟨(BC.out _ (H3.out o)).1, (BC.out _ (H3.out o)).2.2.1, (BC.out _ (H3.out o)).2.2.2.2.1, KC.out _ (bnext H20.out (H3.out o).drew), cell_any (XC.out f _ hc) (bnext H20.out (H3.out o).drew)⟩
          have hw1 : IntKind.i64.wrap (c + A) = c + A := wrap_mid (by omega) (by omega)
          have hw2 : IntKind.i64.wrap (c + A + 1) = c + A + 1 := wrap_mid (by omega) (by omega)
          have hw3 : IntKind.i64.wrap (P - (c + A + 1)) = P - (c + A + 1) := wrap_mid (by omega) (by omega)
          go_region_held3 (fun W => W.cell? ⟨wr.heap.size, 0, none⟩ = some (.int .i64 A) ∧ W.cell? ⟨wr.heap.size, 2, none⟩ = some (.int .i64 K) ∧ W.cell? ⟨w.heap.size + 1, 0, none⟩ = some (.slice (some ⟨xb, xo, none⟩) nf xcc) ∧ W.cell? ⟨xb, xo + K, none⟩ = some (.int .i64 P) ∧ W.cell? ⟨xb, xo + f, none⟩ = some (.int .i64 c)) (first | exact KD.out _ | go_keep) (fail)
          have XI := XAt.new w3 #[.int .i64 (gO y), .int .i64 (gA y), .int .i64 (gB y), .int .i64 (gC y), .int .i64 (P - (c + A + 1))] 49
          have H5 : Hid (Below w2.heap.size w2 (w3.alloc (.cells #[.int .i64 (gO y), .int .i64 (gA y), .int .i64 (gB y), .int .i64 (gC y), .int .i64 (P - (c + A + 1))] 49)).drew) := (H3.out _).drew
          replace XI : XAt (w3.alloc (.cells #[.int .i64 (gO y), .int .i64 (gA y), .int .i64 (gB y), .int .i64 (gC y), .int .i64 (P - (c + A + 1))] 49)).drew w3.heap.size [.int .i64 (gO y), .int .i64 (gA y), .int .i64 (gB y), .int .i64 (gC y), .int .i64 (P - (c + A + 1))] := XI
          generalize (w3.alloc (.cells #[.int .i64 (gO y), .int .i64 (gA y), .int .i64 (gB y), .int .i64 (gC y), .int .i64 (P - (c + A + 1))] 49)).drew = w5 at XI H5 ⊢
          clear hw1 hw2 hw3 KD
          generalize hV : P - (c + (A : Int) + 1) = V at XI ⊢
          have HV : Hid (P - (c + A) - 1 = V) := by have : P - (c + (A : Int)) - 1 = V := by omega
                                                    exact this
          clear hV
          have H5' : Hid (Below w2.heap.size w2 w5) := H5
          have XI' : Hid (XAt w5 w3.heap.size [.int .i64 (gO y), .int .i64 (gA y), .int .i64 (gB y), .int .i64 (gC y), .int .i64 V]) := XI
          clear H5 XI
          have KS : Hid (∀ W, Below w5.heap.size w5 W → W.cell? ⟨wr.heap.size, 0, none⟩ = some (.int .i64 A) ∧ W.cell? ⟨w3.heap.size, 0, none⟩ = some (.int .i64 (gO y)) ∧ W.cell? ⟨w3.heap.size, 1, none⟩ = some (.int .i64 (gA y)) ∧ W.cell? ⟨w3.heap.size, 2, none⟩ = some (.int .i64 (gB y)) ∧ W.cell? ⟨w3.heap.size, 3, none⟩ = some (.int .i64 (gC y)) ∧ W.cell? ⟨w3.heap.size, 4, none⟩ = some (.int .i64 V)) := fun W hW =>
            ⟨(BC.out _ (bnext H5'.out hW)).1, cell_any (XI'.out.1 0 _ rfl) hW, cell_any (XI'.out.1 1 _ rfl) hW, cell_any (XI'.out.1 2 _ rfl) hW, cell_any (XI'.out.1 3 _ rfl) hW, cell_any (XI'.out.1 4 _ rfl) hW⟩
          have KS2 : Hid (∀ W, Below w5.heap.size w5 W → ∀ u, (W.setCell ⟨g, A, none⟩ u).cell? ⟨wr.heap.size, 0, none⟩ = some (.int .i64 A) ∧ (W.setCell ⟨g, A, none⟩ u).cell? ⟨w3.heap.size, 0, none⟩ = some (.int .i64 (gO y)) ∧ (W.setCell ⟨g, A, none⟩ u).cell? ⟨w3.heap.size, 1, none⟩ = some (.int .i64 (gA y)) ∧ (W.setCell ⟨g, A, none⟩ u).cell? ⟨w3.heap.size, 2, none⟩ = some (.int .i64 (gB y)) ∧ (W.setCell ⟨g, A, none⟩ u).cell? ⟨w3.heap.size, 3, none⟩ = some (.int .i64 (gC y)) ∧ (W.setCell ⟨g, A, none⟩ u).cell? ⟨w3.heap.size, 4, none⟩ = some (.int .i64 V)) := fun W hW u => by
            have n1 : ∀ j, (⟨g, A, none⟩ : Addr) ≠ ⟨wr.heap.size, j, none⟩ := fun j q => by injection q with q1; have := GG.out.1; omega
            have n2 : ∀ j, (⟨g, A, none⟩ : Addr) ≠ ⟨w3.heap.size, j, none⟩ := fun j q => by injection q with q1; have := GG.out.2; omega
            obtain ⟨k0, k1, k2, k3, k4, k5⟩ := KS.out W hW
            exact ⟨(World.cell?_setCell_other _ _ _ _ (n1 0)).trans k0, (World.cell?_setCell_other _ _ _ _ (n2 0)).trans k1, (World.cell?_setCell_other _ _ _ _ (n2 1)).trans k2, (World.cell?_setCell_other _ _ _ _ (n2 2)).trans k3, (World.cell?_setCell_other _ _ _ _ (n2 3)).trans k4, (World.cell?_setCell_other _ _ _ _ (n2 4)).trans k5⟩
          have XT : Hid (XAt w5 w3.heap.size [.int .i64 (gO y), .int .i64 (gA y), .int .i64 (gB y), .int .i64 (gC y), .int .i64 V]) := XI'.out
          rcases (by omega : V < -8388608 ∨ 8388607 < V ∨ (-8388608 ≤ V ∧ V ≤ 8388607)) with z1 | z1 | ⟨z1, z2⟩
          · obtain ⟨k0, k1, k2, k3, k4, k5⟩ := KS.out w5 (Below.refl _ _)
            have HNO : Hid (withZ y V = none) := by
              have h := with_rb (imm := V) HKO.out.1
              rw [with_far HKO.out.1 ho, if_neg (by simp; omega)] at h
              exact h
            go_wp2
            exact bodyPost_ret (by simp [results, Tryd.results12, go_sem]) rfl ⟨.inl ⟨relsZ_stop (HN.out.trans (by rw [HB1.out, if_pos hP, Option.bind_some, HV.out, HNO.out]; rfl)), rfl⟩, bnext H20.out H5'.out⟩
          · obtain ⟨k0, k1, k2, k3, k4, k5⟩ := KS.out w5 (Below.refl _ _)
            have HNO : Hid (withZ y V = none) := by
              have h := with_rb (imm := V) HKO.out.1
              rw [with_far HKO.out.1 ho, if_neg (by simp; omega)] at h
              exact h
            go_wp2
            exact bodyPost_ret (by simp [results, Tryd.results12, go_sem]) rfl ⟨.inl ⟨relsZ_stop (HN.out.trans (by rw [HB1.out, if_pos hP, Option.bind_some, HV.out, HNO.out]; rfl)), rfl⟩, bnext H20.out H5'.out⟩
          · have HRB : Hid (rightB (gO y) (gA y) (gB y) (gC y) V = true) := by
              have h := with_far (imm := V) HKO.out.1 ho
              rw [decide_eq_true ⟨z1, z2⟩] at h
              exact h
            have HYES : Hid (withZ y V = some (putZ (gO y) (gA y) (gB y) (gC y) V)) := by
              have h := with_rb (imm := V) HKO.out.1
              rw [if_pos HRB.out] at h
              exact h
            obtain ⟨k0, k1, k2, k3, k4, k5⟩ := KS.out w5 (Below.refl _ _)
            go_upto_region 19 with fail
            go_region_held3 (fun W => W.cell? ⟨wr.heap.size, 0, none⟩ = some (.int .i64 A) ∧ W.cell? ⟨w3.heap.size, 0, none⟩ = some (.int .i64 (gO y)) ∧ W.cell? ⟨w3.heap.size, 1, none⟩ = some (.int .i64 (gA y)) ∧ W.cell? ⟨w3.heap.size, 2, none⟩ = some (.int .i64 (gB y)) ∧ W.cell? ⟨w3.heap.size, 3, none⟩ = some (.int .i64 (gC y)) ∧ W.cell? ⟨w3.heap.size, 4, none⟩ = some (.int .i64 V)) (first | exact KS.out w5 (Below.refl _ _) | exact KS.out w5.drew (Below.refl _ _).drew | exact KS.out w6 hb6 | exact KS2.out w6 hb6 _ | (trace_state; fail)) ((go_at_call 28; refine (HPT.out _ _ HRB.out).mono ?_; rintro e w6 ⟨rfl, hb6'⟩; have hb6 : Below w5.heap.size w5 w6 := bnext (Below.refl w5.heap.size w5).drew hb6'; obtain ⟨v1, v2⟩ := WC.out _ (bnext H5'.out hb6)))
            all_goals
              go_wp2
              go_roundw
              case rel => exact ⟨k + 1, ws.set A (putZ (gO y) (gA y) (gB y) (gC y) V), by omega, by go_num, by rw [HN.out, HB1.out, if_pos hP, Option.bind_some, HV.out, HYES.out]; rfl, WO.out _ (bnext H5'.out hb6) _, (bnext (bnext H22.out.1 H5'.out) hb6).setCell GL.out _⟩
              case measure => simp [intOf]; omega
      · obtain ⟨q0, q1, q2⟩ := HF.out.2.1.val (r := ⟨A, kd, K, ad⟩) (by show (0 : Int) ≤ K; omega) hto
        dsimp only at q0 q1 q2
        rcases YC.out with hy0 | ⟨yb, yo, rfl, hyc⟩
        · omega
        have KC := cell_any (hyc K _ q0) (bnext H20.out (H3.out (.cells #[.int .i64 (gO y), .int .i64 (gA y), .int .i64 (gB y), .int .i64 (gC y), .int .i64 (gI y)] 49)))
        obtain ⟨P, eP⟩ : ∃ P, plc x.data K = P := ⟨_, rfl⟩
        rw [eP] at q1 q2 KC
        have hB1 : becZ x ⟨A, kd, K, ad⟩ (c + A) = if 0 ≤ 65536 + P + ad then some (if kd = 2 then (65536 + P + ad) / 65536 else (65536 + P + ad) % 65536) else none := by
          unfold becZ valZ
          dsimp only
          rw [eP, if_neg (by omega)]
        clear q0 eP
        have hkn : (kd == 1) = false := by simp; omega
        go_upto_region 13 with fail
        go_quiet (fail)
        have XI0 := XAt.new w3 #[.int .i64 (gO y), .int .i64 (gA y), .int .i64 (gB y), .int .i64 (gC y), .int .i64 (gI y)] 49
        have H40 : Below w2.heap.size w2 ((w3.alloc (.cells #[.int .i64 (gO y), .int .i64 (gA y), .int .i64 (gB y), .int .i64 (gC y), .int .i64 (gI y)] 49)).drewN nq) := below_drewN (H3.out _) _
        replace XI0 : XAt ((w3.alloc (.cells #[.int .i64 (gO y), .int .i64 (gA y), .int .i64 (gB y), .int .i64 (gC y), .int .i64 (gI y)] 49)).drewN nq) w3.heap.size [.int .i64 (gO y), .int .i64 (gA y), .int .i64 (gB y), .int .i64 (gC y), .int .i64 (gI y)] := XI0
        generalize (w3.alloc (.cells #[.int .i64 (gO y), .int .i64 (gA y), .int .i64 (gB y), .int .i64 (gC y), .int .i64 (gI y)] 49)).drewN nq = w4 at XI0 H40 ⊢
        have hVb0 : 65536 + P + ad < 4294967296 := by omega
        generalize 65536 + P + ad = V at hB1 hVb0 ⊢
        have HB1 : Hid (becZ x ⟨A, kd, K, ad⟩ (c + A) = if 0 ≤ V then some (if kd = 2 then V / 65536 else V % 65536) else none) := hB1
        have H40' : Hid (Below w2.heap.size w2 w4) := H40
        have XI0' : Hid (XAt w4 w3.heap.size [.int .i64 (gO y), .int .i64 (gA y), .int .i64 (gB y), .int .i64 (gC y), .int .i64 (gI y)]) := XI0
        have hVb : V < 4294967296 := hVb0
        clear hB1 H40 XI0 r0 r1 r2 r3 p0 p1 KC
        obtain ⟨r0, r1, -, -, -, -⟩ := BC.out _ H40'.out
        have i4 := XI0'.out.1 4 _ rfl
        have if4 := XI0'.out.2 4
        rcases (by omega : V < 0 ∨ 0 ≤ V) with hV | hV
        · go_wp2
          exact bodyPost_ret (by simp [results, Tryd.results12, go_sem]) rfl ⟨.inl ⟨relsZ_stop (HN.out.trans (by rw [HB1.out, if_neg (by omega)]; rfl)), rfl⟩, bnext H20.out H40'.out⟩
        · have hq : Int.tdiv V 65536 = V / 65536 := Int.tdiv_eq_ediv_of_nonneg hV
          have hm : Int.tmod V 65536 = V % 65536 := Int.tmod_eq_emod_of_nonneg hV
          rcases hkk with ⟨rfl, ho⟩ | ⟨rfl, ho⟩
          · have HO : Hid (gO y = 9 ∨ gO y = 10) := .inl ho
            clear ho
            go_upto_region 17 with fail
            have XI := XI0'.out.set 4 (by simp) (.int .i64 (V / 65536))
            have H5 : Hid (Below w2.heap.size w2 (w4.setCell ⟨w3.heap.size, 4, none⟩ (.int .i64 (V / 65536)))) := H40'.out.setCell HW3.out _
            replace XI : XAt (w4.setCell ⟨w3.heap.size, 4, none⟩ (.int .i64 (V / 65536))) w3.heap.size [.int .i64 (gO y), .int .i64 (gA y), .int .i64 (gB y), .int .i64 (gC y), .int .i64 (V / 65536)] := XI
            generalize w4.setCell ⟨w3.heap.size, 4, none⟩ (.int .i64 (V / 65536)) = w5 at XI H5 ⊢
            have hBK : becZ x ⟨A, 2, K, ad⟩ (c + A) = some (V / 65536) := by rw [HB1.out, if_pos hV]; simp
            have hU : 0 ≤ V / 65536 ∧ V / 65536 ≤ 65535 := by omega
            clear r0 r1 i4 if4 hq hm
            generalize V / 65536 = U at XI hBK hU ⊢
            have HBK : Hid (becZ x ⟨A, 2, K, ad⟩ (c + A) = some U) := hBK
            have HU : Hid (0 ≤ U ∧ U ≤ 65535) := hU
            have H5' : Hid (Below w2.heap.size w2 w5) := H5
            have XI' : Hid (XAt w5 w3.heap.size [.int .i64 (gO y), .int .i64 (gA y), .int .i64 (gB y), .int .i64 (gC y), .int .i64 U]) := XI
            clear H5 XI
            have KS : Hid (∀ W, Below w5.heap.size w5 W → W.cell? ⟨wr.heap.size, 0, none⟩ = some (.int .i64 A) ∧ W.cell? ⟨w3.heap.size, 0, none⟩ = some (.int .i64 (gO y)) ∧ W.cell? ⟨w3.heap.size, 1, none⟩ = some (.int .i64 (gA y)) ∧ W.cell? ⟨w3.heap.size, 2, none⟩ = some (.int .i64 (gB y)) ∧ W.cell? ⟨w3.heap.size, 3, none⟩ = some (.int .i64 (gC y)) ∧ W.cell? ⟨w3.heap.size, 4, none⟩ = some (.int .i64 U)) := fun W hW =>
              ⟨(BC.out _ (bnext H5'.out hW)).1, cell_any (XI'.out.1 0 _ rfl) hW, cell_any (XI'.out.1 1 _ rfl) hW, cell_any (XI'.out.1 2 _ rfl) hW, cell_any (XI'.out.1 3 _ rfl) hW, cell_any (XI'.out.1 4 _ rfl) hW⟩
            have KS2 : Hid (∀ W, Below w5.heap.size w5 W → ∀ u, (W.setCell ⟨g, A, none⟩ u).cell? ⟨wr.heap.size, 0, none⟩ = some (.int .i64 A) ∧ (W.setCell ⟨g, A, none⟩ u).cell? ⟨w3.heap.size, 0, none⟩ = some (.int .i64 (gO y)) ∧ (W.setCell ⟨g, A, none⟩ u).cell? ⟨w3.heap.size, 1, none⟩ = some (.int .i64 (gA y)) ∧ (W.setCell ⟨g, A, none⟩ u).cell? ⟨w3.heap.size, 2, none⟩ = some (.int .i64 (gB y)) ∧ (W.setCell ⟨g, A, none⟩ u).cell? ⟨w3.heap.size, 3, none⟩ = some (.int .i64 (gC y)) ∧ (W.setCell ⟨g, A, none⟩ u).cell? ⟨w3.heap.size, 4, none⟩ = some (.int .i64 U)) := fun W hW u => by
              have n1 : ∀ j, (⟨g, A, none⟩ : Addr) ≠ ⟨wr.heap.size, j, none⟩ := fun j q => by injection q with q1; have := GG.out.1; omega
              have n2 : ∀ j, (⟨g, A, none⟩ : Addr) ≠ ⟨w3.heap.size, j, none⟩ := fun j q => by injection q with q1; have := GG.out.2; omega
              obtain ⟨k0, k1, k2, k3, k4, k5⟩ := KS.out W hW
              exact ⟨(World.cell?_setCell_other _ _ _ _ (n1 0)).trans k0, (World.cell?_setCell_other _ _ _ _ (n2 0)).trans k1, (World.cell?_setCell_other _ _ _ _ (n2 1)).trans k2, (World.cell?_setCell_other _ _ _ _ (n2 2)).trans k3, (World.cell?_setCell_other _ _ _ _ (n2 3)).trans k4, (World.cell?_setCell_other _ _ _ _ (n2 4)).trans k5⟩
            have HRB : Hid (rightB (gO y) (gA y) (gB y) (gC y) U = true) := with_half HKO.out.1 HO.out HU.out.1 HU.out.2
            have HYES : Hid (withZ y U = some (putZ (gO y) (gA y) (gB y) (gC y) U)) := by
              have h := with_rb (imm := U) HKO.out.1
              rw [if_pos HRB.out] at h
              exact h
            obtain ⟨k0, k1, k2, k3, k4, k5⟩ := KS.out w5 (Below.refl _ _)
            obtain ⟨-, kk1, -, -, -, -⟩ := BC.out w5 H5'.out
            go_upto_region 19 with fail
            go_region_held3 (fun W => W.cell? ⟨wr.heap.size, 0, none⟩ = some (.int .i64 A) ∧ W.cell? ⟨w3.heap.size, 0, none⟩ = some (.int .i64 (gO y)) ∧ W.cell? ⟨w3.heap.size, 1, none⟩ = some (.int .i64 (gA y)) ∧ W.cell? ⟨w3.heap.size, 2, none⟩ = some (.int .i64 (gB y)) ∧ W.cell? ⟨w3.heap.size, 3, none⟩ = some (.int .i64 (gC y)) ∧ W.cell? ⟨w3.heap.size, 4, none⟩ = some (.int .i64 U)) (first | exact KS.out w5 (Below.refl _ _) | exact KS.out w5.drew (Below.refl _ _).drew | exact KS.out w6 hb6 | exact KS2.out w6 hb6 _ | (trace_state; fail)) ((go_at_call 28; refine (HPT.out _ _ HRB.out).mono ?_; rintro e w6 ⟨rfl, hb6'⟩; have hb6 : Below w5.heap.size w5 w6 := bnext (Below.refl w5.heap.size w5).drew hb6'; obtain ⟨v1, v2⟩ := WC.out _ (bnext H5'.out hb6)))
            all_goals
              go_wp2
              go_roundw
              case rel => exact ⟨k + 1, ws.set A (putZ (gO y) (gA y) (gB y) (gC y) U), by omega, by go_num, by rw [HN.out, HBK.out, Option.bind_some, HYES.out]; rfl, WO.out _ (bnext H5'.out hb6) _, (bnext (bnext H22.out.1 H5'.out) hb6).setCell GL.out _⟩
              case measure => simp [intOf]; omega
          · have HO : Hid (gO y = 9 ∨ gO y = 10) := .inr ho
            clear ho
            have r1' := (BC.out _ (H40'.out.setCell HW3.out _ : Below w2.heap.size w2 (w4.setCell ⟨w3.heap.size, 4, none⟩ (.int .i64 (V / 65536))))).2.1
            have i4' : (w4.setCell ⟨w3.heap.size, 4, none⟩ (.int .i64 (V / 65536))).cell? ⟨w3.heap.size, 4, none⟩ = some (.int .i64 (V / 65536)) := World.cell?_setCell_same _ _ _ i4
            have if4' := (XI0'.out.set 4 (by simp) (.int .i64 (V / 65536))).2 4
            go_upto_region 19 with fail
            have XI := (XI0'.out.set 4 (by simp) (.int .i64 (V / 65536))).set 4 (by simp) (.int .i64 (V % 65536))
            have H5 : Hid (Below w2.heap.size w2 ((w4.setCell ⟨w3.heap.size, 4, none⟩ (.int .i64 (V / 65536))).setCell ⟨w3.heap.size, 4, none⟩ (.int .i64 (V % 65536)))) := (H40'.out.setCell HW3.out _).setCell HW3.out _
            replace XI : XAt ((w4.setCell ⟨w3.heap.size, 4, none⟩ (.int .i64 (V / 65536))).setCell ⟨w3.heap.size, 4, none⟩ (.int .i64 (V % 65536))) w3.heap.size [.int .i64 (gO y), .int .i64 (gA y), .int .i64 (gB y), .int .i64 (gC y), .int .i64 (V % 65536)] := XI
            generalize (w4.setCell ⟨w3.heap.size, 4, none⟩ (.int .i64 (V / 65536))).setCell ⟨w3.heap.size, 4, none⟩ (.int .i64 (V % 65536)) = w5 at XI H5 ⊢
            have hBK : becZ x ⟨A, 3, K, ad⟩ (c + A) = some (V % 65536) := by rw [HB1.out, if_pos hV]; simp
            have hU : 0 ≤ V % 65536 ∧ V % 65536 ≤ 65535 := by omega
            clear r0 r1 i4 if4 hq hm
            generalize V % 65536 = U at XI hBK hU ⊢
            have HBK : Hid (becZ x ⟨A, 3, K, ad⟩ (c + A) = some U) := hBK
            have HU : Hid (0 ≤ U ∧ U ≤ 65535) := hU
            have H5' : Hid (Below w2.heap.size w2 w5) := H5
            have XI' : Hid (XAt w5 w3.heap.size [.int .i64 (gO y), .int .i64 (gA y), .int .i64 (gB y), .int .i64 (gC y), .int .i64 U]) := XI
            clear H5 XI
            have KS : Hid (∀ W, Below w5.heap.size w5 W → W.cell? ⟨wr.heap.size, 0, none⟩ = some (.int .i64 A) ∧ W.cell? ⟨w3.heap.size, 0, none⟩ = some (.int .i64 (gO y)) ∧ W.cell? ⟨w3.heap.size, 1, none⟩ = some (.int .i64 (gA y)) ∧ W.cell? ⟨w3.heap.size, 2, none⟩ = some (.int .i64 (gB y)) ∧ W.cell? ⟨w3.heap.size, 3, none⟩ = some (.int .i64 (gC y)) ∧ W.cell? ⟨w3.heap.size, 4, none⟩ = some (.int .i64 U)) := fun W hW =>
              ⟨(BC.out _ (bnext H5'.out hW)).1, cell_any (XI'.out.1 0 _ rfl) hW, cell_any (XI'.out.1 1 _ rfl) hW, cell_any (XI'.out.1 2 _ rfl) hW, cell_any (XI'.out.1 3 _ rfl) hW, cell_any (XI'.out.1 4 _ rfl) hW⟩
            have KS2 : Hid (∀ W, Below w5.heap.size w5 W → ∀ u, (W.setCell ⟨g, A, none⟩ u).cell? ⟨wr.heap.size, 0, none⟩ = some (.int .i64 A) ∧ (W.setCell ⟨g, A, none⟩ u).cell? ⟨w3.heap.size, 0, none⟩ = some (.int .i64 (gO y)) ∧ (W.setCell ⟨g, A, none⟩ u).cell? ⟨w3.heap.size, 1, none⟩ = some (.int .i64 (gA y)) ∧ (W.setCell ⟨g, A, none⟩ u).cell? ⟨w3.heap.size, 2, none⟩ = some (.int .i64 (gB y)) ∧ (W.setCell ⟨g, A, none⟩ u).cell? ⟨w3.heap.size, 3, none⟩ = some (.int .i64 (gC y)) ∧ (W.setCell ⟨g, A, none⟩ u).cell? ⟨w3.heap.size, 4, none⟩ = some (.int .i64 U)) := fun W hW u => by
              have n1 : ∀ j, (⟨g, A, none⟩ : Addr) ≠ ⟨wr.heap.size, j, none⟩ := fun j q => by injection q with q1; have := GG.out.1; omega
              have n2 : ∀ j, (⟨g, A, none⟩ : Addr) ≠ ⟨w3.heap.size, j, none⟩ := fun j q => by injection q with q1; have := GG.out.2; omega
              obtain ⟨k0, k1, k2, k3, k4, k5⟩ := KS.out W hW
              exact ⟨(World.cell?_setCell_other _ _ _ _ (n1 0)).trans k0, (World.cell?_setCell_other _ _ _ _ (n2 0)).trans k1, (World.cell?_setCell_other _ _ _ _ (n2 1)).trans k2, (World.cell?_setCell_other _ _ _ _ (n2 2)).trans k3, (World.cell?_setCell_other _ _ _ _ (n2 3)).trans k4, (World.cell?_setCell_other _ _ _ _ (n2 4)).trans k5⟩
            have HRB : Hid (rightB (gO y) (gA y) (gB y) (gC y) U = true) := with_half HKO.out.1 HO.out HU.out.1 HU.out.2
            have HYES : Hid (withZ y U = some (putZ (gO y) (gA y) (gB y) (gC y) U)) := by
              have h := with_rb (imm := U) HKO.out.1
              rw [if_pos HRB.out] at h
              exact h
            obtain ⟨k0, k1, k2, k3, k4, k5⟩ := KS.out w5 (Below.refl _ _)
            go_region_held3 (fun W => W.cell? ⟨wr.heap.size, 0, none⟩ = some (.int .i64 A) ∧ W.cell? ⟨w3.heap.size, 0, none⟩ = some (.int .i64 (gO y)) ∧ W.cell? ⟨w3.heap.size, 1, none⟩ = some (.int .i64 (gA y)) ∧ W.cell? ⟨w3.heap.size, 2, none⟩ = some (.int .i64 (gB y)) ∧ W.cell? ⟨w3.heap.size, 3, none⟩ = some (.int .i64 (gC y)) ∧ W.cell? ⟨w3.heap.size, 4, none⟩ = some (.int .i64 U)) (first | exact KS.out w5 (Below.refl _ _) | exact KS.out w5.drew (Below.refl _ _).drew | exact KS.out w6 hb6 | exact KS2.out w6 hb6 _ | (trace_state; fail)) ((go_at_call 28; refine (HPT.out _ _ HRB.out).mono ?_; rintro e w6 ⟨rfl, hb6'⟩; have hb6 : Below w5.heap.size w5 w6 := bnext (Below.refl w5.heap.size w5).drew hb6'; obtain ⟨v1, v2⟩ := WC.out _ (bnext H5'.out hb6)))
            all_goals
              go_wp2
              go_roundw
              case rel => exact ⟨k + 1, ws.set A (putZ (gO y) (gA y) (gB y) (gC y) U), by omega, by go_num, by rw [HN.out, HBK.out, Option.bind_some, HYES.out]; rfl, WO.out _ (bnext H5'.out hb6) _, (bnext (bnext H22.out.1 H5'.out) hb6).setCell GL.out _⟩
              case measure => simp [intOf]; omega
    · obtain rfl : k = rn := by omega
      go_wp2
      exact bodyPost_ret (by simp [results, Tryd.results12, go_sem]) rfl ⟨.inr ⟨ws, _, by rw [← EM.out.2, List.take_length] at HZ; exact HZ.out, rfl, HROW.out.lower UP.out.size⟩, bnext UP.out HB.out⟩
end Go.Proofs.YtombfnnpdamlgaaDoor
