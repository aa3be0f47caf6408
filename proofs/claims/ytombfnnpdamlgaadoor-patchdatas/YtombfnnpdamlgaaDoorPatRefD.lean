/- The data's bytes with their relocations done, as the document has it. -/
import Derived.Test.YtombfnnpdamlgaaDoorPatData
import Derived.Test.YtombfnnpdamlgaaDoorPatRefC
namespace Go.Proofs.YtombfnnpdamlgaaDoor
open Go.ChangeShapes Go.WideShapes Go.ChangeAt Go.RowKit
set_option linter.unusedVariables false
set_option linter.unusedSimpArgs false
def slLen : Value → Nat
  | .slice _ n _ => n
  | _ => 0
def byt4 (v : Int) (j : Nat) : Int := v / 256 ^ j % 256
/-- The first of the four bytes put. -/
def putI (bs : List Int) (k : Nat) (v : Int) : Nat → List Int
  | 0 => bs
  | i + 1 => (putI bs k v i).set (k + i) (byt4 v i)
theorem putI_len (bs : List Int) (k : Nat) (v : Int) : ∀ i, (putI bs k v i).length = bs.length
  | 0 => rfl
  | i + 1 => by simp only [putI, List.length_set]; exact putI_len bs k v i
theorem putI_4 (bs : List Int) (k : Nat) (v : Int) : putI bs k v 4 = put4 bs k v := by
  simp [putI, put4, byt4]
set_option maxRecDepth 100000 in
set_option maxHeartbeats 4000000 in
theorem rdata_any {w : World} {vp vx : Value} {p : ProgM} {x : PlanZ} {base : Nat} (hp : IsProg Any8 w vp p) (hx : IsPlan base w vx x) (hR : RightP p) (hO : PlanOk p.funcs.length p.datas.length x)
    (f : Nat) {D : PDataM} (hf : p.datas[f]? = some D) (hs1 : 1 ≤ D.size) (hs2 : D.size ≤ 4096) (hs3 : (D.bytes.length : Int) ≤ D.size) :
    Calls Tryd.prog 15 #[vp, vx, .int .i64 f] w fun e w' => RowPost .u8 w.heap.size (dataZ x D) e w' ∧ Below w.heap.size w w' := by
  obtain ⟨vf, vd, rfl, pf, pd⟩ := hp
  obtain ⟨xc, xd, rfl, xc1, xd1, -⟩ := hx
  have hdn := xd1.isNums
  clear xc1 xd1
  obtain ⟨fa, fc, rfl, fm, -, fx⟩ := LstA.open pd
  have hlf := get_lt hf
  obtain ⟨b, off, D', rfl, -, hD', vc, vr, -, -, f2, f3, f4, fw, fr⟩ := fx f hlf
  rw [hf] at hD'
  injection hD' with hD'
  subst hD'
  have hDO : DtOk p.datas.length D := hR.2 D (List.mem_of_getElem? hf)
  obtain ⟨nf, enf⟩ : ∃ n, p.funcs.length = n := ⟨_, rfl⟩
  obtain ⟨nd, endd⟩ : ∃ n, p.datas.length = n := ⟨_, rfl⟩
  rw [endd] at hlf fm hO hDO ⊢
  obtain ⟨ya, ycc, rfl, ym, hya⟩ := nums_open hdn hO.nd
  have ym' := may_len ym
  have YC : Hid (nd = 0 ∨ ∃ b off, ya = some ⟨b, off, none⟩ ∧ ∀ (k : Nat) y, x.data[k]? = some y → w.cell? ⟨b, off + k, none⟩ = some (.int .i64 y)) := hya
  clear hya
  obtain ⟨ca, cc, rfl, ch, -, ccells⟩ := fw.1
  obtain ⟨ra, rc, rfl, rm, -, rx⟩ := LstA.open fr
  obtain ⟨m, em⟩ : ∃ m, D.bytes.length = m := ⟨_, rfl⟩
  obtain ⟨rn, ern⟩ : ∃ m, D.rels.length = m := ⟨_, rfl⟩
  obtain ⟨n, en⟩ : ∃ n : Nat, D.size = n := ⟨D.size.toNat, by omega⟩
  rw [em] at ch f3 hs3
  rw [ern] at rm rx f4
  rw [en] at hs1 hs2 hs3 f2
  have hm' := may_len fm
  have rm' := may_len rm
  have hk' : (f : Int) < nd := by omega
  have SRC : Hid (∀ W, Below w.heap.size w W → ∀ ad, ca = some ad → ∀ j u, (D.bytes.map fun x => Value.int .u8 x)[j]? = some u → W.cell? (ad.add j) = some u) := fun W hW ad e j u hu => cell_any (lst_cells ccells ad e j u hu) hW
  have HH : Hid (Head ca m cc ∧ cc ≤ maxLen) := ch
  have F234 : Hid (w.cell? ⟨b, off + f * 5 + 2, none⟩ = some (.int .i64 n) ∧ w.cell? ⟨b, off + f * 5 + 3, none⟩ = some (.slice ca m cc) ∧ w.cell? ⟨b, off + f * 5 + 4, none⟩ = some (.slice ra rn rc)) := ⟨f2, f3, f4⟩
  have EM : Hid (D.bytes.length = m ∧ D.rels.length = rn ∧ D.size = n) := ⟨em, ern, en⟩
  have RX : Hid (∀ k, k < rn → ∃ b off x, ra = some ⟨b, off, none⟩ ∧ Any8 b ∧ D.rels[k]? = some x ∧ PRelAt w b (off + k * 4) x) := rx
  have HF : Hid (DtOk nd D ∧ PlanOk p.funcs.length nd x ∧ True) := ⟨hDO, hO, trivial⟩
  have EZ : Hid (fillZ D = D.bytes ++ List.replicate (n - m) 0) := by unfold fillZ; rw [en, em]; rfl
  obtain ⟨i0, hi, hz0, hz1, hz2⟩ := info_parts infoU8
  obtain ⟨pe, epe⟩ : ∃ m, p.entry = m := ⟨_, rfl⟩
  rw [epe]
  have c1 := new_cell' w #[vf, .slice (some ⟨b, off, none⟩) nd fc, .int .i64 pe] 25 1 _ rfl
  have UP : Hid (∀ o, Below w.heap.size w ((w.alloc (.cells #[vf, .slice (some ⟨b, off, none⟩) nd fc, .int .i64 pe] 25)).alloc o)) := fun o => keep_alloc8 (keep_alloc8 (Below.refl _ _) _) _
  have C1 : Hid (∀ o, ((w.alloc (.cells #[vf, .slice (some ⟨b, off, none⟩) nd fc, .int .i64 pe] 25)).alloc o).cell? ⟨w.heap.size, 1, none⟩ = some (.slice (some ⟨b, off, none⟩) nd fc)) := fun o => cell_any c1 (keep_alloc8 (Below.refl _ _) _)
  have X1 := XAt.new (w.alloc (.cells #[vf, .slice (some ⟨b, off, none⟩) nd fc, .int .i64 pe] 25)) #[xc, .slice ya nd ycc, .int .i64 x.words, .int .i64 x.bytes, .int .i64 x.write] 30
  rw [World.size_alloc] at X1
  clear f2 f3 f4 fx pf pd fr fw rx em ern en ccells ch hDO hO hdn hR c1 epe enf
  go_enter Tryd.func15, Tryd.ntmps15
  go_upto_region 1 with fail
  replace C1 := C1.out (.cells #[xc, .slice ya nd ycc, .int .i64 x.words, .int .i64 x.bytes, .int .i64 x.write] 30)
  replace UP : Hid (Below w.heap.size w ((w.alloc (.cells #[vf, .slice (some ⟨b, off, none⟩) nd fc, .int .i64 pe] 25)).alloc (.cells #[xc, .slice ya nd ycc, .int .i64 x.words, .int .i64 x.bytes, .int .i64 x.write] 30))) := UP.out _
  generalize (w.alloc (.cells #[vf, .slice (some ⟨b, off, none⟩) nd fc, .int .i64 pe] 25)).alloc (.cells #[xc, .slice ya nd ycc, .int .i64 x.words, .int .i64 x.bytes, .int .i64 x.write] 30) = w0 at C1 X1 UP ⊢
  have XA : Hid (XAt w0 (w.heap.size + 1) [xc, .slice ya nd ycc, .int .i64 x.words, .int .i64 x.bytes, .int .i64 x.write]) := X1
  have C1H : Hid (w0.cell? ⟨w.heap.size, 1, none⟩ = some (.slice (some ⟨b, off, none⟩) nd fc)) := C1
  have e1 := cell_any C1 (keep_alloc8 (Below.refl _ _) (.cells #[] 5))
  have e3 := cell_any F234.out.2.1 (bnext UP.out (keep_alloc8 (Below.refl _ _) (.cells #[] 5)))
  clear X1 C1
  go_upto_region 2 with (at_builtin; refine wpList_append_fresh w0 rfl (.tmp 14) (.tmp 20) 38 rfl 5 (.int .u8 0) 1 Tryd.underlying38 infoU8 rfl rfl ca m cc (D.bytes.map fun x => Value.int .u8 x) rfl (by rw [List.length_map]; exact EM.out.1) (head_nil HH.out.1) (SRC.out _ UP.out) (by simp [Value.oneCell']) (by unfold maxLen; omega) (by omega) ?_; intro a1 cc1 w1 own1 hb1)
  have O1 : Hid (w1.ownsRow w0.heap.size 5 1 (.slice a1 m cc1) m (D.bytes.map fun x => Value.int .u8 x)) := own1
  have HB1 : Hid (Below w0.heap.size w0 w1) := hb1
  clear own1 hb1 e1 e3
  go_loopw [8] (fun v wr => ∃ (j : Nat) (a : Option Addr) (c : Nat), m + j ≤ n ∧ v = .slice a (m + j) c ∧ wr.ownsRow w0.heap.size 5 1 (.slice a (m + j) c) (m + j) ((D.bytes ++ List.replicate j 0).map fun x => Value.int .u8 x) ∧ Below w0.heap.size w0 wr) (fun v _ => n - slLen v)
  case atStart => exact ⟨0, a1, cc1, by omega, rfl, by simpa using O1.out, HB1.out⟩
  case round =>
    obtain ⟨j, a, c, hj, rfl, hown, hb⟩ := hrel
    have HO : Hid (wr.ownsRow w0.heap.size 5 1 (.slice a (m + j) c) (m + j) ((D.bytes ++ List.replicate j 0).map fun x => Value.int .u8 x)) := hown
    have HB : Hid (Below w0.heap.size w0 wr) := hb
    clear hown hb
    have d1 := cell_any C1H.out HB.out
    have d2 := cell_any F234.out.1 (bnext UP.out HB.out)
    by_cases hlt : m + j < n
    · have l1 : ((m + j : Nat) : Int) < n := by omega
      have HW : Hid ((wr.alloc (.cells #[.int .u8 0] 5)).ownsRow w0.heap.size 5 1 (.slice a (m + j) c) (m + j) ((D.bytes ++ List.replicate j 0).map fun x => Value.int .u8 x)) := HO.out.alloc _
      have HWB : Hid (Below w0.heap.size w0 (wr.alloc (.cells #[.int .u8 0] 5))) := keep_alloc8 HB.out _
      have HNC : Hid ((wr.alloc (.cells #[.int .u8 0] 5)).cell? ⟨wr.heap.size, 0, none⟩ = some (.int .u8 0)) := new_cell' wr #[.int .u8 0] 5 0 _ rfl
      go_wp2_with (at_builtin; refine wpList_append_all _ rfl (.tmp 31) (.tmp 32) 38 rfl w0.heap.size 5 i0 _ 1 1 Tryd.underlying38 hi hz0 hz1 hz2 rfl (by decide) (.slice a (m + j) c) (m + j) ((D.bytes ++ List.replicate j 0).map fun x => Value.int .u8 x) rfl HW.out (some ⟨wr.heap.size, 0, none⟩) 1 1 [.int .u8 0] rfl rfl (fun e => by cases e) (fun ad ha q u hu => by
          injection ha with ha
          subst ha
          rcases q with _ | q
          · injection hu with hu; subst hu; exact HNC.out
          · simp at hu) (by simp [Value.oneCell']) (by unfold maxLen; omega) (by omega) HWB.out.size ?_; intro a2 c2 w2 own2 gr2)
      go_roundw
      case rel => exact ⟨j + 1, a2, c2, by omega, rfl, by
        have h := own2
        rw [show D.bytes ++ List.replicate (j + 1) (0 : Int) = (D.bytes ++ List.replicate j 0) ++ [0] by rw [List.append_assoc, ← List.replicate_succ'], List.map_append]
        exact h, Below.grown HWB.out gr2 HWB.out.size (fun q hq => by have := (HW.out.lt q hq).1; omega)⟩
      case measure => show n - (m + j + 1) < n - (m + j); omega
    · have hmj : m + j = n := by omega
      have hjn : j = n - m := by omega
      have GX : Hid (∃ g, a = some ⟨g, 0, none⟩ ∧ w0.heap.size ≤ g ∧ g < wr.heap.size ∧ XAt wr g ((fillZ D).map fun x => Value.int .u8 x) ∧ n ≤ c ∧ c ≤ maxLen) := by
        have h := HO.out
        rw [EZ.out, ← hjn]
        have e1 : (D.bytes ++ List.replicate j (0 : Int)).length = m + j := by rw [List.length_append, List.length_replicate, EM.out.1]
        rw [← e1] at h
        obtain ⟨a', c', e, hh, hl⟩ := own_rowU h
        injection e with e2 e3 e4
        subst e2 e4
        rcases hl with hl | ⟨g, h1, h2, h3, h4⟩
        · rw [hl] at e1; simp at e1; omega
        · exact ⟨g, h1, h2, h3, h4, by have := hh.1.1; omega, hh.2⟩
      rw [hmj]
      obtain ⟨g, rfl, g1, g2, gx, g5, g6⟩ := GX.out
      have HX0 : Hid (XAt wr g ((fillZ D).map fun x => Value.int .u8 x)) := gx
      have HG : Hid (w0.heap.size ≤ g ∧ n ≤ c ∧ c ≤ maxLen) := ⟨g1, g5, g6⟩
      have LZ : Hid ((fillZ D).length = n) := by
        have h1 := congrArg List.length EZ.out
        rw [List.length_append, List.length_replicate, EM.out.1] at h1
        show (fillZ D).length = n
        omega
      clear gx g1 g5 g6 HO O1
      have l1 : ¬ ((n : Int) < n) := by omega
      go_wp2
      go_loopw [9] (fun i wr => ∃ (k : Nat) (bs : List Int), k ≤ rn ∧ i = .int .i64 k ∧ datsZ x (D.rels.take k) (fillZ D) = some bs ∧ XAt wr g (bs.map fun x => Value.int .u8 x) ∧ Below w0.heap.size w0 wr ∧ g < wr.heap.size) (fun i _ => rn - (intOf i).toNat)
      case atStart => exact ⟨0, fillZ D, Nat.zero_le _, rfl, rfl, HX0.out, HB.out, g2⟩
      case round =>
        obtain ⟨k, bs, hk, rfl, hz, hrow, hb, hg⟩ := hrel
        have HZ : Hid (datsZ x (D.rels.take k) (fillZ D) = some bs) := hz
        have HROW : Hid (XAt wr g (bs.map fun x => Value.int .u8 x)) := hrow
        have HB2 : Hid (Below w0.heap.size w0 wr ∧ g < wr.heap.size) := ⟨hb, hg⟩
        have HBL : Hid (bs.length = n) := by rw [(datsZ_keeps hz).1]; exact LZ.out
        clear hz hrow hb hg
        have hB0 : Hid (Below w.heap.size w wr) := bnext UP.out HB2.out.1
        have d1' := cell_any C1H.out HB2.out.1
        have d4 := cell_any F234.out.2.2 hB0.out
        by_cases hlt2 : k < rn
        · have hlt' : (k : Int) < rn := by omega
          obtain ⟨q, qo, r, rfl, -, hr, x0, x1, x2, x3⟩ := RX.out k hlt2
          have y0 := cell_any x0 hB0.out
          have y1 := cell_any x1 hB0.out
          have y2 := cell_any x2 hB0.out
          have y3 := cell_any x3 hB0.out
          clear x0 x1 x2 x3
          have hrD := HF.out.1.1 r (List.mem_of_getElem? hr)
          have hnext := datsZ_next (x := x) (bs := fillZ D) hr
          rw [HZ.out] at hnext
          obtain ⟨A, hA⟩ : ∃ A : Nat, r.at_ = A := ⟨r.at_.toNat, by have := hrD.2.1; omega⟩
          have hAn : (A : Int) ≤ n - 4 := by have := hrD.2.2.1; have := EM.out.2.2; omega
          obtain ⟨K, hK⟩ : ∃ K : Nat, r.to = K := ⟨r.to.toNat, by have := hrD.2.2.2.1; omega⟩
          obtain ⟨p0, p1, p2⟩ := HF.out.2.1.val hrD.2.2.2.1 hrD.2.2.2.2.1
          have hto := hrD.2.2.2.2.1
          have had : -1048576 ≤ r.add ∧ r.add ≤ 1048576 := hrD.2.2.2.2.2
          rcases YC.out with hy0 | ⟨yb, yo, rfl, hyc⟩
          · omega
          obtain ⟨P, eP⟩ : ∃ P, plc x.data r.to = P := ⟨_, rfl⟩
          rw [hK, Int.toNat_natCast] at p0
          rw [eP] at p1 p2
          rw [← hK, eP] at p0
          have KC : Hid (∀ W, Below w.heap.size w W → W.cell? ⟨yb, yo + K, none⟩ = some (.int .i64 P)) := fun W hW => cell_any (hyc K _ p0) hW
          have hval : valZ x r = 65536 + P + r.add := by unfold valZ; rw [eP]
          simp only [datStep, Option.bind_some, hA, Int.toNat_natCast, hval] at hnext
          have HN : Hid (datsZ x (D.rels.take (k + 1)) (fillZ D) = if 0 ≤ 65536 + P + r.add then some (put4 bs A (65536 + P + r.add)) else none) := hnext
          have HPT : Hid (∀ v W, 0 ≤ v → v < 4294967296 → Calls Tryd.prog 31 #[.int .u32 v] W fun e w' => e = .returned (.slice (some ⟨W.heap.size, 0, none⟩) 4 4) ∧ w' = W.alloc (.cells (bytesOf v) 5)) := fun v W h0 h1 => rput_any v W h0 h1
          clear hnext hrD hr p0 eP hval
          obtain ⟨at_, kd, tt, ad⟩ := r
          dsimp only at *
          subst hA hK
          have XR := XAt.new wr #[.int .i64 A, .int .i64 kd, .int .i64 K, .int .i64 ad] 46
          have HS2 := keep_alloc8 (Below.refl wr.heap.size wr) (.cells #[.int .i64 A, .int .i64 kd, .int .i64 K, .int .i64 ad] 46)
          go_upto_region 8 with fail
          generalize wr.alloc (.cells #[.int .i64 A, .int .i64 kd, .int .i64 K, .int .i64 ad] 46) = w4 at XR HS2 ⊢
          have H24 : Hid (Below wr.heap.size wr w4) := HS2
          have XR2 : Hid (XAt w4 wr.heap.size [.int .i64 A, .int .i64 kd, .int .i64 K, .int .i64 ad]) := XR
          have H04 : Hid (Below w.heap.size w w4) := bnext hB0.out HS2
          have XA2 : Hid (XAt w4 (w.heap.size + 1) [xc, .slice (some ⟨yb, yo, none⟩) nd ycc, .int .i64 x.words, .int .i64 x.bytes, .int .i64 x.write]) := (XA.out.later (XA.out.lt (by simp)) HB2.out.1).later (by have h1 := XA.out.lt (by simp); have h2 := HB2.out.1.size; omega) HS2
          clear XR HS2 y0 y1 y2 y3 d1' d4
          have p1' := XA2.out.1 1 _ rfl
          have r2 := XR2.out.1 2 _ rfl
          have r3 := XR2.out.1 3 _ rfl
          have kc := KC.out _ H04.out
          go_quiet (fail)
          have hV4 : 65536 + P + ad < 4294967296 := by omega
          generalize 65536 + P + ad = V at HN hV4 ⊢
          have H05 : Hid (Below w4.heap.size w4 (w4.drewN nq)) := below_drewN (Below.refl _ _) _
          generalize w4.drewN nq = w5 at H05 ⊢
          clear p1' r2 r3 kc
          obtain ⟨C, eC⟩ : ∃ C, wr.heap.size = C := ⟨_, rfl⟩
          have HCg : Hid (g < C ∧ C < w5.heap.size) := ⟨by have := HB2.out.2; omega, by have h1 := XR2.out.lt (by simp); have h2 := H05.out.size; omega⟩
          have XR5 : Hid (XAt w5 C [.int .i64 A, .int .i64 kd, .int .i64 K, .int .i64 ad]) := by rw [← eC]; exact XR2.out.later (XR2.out.lt (by simp)) H05.out
          have XG5 : Hid (XAt w5 g (bs.map fun x => Value.int .u8 x)) := (HROW.out.later HB2.out.2 H24.out).later (Nat.lt_of_lt_of_le HB2.out.2 H24.out.size) H05.out
          have B05 : Hid (Below w0.heap.size w0 w5) := bnext HB2.out.1 (bnext H24.out H05.out)
          have U5 : Hid (Below w.heap.size w w5) := bnext H04.out H05.out
          rw [eC]
          clear XR2 XA2 H04 H24 H05 HROW eC
          rcases (by omega : V < 0 ∨ 0 ≤ V) with hV | hV
          · go_wp2
            exact bodyPost_ret (by simp [results, Tryd.results15, go_sem]) rfl ⟨.inl ⟨datsZ_stop (HN.out.trans (if_neg (by omega))), rfl⟩, U5.out⟩
          · have hVw : IntKind.u32.wrap V = V := by rw [IntKind.wrap_u32]; omega
            have l2 : ¬ ((4294967295 : Int) < V) := by omega
            have hVH : Hid (0 ≤ V ∧ V < 4294967296) := ⟨hV, hV4⟩
            have NB := XAt.new w5 (bytesOf V) 5
            have B6 := keep_alloc8 (Below.refl w5.heap.size w5) (.cells (bytesOf V) 5)
            go_upto_region 12 with (go_at_call 31; refine (HPT.out _ _ hVH.out.1 hVH.out.2).mono ?_; rintro e w6 ⟨rfl, rfl⟩)
            generalize w5.alloc (.cells (bytesOf V) 5) = w6 at NB B6 ⊢
            have X6 : Hid (XAt w6 w5.heap.size [.int .u8 (V % 256), .int .u8 (V / 256 % 256), .int .u8 (V / 65536 % 256), .int .u8 (V / 16777216)]) := NB
            have XR6 : Hid (XAt w6 C [.int .i64 A, .int .i64 kd, .int .i64 K, .int .i64 ad]) := XR5.out.later HCg.out.2 B6
            have XG6 : Hid (XAt w6 g (bs.map fun x => Value.int .u8 x)) := XG5.out.later (Nat.lt_trans HCg.out.1 HCg.out.2) B6
            have B06 : Hid (Below w0.heap.size w0 w6) := bnext B05.out B6
            have HS6 : Hid (w5.heap.size ≤ w6.heap.size) := B6.size
            obtain ⟨B, eB⟩ : ∃ B, w5.heap.size = B := ⟨_, rfl⟩
            have HBB : Hid (g < C ∧ C < B) := by rw [← eB]; exact HCg.out
            have HBG : Hid (B ≤ w6.heap.size) := by rw [← eB]; exact HS6.out
            rw [eB] at X6 ⊢
            clear NB B6 eB XR5 XG5 B05 hVw l2 hV hV4
            have hb4 : Hid (V / 16777216 % 256 = V / 16777216) := by have h1 := hVH.out; show V / 16777216 % 256 = V / 16777216; omega
            go_wp2
            go_loopw [13] (fun v wr => ∃ i : Nat, i ≤ 4 ∧ v = .int .i64 i ∧ XAt wr g ((putI bs A V i).map fun x => Value.int .u8 x) ∧ XAt wr B [.int .u8 (V % 256), .int .u8 (V / 256 % 256), .int .u8 (V / 65536 % 256), .int .u8 (V / 16777216)] ∧ XAt wr C [.int .i64 A, .int .i64 kd, .int .i64 K, .int .i64 ad] ∧ Below w0.heap.size w0 wr ∧ g < wr.heap.size) (fun v _ => 4 - (intOf v).toNat)
            case atStart => exact ⟨0, by omega, rfl, XG6.out, X6.out, XR6.out, B06.out, by have := HBB.out; have := HBG.out; omega⟩
            case round =>
              obtain ⟨i, hi4, rfl, xg, xb, xc', hb, hg⟩ := hrel
              have XG : Hid (XAt wr g ((putI bs A V i).map fun x => Value.int .u8 x)) := xg
              have XB : Hid (XAt wr B [.int .u8 (V % 256), .int .u8 (V / 256 % 256), .int .u8 (V / 65536 % 256), .int .u8 (V / 16777216)]) := xb
              have XC : Hid (XAt wr C [.int .i64 A, .int .i64 kd, .int .i64 K, .int .i64 ad]) := xc'
              have HBI : Hid (Below w0.heap.size w0 wr ∧ g < wr.heap.size) := ⟨hb, hg⟩
              clear xg xb xc' hb hg
              by_cases hi : i < 4
              · have hi' : (i : Int) < 4 := by omega
                have hAi : ((A + i : Nat) : Int) < n := by omega
                have hAi2 : (A : Int) + i < n := by omega
                obtain ⟨y, hy⟩ : ∃ y, (putI bs A V i)[A + i]? = some y := get_some (by rw [putI_len, HBL.out]; omega)
                have s1 := xat_num XG.out hy
                have s2 := XG.out.2 (A + i)
                have hZB : [Value.int .u8 (V % 256), .int .u8 (V / 256 % 256), .int .u8 (V / 65536 % 256), .int .u8 (V / 16777216)][i]? = some (.int .u8 (byt4 V i)) := by
                  have := hb4.out
                  rcases (by omega : i = 0 ∨ i = 1 ∨ i = 2 ∨ i = 3) with rfl | rfl | rfl | rfl
                  · simp [byt4]
                  · simp [byt4]
                  · simp [byt4]
                  · simp [byt4]; omega
                have zb := XB.out.1 i _ hZB
                have zc := XC.out.1 0 _ rfl
                have HY : Hid (A + i < (putI bs A V i).length) := get_lt hy
                obtain ⟨z, ez⟩ : ∃ z, byt4 V i = z := ⟨_, rfl⟩
                have EZ2 : Hid (byt4 V i = z) := ez
                rw [ez] at zb
                have nB : Hid (B ≠ g ∧ C ≠ g) := by have := HBB.out; exact ⟨by omega, by omega⟩
                have KS : Hid (∀ u, (wr.setCell ⟨g, A + i, none⟩ u).cell? ⟨C, 0, none⟩ = some (.int .i64 A) ∧ (wr.setCell ⟨g, A + i, none⟩ u).cell? ⟨B, i, none⟩ = some (.int .u8 z)) := fun u =>
                  ⟨(World.cell?_setCell_other _ _ _ _ (fun q => by injection q with q1; exact nB.out.2 q1.symm)).trans zc, (World.cell?_setCell_other _ _ _ _ (fun q => by injection q with q1; exact nB.out.1 q1.symm)).trans zb⟩
                clear hy ez hZB
                have hw1 : IntKind.i64.wrap ((A : Int) + (i : Int)) = (A : Int) + (i : Int) := wrap_mid (by omega) (by omega)
                have hw2 : (0 : Int) ≤ (A : Int) + (i : Int) := by omega
                have hw3 : ((A : Int) + (i : Int)).toNat = A + i := by omega
                have hw4 : A + i < n := by omega
                go_upto_region 15 with fail
                go_region_held3 (fun W => W.cell? ⟨C, 0, none⟩ = some (.int .i64 A) ∧ W.cell? ⟨B, i, none⟩ = some (.int .u8 z)) (first | exact ⟨zc, zb⟩ | exact KS.out _ | (trace_state; fail)) (fail)
                all_goals
                  go_wp2
                  go_roundw
                  case rel => exact ⟨i + 1, by omega, by go_num, by
                    have h := xat_put XG.out HY.out z
                    rw [← EZ2.out] at h ⊢
                    exact h, xat_other (w := wr) XB.out nB.out.1 _, xat_other (w := wr) XC.out nB.out.2 _, (HBI.out.1.setCell HG.out.1 _).drew, by
                    have := HBI.out.2
                    show g < (wr.setCell ⟨g, A + i, none⟩ (.int .u8 z)).heap.size
                    simpa using this⟩
                  case measure => simp [intOf]; omega
              · obtain rfl : i = 4 := by omega
                go_wp2
                go_roundw
                case rel => exact ⟨k + 1, put4 bs A V, by omega, by go_num, by rw [HN.out, if_pos hVH.out.1], by rw [← putI_4]; exact XG.out, HBI.out.1, HBI.out.2⟩
                case measure => simp [intOf]; omega
        · obtain rfl : k = rn := by omega
          go_wp2
          exact bodyPost_ret (by simp [results, Tryd.results15, go_sem]) rfl ⟨.inr ⟨bs, .slice (some ⟨g, 0, none⟩) n c, by rw [← EM.out.2.1, List.take_length] at HZ; exact HZ.out, rfl, ⟨some ⟨g, 0, none⟩, c, by rw [HBL.out], ⟨⟨by rw [HBL.out]; exact HG.out.2.1, fun e => by cases e⟩, HG.out.2.2⟩, .inr ⟨g, rfl, by have := UP.out.size; have := HG.out.1; omega, HB2.out.2, HROW.out⟩⟩⟩, hB0.out⟩
end Go.Proofs.YtombfnnpdamlgaaDoor
