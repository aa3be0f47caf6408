/- The data's bytes with their relocations done, as the code has it. -/
import Derived.Test.YtombfnnpdamlgaaDoorPatCode
import Derived.Laws.CopyOwn
namespace Go.Proofs.YtombfnnpdamlgaaDoor
open Go.ChangeShapes Go.WideShapes Go.ChangeAt Go.RowKit
set_option linter.unusedVariables false
set_option linter.unusedSimpArgs false
theorem infoU8 : (Tryd.prog.info? 5).map (fun i => (i.zero, i.size, i.bytes)) = some (some (.int .u8 0), 1, 1) := by kernel_rfl
theorem zeros_u8 (n : Nat) : (madeCells (Value.int .u8 0).cells (n * 1)).toList = (List.replicate n (0 : Int)).map fun x => .int .u8 x := by
  rw [Nat.mul_one]; show (madeCells #[Value.int .u8 0] n).toList = _
  rw [toList_madeCells_one]; simp
theorem splice_fill (l : List Int) (n : Nat) (h : l.length ≤ n) : splice ((List.replicate n (0 : Int)).map fun x => Value.int .u8 x) 0 (l.map fun x => Value.int .u8 x) = (l ++ List.replicate (n - l.length) 0).map fun x => Value.int .u8 x := by
  unfold splice
  simp
theorem splice_put4 (bs : List Int) (k : Nat) (v : Int) (h : k + 4 ≤ bs.length) : splice (bs.map fun x => Value.int .u8 x) k [.int .u8 (v % 256), .int .u8 (v / 256 % 256), .int .u8 (v / 65536 % 256), .int .u8 (v / 16777216 % 256)] = (put4 bs k v).map fun x => Value.int .u8 x := by
  apply List.ext_getElem?
  intro j
  rw [List.getElem?_map, put4_get bs k v j h]
  unfold splice
  simp only [List.length_cons, List.length_nil]
  by_cases h0 : j < k
  · rw [List.getElem?_append_left (by simp; omega), List.getElem?_take, if_pos h0, List.getElem?_map, if_neg (by omega), if_neg (by omega), if_neg (by omega), if_neg (by omega)]
  · have hl : (List.take k (bs.map fun x => Value.int .u8 x)).length = k := by simp; omega
    rw [List.getElem?_append_right (by rw [hl]; omega), hl]
    by_cases h4 : j < k + 4
    · rcases (by omega : j = k ∨ j = k + 1 ∨ j = k + 2 ∨ j = k + 3) with rfl | rfl | rfl | rfl
      · simp
      · rw [show k + 1 - k = 1 by omega]; simp
      · rw [show k + 2 - k = 2 by omega]; simp
      · rw [show k + 3 - k = 3 by omega]; simp
    · rw [List.getElem?_append_right (by simp; omega), List.getElem?_drop, List.getElem?_map, if_neg (by omega), if_neg (by omega), if_neg (by omega), if_neg (by omega)]
      congr 2
      simp; omega
/-- A row of one's own, out of its block. -/
theorem heap_rowU {k : IntKind} {base : Nat} {w : World} {g : Nat} {t : TypeId} {l : List Int} {c : Nat} (h : w.heap[g]? = some (.cells (l.map fun x => Value.int k x).toArray t (0, 0))) (hg : base ≤ g) (hc : l.length ≤ c) (hm : c ≤ maxLen) : RowU k base w (.slice (some ⟨g, 0, none⟩) l.length c) l :=
  ⟨_, _, rfl, ⟨⟨hc, fun e => by cases e⟩, hm⟩, .inr ⟨g, rfl, hg, lt_heap h, xat_heap h⟩⟩
set_option maxRecDepth 100000 in
set_option maxHeartbeats 4000000 in
theorem pdata_any {w : World} {vp vx : Value} {p : ProgM} {x : PlanZ} {base : Nat} (hp : IsProg Any8 w vp p) (hx : IsPlan base w vx x) (hR : RightP p) (hO : PlanOk p.funcs.length p.datas.length x)
    (f : Nat) {D : PDataM} (hf : p.datas[f]? = some D) (hs1 : 1 ≤ D.size) (hs2 : D.size ≤ 4096) (hs3 : (D.bytes.length : Int) ≤ D.size) :
    Calls Tryd.prog 14 #[vp, vx, .int .i64 f] w fun e w' => RowPost .u8 w.heap.size (dataZ x D) e w' ∧ Below w.heap.size w w' := by
  obtain ⟨vf, vd, rfl, pf, pd⟩ := hp
  obtain ⟨xc, xd, rfl, xc1, xd1, -⟩ := hx
  have hdn := xd1.isNums
  clear xc1 xd1
  obtain ⟨fa, fc, rfl, fm, -, fx⟩ := LstA.open pd
  have hlf := get_lt hf
  obtain ⟨b, off, D', rfl, -, hD', vc, vr, -, -, f2, f3, f4, fw, fr⟩ := fx f hlf
  rw [hf] at hD'
  injection hD' with hD'
  subst hD'
  have hDO : DtOk p.datas.length D := hR.2 D (List.mem_of_getElem? hf)
  obtain ⟨nf, enf⟩ : ∃ n, p.funcs.length = n := ⟨_, rfl⟩
  obtain ⟨nd, endd⟩ : ∃ n, p.datas.length = n := ⟨_, rfl⟩
  rw [endd] at hlf fm hO hDO ⊢
  obtain ⟨ca, cc, rfl, ch, -, ccells⟩ := fw.1
  obtain ⟨ra, rc, rfl, rm, -, rx⟩ := LstA.open fr
  obtain ⟨m, em⟩ : ∃ m, D.bytes.length = m := ⟨_, rfl⟩
  obtain ⟨rn, ern⟩ : ∃ m, D.rels.length = m := ⟨_, rfl⟩
  obtain ⟨n, en⟩ : ∃ n : Nat, D.size = n := ⟨D.size.toNat, by omega⟩
  rw [em] at ch f3 hs3
  rw [ern] at rm rx f4
  rw [en] at hs1 hs2 hs3 f2
  have hm' := may_len fm
  have rm' := may_len rm
  have hk' : (f : Int) < nd := by omega
  have SRC : Hid (∀ W, Below w.heap.size w W → ∀ ad, ca = some ad → ∀ j u, (D.bytes.map fun x => Value.int .u8 x)[j]? = some u → W.cell? (ad.add j) = some u) := fun W hW ad e j u hu => cell_any (lst_cells ccells ad e j u hu) hW
  have HH : Hid (Head ca m cc ∧ cc ≤ maxLen) := ch
  have F234 : Hid (w.cell? ⟨b, off + f * 5 + 2, none⟩ = some (.int .i64 n) ∧ w.cell? ⟨b, off + f * 5 + 3, none⟩ = some (.slice ca m cc) ∧ w.cell? ⟨b, off + f * 5 + 4, none⟩ = some (.slice ra rn rc)) := ⟨f2, f3, f4⟩
  have EM : Hid (D.bytes.length = m ∧ D.rels.length = rn ∧ D.size = n) := ⟨em, ern, en⟩
  have RX : Hid (∀ k, k < rn → ∃ b off x, ra = some ⟨b, off, none⟩ ∧ Any8 b ∧ D.rels[k]? = some x ∧ PRelAt w b (off + k * 4) x) := rx
  have HF : Hid (DtOk nd D ∧ PlanOk p.funcs.length nd x ∧ IsNums w xd x.data) := ⟨hDO, hO, hdn⟩
  have EZ : Hid (fillZ D = D.bytes ++ List.replicate (n - m) 0) := by unfold fillZ; rw [en, em]; rfl
  obtain ⟨i0, hi, hz0, hz1, hz2⟩ := info_parts infoU8
  obtain ⟨pe, epe⟩ : ∃ m, p.entry = m := ⟨_, rfl⟩
  rw [epe]
  have c1 := new_cell' w #[vf, .slice (some ⟨b, off, none⟩) nd fc, .int .i64 pe] 25 1 _ rfl
  have UP : Hid (∀ o, Below w.heap.size w ((w.alloc (.cells #[vf, .slice (some ⟨b, off, none⟩) nd fc, .int .i64 pe] 25)).alloc o)) := fun o => keep_alloc8 (keep_alloc8 (Below.refl _ _) _) _
  have C1 : Hid (∀ o, ((w.alloc (.cells #[vf, .slice (some ⟨b, off, none⟩) nd fc, .int .i64 pe] 25)).alloc o).cell? ⟨w.heap.size, 1, none⟩ = some (.slice (some ⟨b, off, none⟩) nd fc)) := fun o => cell_any c1 (keep_alloc8 (Below.refl _ _) _)
  have X1 := XAt.new (w.alloc (.cells #[vf, .slice (some ⟨b, off, none⟩) nd fc, .int .i64 pe] 25)) #[xc, xd, .int .i64 x.words, .int .i64 x.bytes, .int .i64 x.write] 30
  rw [World.size_alloc] at X1
  clear f2 f3 f4 fx pf pd fr fw rx em ern en ccells ch hDO hO hdn hR c1 epe enf
  go_enter Tryd.func14, Tryd.ntmps14
  go_upto_region 1 with fail
  replace C1 := C1.out (.cells #[xc, xd, .int .i64 x.words, .int .i64 x.bytes, .int .i64 x.write] 30)
  replace UP : Hid (Below w.heap.size w ((w.alloc (.cells #[vf, .slice (some ⟨b, off, none⟩) nd fc, .int .i64 pe] 25)).alloc (.cells #[xc, xd, .int .i64 x.words, .int .i64 x.bytes, .int .i64 x.write] 30))) := UP.out _
  generalize (w.alloc (.cells #[vf, .slice (some ⟨b, off, none⟩) nd fc, .int .i64 pe] 25)).alloc (.cells #[xc, xd, .int .i64 x.words, .int .i64 x.bytes, .int .i64 x.write] 30) = w0 at C1 X1 UP ⊢
  have f2' := cell_any F234.out.1 UP.out
  have XA : Hid (XAt w0 (w.heap.size + 1) [xc, xd, .int .i64 x.words, .int .i64 x.bytes, .int .i64 x.write]) := X1
  have C1H : Hid (w0.cell? ⟨w.heap.size, 1, none⟩ = some (.slice (some ⟨b, off, none⟩) nd fc)) := C1
  clear X1
  have u1 : ¬ ((n : Int) < 0) := by omega
  have u2 : ¬ ((65536 : Int) < n) := by omega
  go_upto_region 4 with (at_make; refine wpList_make_full _ rfl _ _ 38 rfl _ 5 i0 (.int .u8 0) 1 Tryd.underlying38 hi hz0 hz1 .i64 .i64 _ _ n rfl rfl rfl rfl (by rw [hz2]; omega) (by unfold maxLen; omega) (Nat.le_refl _) ?_; intro w2 own2 gr2)
  have B2 : Hid (Below w0.heap.size w0 w2) := grew_below gr2
  have G2 : Hid (w2.heap[w0.heap.size]? = some (.cells ((List.replicate n (0 : Int)).map fun x => Value.int .u8 x).toArray 5 (0, 0))) := by
    have h := own_heap own2; rw [zeros_u8] at h; exact h.2
  clear own2 gr2 C1 f2'
  have c1' := cell_any C1H.out B2.out
  have f3' := cell_any F234.out.2.1 (bnext UP.out B2.out)
  go_upto_region 5 with ((with_reducible show wpList _ _ _ (Oper.mk _ (Op.call { callee := .builtin .copy, args := _, argTypes := _ }) _ _ _ _ :: _) _ _); refine wpList_copy_splice rfl (.tmp 48) (.tmp 54) 38 38 rfl 5 Tryd.underlying38 (by kernel_rfl) _ _ _ _ _ _ rfl rfl w0.heap.size 0 ((List.replicate n (0 : Int)).map fun x => Value.int .u8 x) 5 G2.out (D.bytes.map fun x => Value.int .u8 x) (by rw [List.length_map, EM.out.1]; exact (Nat.min_eq_left (by omega)).symm) (fun h => ⟨rfl, by
      have h1 := SRC.out w2 (bnext UP.out B2.out)
      rw [List.length_map, EM.out.1] at h
      cases hca : ca with
      | none =>
        have h2 := HH.out.1.2 hca
        have h3 := HH.out.1.1
        exact absurd h (by rw [h2] at h3; omega)
      | some ad => exact ⟨ad, rfl, h1 ad hca⟩⟩) (by rw [List.length_map, List.length_map, List.length_replicate, EM.out.1]; omega) (by simp [Value.oneCell']) w0.heap.size w0 B2.out (Nat.le_refl _) ?_; intro w3 G3 B3)
  have GD : Hid (w3.heap[w0.heap.size]? = some (.cells ((fillZ D).map fun x => Value.int .u8 x).toArray 5 (0, 0))) := by
    have h := G3.out
    rw [splice_fill _ _ (by rw [EM.out.1]; omega), EM.out.1, ← EZ.out] at h
    exact h
  have B3H : Hid (Below w0.heap.size w0 w3) := B3
  have LZ : Hid ((fillZ D).length = n) := by
    have h1 := congrArg List.length EZ.out
    rw [List.length_append, List.length_replicate, EM.out.1] at h1
    show (fillZ D).length = n
    omega
  clear G3 B3 c1' f3'
  have c1' := cell_any C1H.out B3H.out
  have f4' := cell_any F234.out.2.2 (bnext UP.out B3H.out)
  obtain ⟨g, eg⟩ : ∃ g, w0.heap.size = g := ⟨_, rfl⟩
  have EG : Hid (w0.heap.size = g) := eg
  rw [eg] at GD B3H ⊢
  clear eg B2 G2
  go_wp2
  go_loopw [63] (fun i wr => ∃ (k : Nat) (bs : List Int), k ≤ rn ∧ i = .int .i64 k ∧ datsZ x (D.rels.take k) (fillZ D) = some bs ∧ wr.heap[g]? = some (.cells (bs.map fun x => Value.int .u8 x).toArray 5 (0, 0)) ∧ Below g w0 wr) (fun i _ => rn - (intOf i).toNat)
  case atStart => exact ⟨0, fillZ D, Nat.zero_le _, rfl, rfl, GD.out, B3H.out⟩
  case round =>
    obtain ⟨k, bs, hk, rfl, hz, hrow, hb⟩ := hrel
    have HZ : Hid (datsZ x (D.rels.take k) (fillZ D) = some bs) := hz
    have HROW : Hid (wr.heap[g]? = some (.cells (bs.map fun x => Value.int .u8 x).toArray 5 (0, 0))) := hrow
    have HB : Hid (Below g w0 wr) := hb
    have HBL : Hid (bs.length = n) := by rw [(datsZ_keeps hz).1]; exact LZ.out
    have HGL : Hid (g < wr.heap.size) := lt_heap hrow
    clear hz hrow hb
    have hB0 : Hid (Below w.heap.size w wr) := bnext UP.out (by rw [EG.out]; exact HB.out)
    by_cases hlt : k < rn
    · have hlt' : (k : Int) < rn := by omega
      obtain ⟨q, qo, r, rfl, -, hr, x0, x1, x2, x3⟩ := RX.out k hlt
      have y0 := cell_any x0 hB0.out
      have y1 := cell_any x1 hB0.out
      have y2 := cell_any x2 hB0.out
      have y3 := cell_any x3 hB0.out
      clear x0 x1 x2 x3
      have hrD := HF.out.1.1 r (List.mem_of_getElem? hr)
      have hnext := datsZ_next (x := x) (bs := fillZ D) hr
      rw [HZ.out] at hnext
      obtain ⟨A, hA⟩ : ∃ A : Nat, r.at_ = A := ⟨r.at_.toNat, by have := hrD.2.1; omega⟩
      have hAn : (A : Int) ≤ n - 4 := by have := hrD.2.2.1; have := EM.out.2.2; omega
      obtain ⟨V, eV⟩ : ∃ V, valZ x r = V := ⟨_, rfl⟩
      have hVr : V < 4294967296 := by
        obtain ⟨p0, p1, p2⟩ := HF.out.2.1.val hrD.2.2.2.1 hrD.2.2.2.2.1
        have := hrD.2.2.2.2.2.2
        rw [← eV]
        unfold valZ; omega
      simp only [datStep, Option.bind_some, hA, Int.toNat_natCast, eV] at hnext
      have HN : Hid (datsZ x (D.rels.take (k + 1)) (fillZ D) = if 0 ≤ V then some (put4 bs A V) else none) := hnext
      have HV : Hid (∀ W, Below w.heap.size w W → Calls Tryd.prog 29 #[.agg #[xc, xd, .int .i64 x.words, .int .i64 x.bytes, .int .i64 x.write], .agg #[.int .i64 A, .int .i64 r.kind, .int .i64 r.to, .int .i64 r.add]] W fun e w' =>
          ((0 ≤ V ∧ e = .returned (.tuple #[.int .u32 V, .bool true])) ∨ (V < 0 ∧ e = .returned (.tuple #[.int .u32 0, .bool false]))) ∧ Below W.heap.size W w') := fun W hW => by
        have h := value_any (vc := xc) (a := x.words) (b := x.bytes) (c := x.write) (HF.out.2.2.later hW) HF.out.2.1 r hrD.2.2.2.1 hrD.2.2.2.2.1 hrD.2.2.2.2.2.1 hrD.2.2.2.2.2.2
        rw [hA, eV] at h
        exact h
      have HPT : Hid (∀ v W, 0 ≤ v → v < 4294967296 → Calls Tryd.prog 30 #[.int .u32 v] W fun e w' => e = .returned (.agg #[.int .u8 (v % 256), .int .u8 (v / 256 % 256), .int .u8 (v / 65536 % 256), .int .u8 (v / 16777216)]) ∧ w' = W.alloc (.cells #[.int .u8 (v % 256), .int .u8 (v / 256 % 256), .int .u8 (v / 65536 % 256), .int .u8 (v / 16777216)] 70)) := fun v W h0 h1 => put_any v W h0 h1
      clear hnext hrD hr eV
      obtain ⟨at_, kd, tt, ad⟩ := r
      dsimp only at *
      subst hA
      have XR := XAt.new wr #[.int .i64 A, .int .i64 kd, .int .i64 tt, .int .i64 ad] 46
      have HS2 := keep_alloc8 (Below.refl wr.heap.size wr) (.cells #[.int .i64 A, .int .i64 kd, .int .i64 tt, .int .i64 ad] 46)
      go_upto_region 8 with fail
      generalize wr.alloc (.cells #[.int .i64 A, .int .i64 kd, .int .i64 tt, .int .i64 ad] 46) = w4 at XR HS2 ⊢
      have H24 : Hid (Below wr.heap.size wr w4) := HS2
      have XR2 : Hid (XAt w4 wr.heap.size [.int .i64 A, .int .i64 kd, .int .i64 tt, .int .i64 ad]) := XR
      have H04 : Hid (Below w.heap.size w w4) := bnext hB0.out HS2
      have XA2 : Hid (XAt w4 (w.heap.size + 1) [xc, xd, .int .i64 x.words, .int .i64 x.bytes, .int .i64 x.write]) := (XA.out.later (XA.out.lt (by simp)) (by rw [EG.out]; exact HB.out)).later (by have h1 := XA.out.lt (by simp); have h2 := HB.out.size; omega) HS2
      clear XR HS2 y0 y1 y2 y3
      have p0 := XA2.out.1 0 _ rfl
      have p1 := XA2.out.1 1 _ rfl
      have p2 := XA2.out.1 2 _ rfl
      have p3 := XA2.out.1 3 _ rfl
      have p4 := XA2.out.1 4 _ rfl
      have r0 := XR2.out.1 0 _ rfl
      have r1 := XR2.out.1 1 _ rfl
      have r2 := XR2.out.1 2 _ rfl
      have r3 := XR2.out.1 3 _ rfl
      go_upto_region 9 with (go_at_call 29; refine (HV.out _ H04.out).mono ?_; rintro e w5 ⟨⟨hV, rfl⟩ | ⟨hV, rfl⟩, hb5⟩)
      · have v0 : 0 ≤ V := hV
        clear p0 p1 p2 p3 p4 r1 r2 r3
        go_upto_region 10 with (go_at_call 30; refine (HPT.out _ _ v0 hVr).mono ?_; rintro e w6 ⟨rfl, rfl⟩)
        have XW := XAt.new (w5.alloc (.cells #[.int .u8 (V % 256), .int .u8 (V / 256 % 256), .int .u8 (V / 65536 % 256), .int .u8 (V / 16777216)] 70)) #[.int .u8 (V % 256), .int .u8 (V / 256 % 256), .int .u8 (V / 65536 % 256), .int .u8 (V / 16777216)] 70
        have HW6 : Hid (Below w4.heap.size w4 ((w5.alloc (.cells #[.int .u8 (V % 256), .int .u8 (V / 256 % 256), .int .u8 (V / 65536 % 256), .int .u8 (V / 16777216)] 70)).alloc (.cells #[.int .u8 (V % 256), .int .u8 (V / 256 % 256), .int .u8 (V / 65536 % 256), .int .u8 (V / 16777216)] 70))) := keep_alloc8 (keep_alloc8 hb5 _) _
        rw [World.size_alloc] at XW
        generalize (w5.alloc (.cells #[.int .u8 (V % 256), .int .u8 (V / 256 % 256), .int .u8 (V / 65536 % 256), .int .u8 (V / 16777216)] 70)).alloc (.cells #[.int .u8 (V % 256), .int .u8 (V / 256 % 256), .int .u8 (V / 65536 % 256), .int .u8 (V / 16777216)] 70) = w6 at XW HW6 ⊢
        obtain ⟨B, eB⟩ : ∃ B, w5.heap.size + 1 = B := ⟨_, rfl⟩
        rw [eB] at XW ⊢
        have R0 := cell_any r0 HW6.out
        have l1 : ¬ ((A : Int) < 0) := by omega
        have l2 : ¬ ((n : Int) - 4 < (A : Int)) := by omega
        have G6 : Hid (w6.heap[g]? = some (.cells (bs.map fun x => Value.int .u8 x).toArray 5 (0, 0))) := by
          rw [← HROW.out]
          exact (bnext H24.out HW6.out).block g HGL.out
        have BW : Hid (Below g w0 w6) := (HB.out.trans (((bnext H24.out HW6.out)).mono (Nat.le_of_lt HGL.out)))
        have XW6 : Hid (∀ j v, [Value.int .u8 (V % 256), .int .u8 (V / 256 % 256), .int .u8 (V / 65536 % 256), .int .u8 (V / 16777216 % 256)][j]? = some v → w6.cell? ((⟨B, 0, none⟩ : Addr).add j) = some v) := by
          intro j v h
          rw [show (⟨B, 0, none⟩ : Addr).add j = ⟨B, j, none⟩ from by cases j <;> simp [Addr.add]]
          rw [show V / 16777216 % 256 = V / 16777216 by omega] at h
          exact XW.1 j v h
        clear XW eB hb5 r0
        go_upto_region 12 with fail
        have LB : (bs.map fun x => Value.int .u8 x).length = n := by rw [List.length_map]; exact HBL.out
        have hA4 : A + 4 ≤ n := by omega
        have hAle : (A : Int) ≤ n := by omega
        have hAle' : A ≤ n := by omega
        have FIN : Hid (splice (bs.map fun x => Value.int .u8 x) A [.int .u8 (V % 256), .int .u8 (V / 256 % 256), .int .u8 (V / 65536 % 256), .int .u8 (V / 16777216 % 256)] = (put4 bs A V).map fun x => Value.int .u8 x) := splice_put4 bs A V (by rw [HBL.out]; exact hA4)
        go_region_law (refine step_copy_splice rfl (.tmp 93) (.tmp 94) 38 38 rfl 5 Tryd.underlying38 (by kernel_rfl) _ _ _ _ _ _ (by rfl) (by rfl) g A (bs.map fun x => Value.int .u8 x) 5 G6.out [.int .u8 (V % 256), .int .u8 (V / 256 % 256), .int .u8 (V / 65536 % 256), .int .u8 (V / 16777216 % 256)] (by simp [Nat.min_def] <;> omega) (fun _ => ⟨by simp <;> omega, ⟨B, 0, none⟩, rfl, fun j v h => show w6.cell? ((⟨B, 0, none⟩ : Addr).add j) = some v from XW6.out j v h⟩) (by rw [LB]; simp <;> omega) (by simp [Value.oneCell']) g w0 (by first | exact BW.out | exact BW.out.drew | exact BW.out.drew.drew | exact BW.out.drew.drew.drew) (Nat.le_refl _) ?_; intro w7 G7 B7)
        all_goals
          have G8 : Hid (w7.heap[g]? = some (.cells ((put4 bs A V).map fun x => Value.int .u8 x).toArray 5 (0, 0))) := by rw [← FIN.out]; exact G7.out
          go_wp2
          go_roundw
          case rel => exact ⟨k + 1, put4 bs A V, by omega, by go_num, by rw [HN.out, if_pos hV], G8.out, B7⟩
          case measure => simp [intOf]; omega
      · go_wp2_with (go_at_call 30; refine (HPT.out 0 _ (by decide) (by decide)).mono ?_; rintro e w6 ⟨rfl, rfl⟩)
        exact bodyPost_ret (by simp [results, Tryd.results14, go_sem]) rfl ⟨.inl ⟨datsZ_stop (HN.out.trans (if_neg (by omega))), rfl⟩, bnext H04.out (keep_alloc8 (keep_alloc8 hb5 _) _)⟩
    · obtain rfl : k = rn := by omega
      go_wp2
      exact bodyPost_ret (by simp [results, Tryd.results14, go_sem]) rfl ⟨.inr ⟨bs, .slice (some ⟨g, 0, none⟩) n n, by rw [← EM.out.2.1, List.take_length] at HZ; exact HZ.out, rfl, by
        have h := heap_rowU (base := w.heap.size) HROW.out (by have := UP.out.size; have := EG.out; omega) (Nat.le_refl _) (by rw [HBL.out]; unfold maxLen; omega)
        rw [HBL.out] at h
        exact h⟩, hB0.out⟩
end Go.Proofs.YtombfnnpdamlgaaDoor
