/- What the document's own Write returns. -/
import Derived.Test.YtnejpldbokodaaaGreatDoorObjApp
import Derived.ArgAppend
import Derived.Lib.SlBytesConst
namespace Go.Proofs.YtnejpldbokodaaaGreatDoor
open Go.ChangeShapes Go.WideShapes Go.ChangeAt Go.RowKit
set_option linter.unusedVariables false
set_option linter.unusedSimpArgs false
theorem dig4_bytes (x : Int) (h0 : 0 ≤ x) (h1 : x < 4294967296) : (bytesOf x).toList = (digL 4 x).map fun x => .int .u8 x := by
  have e : digL 4 x = [x % 256, x / 256 % 256, x / 65536 % 256, x / 16777216] := by
    show [x % 256, x / 256 % 256, x / 256 / 256 % 256, x / 256 / 256 / 256 % 256] = _
    rw [show x / 256 / 256 % 256 = x / 65536 % 256 from by omega, show x / 256 / 256 / 256 % 256 = x / 16777216 from by omega]
  rw [e]; rfl
theorem flat4_len (l : List Int) : (flatW (digL 4) l).length = 4 * l.length := by
  induction l with
  | nil => rfl
  | cons x l ih => show (digL 4 x ++ flatW (digL 4) l).length = _; rw [List.length_append, digL_len, ih, List.length_cons]; omega
theorem nameW_len (t : ByteArray) : (nameW t).length = 1 + t.size := by unfold nameW; rw [List.length_append, digL_len, bytesL_len]
theorem flat_bound {α : Type} {wr : α → Bs} {B : Nat} {l : List α} (h : ∀ x ∈ l, (wr x).length ≤ B) : (flatW wr l).length ≤ l.length * B := by
  induction l with
  | nil => simp [flatW]
  | cons x l ih =>
    have e : flatW wr (x :: l) = wr x ++ flatW wr l := by simp [flatW]
    rw [e, List.length_append, List.length_cons, Nat.add_mul, Nat.one_mul]
    have := h x (List.mem_cons_self ..)
    have := ih fun y hy => h y (List.mem_cons_of_mem _ hy)
    omega
def relsOk' (l : List RelM) : Prop := l.length ≤ 64 ∧ ∀ r ∈ l, relOk r
def B9 (z : Int) (B : Array Value) : Prop := B.toList = (digL 4 z).map fun x => .int .u8 x
theorem Hid.mk9 {P : Prop} (h : P) : Hid P := h
theorem dig3 {b g f : Int} {x : Bool} (hb : 0 ≤ b ∧ b ≤ 255) (hg : 0 ≤ g ∧ g ≤ 255) (hf : f = fixW x) : #[Value.int .u8 b, .int .u8 g, .int .u8 f].toList = (digL 1 b ++ digL 1 g ++ digL 1 (fixW x)).map fun x => .int .u8 x := by
  rw [dig1 hb.1 (by omega), dig1 hg.1 (by omega), hf, dig1 (by cases x <;> decide) (by cases x <;> decide)]
  rfl
theorem rels_bound {l : List RelM} (h : relsOk' l) : (listW relW l).length ≤ 2562 := by
  unfold listW
  rw [List.length_append, digL_len]
  have := flat_bound (wr := relW) (B := 40) (l := l) fun r hr => by rw [relW_len]; have := named_len (h.2 r hr).2.2.1; omega
  have := h.1
  omega
theorem funcW_len (f : FuncM) : (funcW f).length = 1 + f.name.size + 1 + (2 + 4 * f.code.length) + (listW relW f.rels).length := by
  unfold funcW listW
  simp only [List.length_append, digL_len, nameW_len, flat4_len]
  omega
theorem dataW_len (d : DataM) : (dataW d).length = 1 + d.name.size + 3 + 2 + (2 + d.bytes.length) + (listW relW d.rels).length := by
  unfold dataW bytesW
  simp only [List.length_append, digL_len, nameW_len]
  omega
theorem noteW_len (x : NoteM) : (noteW x).length = 2 + x.name.size := by
  unfold noteW
  simp only [List.length_append, digL_len, nameW_len]
  omega
theorem objW_len (p : ObjM) (h : objOk p) : (flatW funcW p.funcs).length + (flatW dataW p.datas).length + (flatW noteW p.notes).length ≤ 1900000 := by
  have h1 := flat_bound (wr := funcW) (B := 10700) (l := p.funcs) fun f hf => by
    have hk := h.1.2 f hf
    rw [funcW_len]; have := named_len hk.1; have := rels_bound hk.2.2.2; have := hk.2.2.1.1; omega
  have h2 := flat_bound (wr := dataW) (B := 6800) (l := p.datas) fun d hd => by
    have hk := h.2.1.2 d hd
    rw [dataW_len]; have := named_len hk.1; have := rels_bound hk.2.2.2.2.2; have := hk.2.2.2.2.1.1; omega
  have h3 := flat_bound (wr := noteW) (B := 40) (l := p.notes) fun x hx => by
    have hk := h.2.2.2 x hx
    rw [noteW_len]; have := named_len hk.1; omega
  have := h.1.1; have := h.2.1.1; have := h.2.2.1
  omega
set_option maxRecDepth 100000 in
set_option maxHeartbeats 8000000 in
theorem rwrite9 {A : Nat → Prop} {w : World} {v : Value} {p : ObjM} (h : IsObj A w v p) (hok : objOk p) :
    Calls Tryz.prog 16 #[v] w fun e w' => ∃ v', e = .returned v' ∧ OwnB w.heap.size w' v' (objW p) ∧ Below w.heap.size w w' := by
  obtain ⟨vf, vd, vn, rfl, hf, hd, hn⟩ := h
  obtain ⟨fa, fc, rfl, -, -, fx⟩ := LstA.open hf
  obtain ⟨da, dc, rfl, -, -, dx⟩ := LstA.open hd
  obtain ⟨na, nc, rfl, -, -, nx⟩ := LstA.open hn
  have hT := objW_len p hok
  obtain ⟨F, eF⟩ : ∃ F, p.funcs.length = F := ⟨_, rfl⟩
  obtain ⟨D, eD⟩ : ∃ D, p.datas.length = D := ⟨_, rfl⟩
  obtain ⟨N, eN⟩ : ∃ N, p.notes.length = N := ⟨_, rfl⟩
  have hF : (F : Int) ≤ 64 := by have := hok.1.1; omega
  have hD : (D : Int) ≤ 64 := by have := hok.2.1.1; omega
  have hN : (N : Int) ≤ 64 := by have := hok.2.2.1; omega
  rw [eF] at fx ⊢
  rw [eD] at dx ⊢
  rw [eN] at nx ⊢
  have EF : Hid (p.funcs.length = F ∧ p.datas.length = D ∧ p.notes.length = N) := ⟨eF, eD, eN⟩
  have HT : Hid ((flatW funcW p.funcs).length + (flatW dataW p.datas).length + (flatW noteW p.notes).length ≤ 1900000) := hT
  have OK : Hid ((∀ f ∈ p.funcs, funcOk f) ∧ (∀ d ∈ p.datas, dataOk d) ∧ ∀ x ∈ p.notes, noteOk x) := ⟨hok.1.2, hok.2.1.2, hok.2.2.2⟩
  have FX : Hid (∀ k, k < F → ∃ b off x, fa = some ⟨b, off, none⟩ ∧ A b ∧ p.funcs[k]? = some x ∧ FuncAt A w b (off + k * 4) x) := fx
  have DX : Hid (∀ k, k < D → ∃ b off x, da = some ⟨b, off, none⟩ ∧ A b ∧ p.datas[k]? = some x ∧ DataAt A w b (off + k * 7) x) := dx
  have NX : Hid (∀ k, k < N → ∃ b off x, na = some ⟨b, off, none⟩ ∧ A b ∧ p.notes[k]? = some x ∧ NoteAt w b (off + k * 2) x) := nx
  have UP : Hid (Below w.heap.size w (w.alloc (.cells #[.slice fa F fc, .slice da D dc, .slice na N nc] 34))) := keep_alloc8 (Below.refl _ _) _
  have X1 : Hid (XAt (w.alloc (.cells #[.slice fa F fc, .slice da D dc, .slice na N nc] 34)) w.heap.size [.slice fa F fc, .slice da D dc, .slice na N nc]) := XAt.new _ _ _
  have NUM : Hid (∀ (x : Int) (k : Nat) W, 0 ≤ x → x < 4294967296 → 1 ≤ k → k ≤ 4 → Calls Tryz.prog 32 #[.int .i64 x, .int .i64 k] W fun e w' => ∃ a c, e = .returned (.slice a k c) ∧ (Head a k c ∧ Bytes w' a k (gF (digL k x))) ∧ (∀ q, a = some q → q.block = W.heap.size) ∧ Below W.heap.size W w') := fun x k W h0 h1 h2 h3 => rnum9 x k W h0 h1 h2 h3
  have hsz : (w.alloc (.cells #[.slice fa F fc, .slice da D dc, .slice na N nc] 34)).heap.size = w.heap.size + 1 := by simp
  clear hf hd hn eF eD eN fx dx nx hok hT
  go_enter Tryz.func16, Tryz.ntmps16
  go_upto_region 1 with fail
  generalize w.alloc (.cells #[.slice fa F fc, .slice da D dc, .slice na N nc] 34) = w0 at UP X1 hsz ⊢
  have HS : Hid (w0.heap.size = w.heap.size + 1) := hsz
  have hX : Hid (w.heap.size < w0.heap.size) := by unfold Hid; omega
  clear hsz
  have CELLS : Hid (∀ W, Below w0.heap.size w0 W → W.cell? ⟨w.heap.size, 0, none⟩ = some (.slice fa F fc) ∧ W.cell? ⟨w.heap.size, 1, none⟩ = some (.slice da D dc) ∧ W.cell? ⟨w.heap.size, 2, none⟩ = some (.slice na N nc)) :=
    fun W h => ⟨(X1.out.later hX.out h).1 0 _ rfl, (X1.out.later hX.out h).1 1 _ rfl, (X1.out.later hX.out h).1 2 _ rfl⟩
  have OLD : Hid (∀ W q o u, Below w0.heap.size w0 W → w.cell? ⟨q, o, none⟩ = some u → W.cell? ⟨q, o, none⟩ = some u) := fun W q o u hW hc => cell_later' (cell_later' hc UP.out) hW
  have PUT : Hid (∀ {l : List RelM} {vr u : Value} {W : World} {out : Bs}, IsRels A w vr l → Below w0.heap.size w0 W → OwnB w0.heap.size W u out → relsOk' l → out.length + (listW relW l).length ≤ 3000000 → Calls Tryz.prog 35 #[u, vr] W fun e w' => ∃ v', e = .returned v' ∧ OwnB w0.heap.size w' v' (out ++ listW relW l) ∧ Below w0.heap.size W w') :=
    fun h hW hown hok hl => rputrels (h.keep (Stay.of_below UP.out)) (Nat.le_refl _) hW hown hW.size hok.2 hok.1 hl
  have hcv := Lib.run_convert_bytes_const (P := Tryz.prog) w0 45 5 #[.int .u8 83, .int .u8 80, .int .u8 76, .int .u8 49] 4 4 Tryz.underlying45 Tryz.underlying5
  go_upto_region 2 with fail
  clear hcv
  have B1 : Hid (Below w0.heap.size w0 (w0.alloc (.cells #[.int .u8 83, .int .u8 80, .int .u8 76, .int .u8 49] 5 (4, 5)))) := keep_alloc8 (Below.refl _ _) _
  have O1 : Hid (∀ W, Below (w0.alloc (.cells #[.int .u8 83, .int .u8 80, .int .u8 76, .int .u8 49] 5 (4, 5))).heap.size (w0.alloc (.cells #[.int .u8 83, .int .u8 80, .int .u8 76, .int .u8 49] 5 (4, 5))) W → ∀ b, some (⟨w0.heap.size, 0, none⟩ : Addr) = some b → ∀ j u, (splL.map fun x => Value.int .u8 x)[j]? = some u → W.cell? (b.add j) = some u) := fun W hW b e j u hu => by
    cases e
    rw [show (⟨w0.heap.size, 0, none⟩ : Addr).add j = ⟨w0.heap.size, j, none⟩ from by cases j <;> simp [Addr.add]]
    refine cell_later' ?_ hW
    rw [World.cell?_alloc_mark, ← Array.getElem?_toList]
    exact hu
  generalize w0.alloc (.cells #[.int .u8 83, .int .u8 80, .int .u8 76, .int .u8 49] 5 (4, 5)) = w1 at O1 B1 ⊢
  obtain ⟨i0, hi0, hz0, hz1, hz2⟩ := info_parts slB
  obtain ⟨c0, c1, c2⟩ := CELLS.out w1 B1.out
  go_upto_region 3 with (first
    | (go_at_call 32; refine (NUM.out (F : Int) 2 _ (by omega) (by omega) (by omega) (by omega)).mono ?_; rintro e w2 ⟨a1, c1', rfl, ⟨hh1, hb1⟩, -, b1⟩; obtain ⟨q1, f1, rfl, -⟩ := hb1.2.resolve_left (by omega))
    | (at_builtin; refine wpList_append_grows _ rfl (.tmp 13) (.tmp 17) 45 rfl 5 i0 _ 1 1 Tryz.underlying45 hi0 hz0 hz1 hz2 rfl (by decide) (some ⟨w0.heap.size, 0, none⟩) 4 4 (splL.map fun x => .int .u8 x) rfl (fun e => by cases e) rfl (O1.out _ b1) ⟨q1, f1, none⟩ 2 c1' ((digL 2 (F : Int)).map fun x => .int .u8 x) rfl rfl ((src_bytes rfl hh1 hb1).2 _ rfl) (by intro u hu; obtain ⟨y, _, rfl⟩ := List.mem_map.mp hu; rfl) (by omega) (by unfold maxLen; omega) (by omega) ?_; intro v3 w3 o3 g3))
  have B3 : Below w1.heap.size w1 w3 := Below.grown b1 g3 b1.size (fun q hq => by cases hq)
  have BB : Hid (Below w0.heap.size w0 w3) := B1.out.trans (B3.mono B1.out.size)
  have OO : Hid (OwnB w0.heap.size w3 v3 (splL ++ digL 2 (F : Int))) := own_less o3 (Nat.le_trans B1.out.size b1.size)
  clear c0 c1 c2 hh1 hb1 b1 B3 g3 o3 O1 B1 hi0 hz0 hz1 hz2
  go_wp2
  go_loopw [3, 4] (fun ov i wr => ∃ k : Nat, k ≤ F ∧ i = .int .i64 k ∧ OwnB w0.heap.size wr ov (splL ++ digL 2 (F : Int) ++ flatW funcW (p.funcs.take k)) ∧ Below w0.heap.size w0 wr) (fun _ i _ => F - (intOf i).toNat)
  case atStart => exact ⟨0, Nat.zero_le _, rfl, by rw [List.take_zero]; show OwnB w0.heap.size w3 v3 (splL ++ digL 2 (F : Int) ++ []); rw [List.append_nil]; exact OO.out, BB.out⟩
  case round =>
    clear OO BB
    obtain ⟨k, hk, rfl, hown, hbel⟩ := hrel
    have HB : Hid (Below w0.heap.size w0 wr) := hbel
    have HOW : Hid (OwnB w0.heap.size wr _ (splL ++ digL 2 (F : Int) ++ flatW funcW (p.funcs.take k))) := hown
    obtain ⟨c0, c1, c2⟩ := CELLS.out wr hbel
    clear hbel hown
    by_cases hlt : k < F
    · have hlt' : (k : Int) < F := by omega
      obtain ⟨q, off, ⟨xn, xb, xc, xr⟩, rfl, -, hx, vc, vr, x0, x1, x2, x3, hc, hr, -⟩ := FX.out k hlt
      have ok := OK.out.1 _ (List.mem_of_getElem? hx)
      dsimp only [funcOk] at ok x0 x1 x2 x3 hc hr
      have HX : Hid (p.funcs[k]? = some ⟨xn, xb, xc, xr⟩) := hx
      replace x0 := OLD.out wr _ _ _ HB.out x0
      replace x1 := OLD.out wr _ _ _ HB.out x1
      replace x2 := OLD.out wr _ _ _ HB.out x2
      replace x3 := OLD.out wr _ _ _ HB.out x3
      obtain ⟨kn, ⟨kb0, kb1⟩, ⟨kc0, kc1⟩, kr⟩ := ok
      have hns := named_len kn
      have SZ : Hid ((splL ++ digL 2 (F : Int) ++ flatW funcW (p.funcs.take k)).length + (1 + xn.size + 1 + (2 + 4 * xc.length) + (listW relW xr).length) ≤ 2000000 ∧ xn.size ≤ 32) := by
        have h1 := flat_le2 (wr := funcW) hx
        rw [funcW_len] at h1
        have := HT.out
        refine ⟨?_, hns.2⟩
        simp only [List.length_append, digL_len, show splL.length = 4 from rfl]
        dsimp only at h1
        omega
      obtain ⟨T, eT⟩ : ∃ T, splL ++ digL 2 (F : Int) ++ flatW funcW (p.funcs.take k) = T := ⟨_, rfl⟩
      have ET : Hid (splL ++ digL 2 (F : Int) ++ flatW funcW (p.funcs.take k) = T) := eT
      rw [eT] at HOW SZ
      have hw8 : IntKind.u8.wrap xb = xb := by simp [IntKind.wrap, IntKind.bits, IntKind.signed]; omega
      have KB : Hid (0 ≤ xb ∧ xb ≤ 255) := by unfold Hid; omega
      have KR : Hid (relsOk' xr) := kr
      have HR : Hid (IsRels A w vr xr) := hr
      obtain ⟨ca, cc, rfl, -, -, cx⟩ := LstA.open hc.1
      have CX : Hid (∀ j, j < xc.length → ∃ b off x, ca = some ⟨b, off, none⟩ ∧ A b ∧ xc[j]? = some x ∧ NumAt .u32 w b (off + j * 1) x) := cx
      have CW : Hid (∀ x ∈ xc, 0 ≤ x ∧ x < 4294967296) := kc1
      obtain ⟨C, eC⟩ : ∃ C, xc.length = C := ⟨_, rfl⟩
      have EC : Hid (xc.length = C) := eC
      have hC : (C : Int) ≤ 2000 := by omega
      rw [eC] at SZ CX x2
      have N3 : Hid (∀ W, Calls Tryz.prog 33 #[.string xn] W fun e w' => ∃ a c, e = .returned (.slice a (nameW xn).length c) ∧ w'.ownsRow W.heap.size 5 1 (.slice a (nameW xn).length c) (nameW xn).length ((nameW xn).map fun x => .int .u8 x) ∧ Below W.heap.size W w') := fun W => rname9 xn W (by omega)
      have hvr : Value.oneCell' vr = true ∨ True := .inr trivial
      clear hc hr cx kc0 kc1 kn kr kb0 kb1 hns hx eT eC hvr
      obtain ⟨ra, rc, rfl, -, -, -⟩ := LstA.open HR.out
      go_upto_region 7 with fail
      have H0 : Hid (Wt w0.heap.size wr.heap.size w0 [.string xn, .int .i64 xb, .slice ca C cc, .slice ra xr.length rc] T _ (wr.alloc (.cells #[.string xn, .int .i64 xb, .slice ca C cc, .slice ra xr.length rc] 25))) := Wt.new HOW.out HB.out (Nat.le_refl _) #[.string xn, .int .i64 xb, .slice ca C cc, .slice ra xr.length rc] 25
      generalize wr.alloc (.cells #[.string xn, .int .i64 xb, .slice ca C cc, .slice ra xr.length rc] 25) = w2 at H0 ⊢
      clear c0 c1 c2 x0 x1 x2 x3
      have y0 := H0.out.xa.1 0 _ rfl
      go_upto_region 8 with (first
        | (go_at_call 33; refine (N3.out _).mono ?_; rintro e w3 ⟨a1, c1, rfl, hb1, b1⟩)
        | (at_builtin; refine wpList_appX rfl (.tmp 31) (.tmp 34) rfl (H0.out.later b1) rfl a1 _ c1 (nameW xn) rfl rfl (src_own hb1) (by simp only [List.length_append, digL_len, nameW_len]; have := SZ.out; omega) ?_; intro v4 w4 H4))
      have H1 : Hid (Wt w0.heap.size wr.heap.size w0 _ (T ++ (nameW xn)) v4 w4) := H4
      clear H4 H0 y0 b1 hb1
      have eh : Hid (w4.heap.size = w4.heap.size) := rfl
      have y1 := H1.out.xa.1 1 _ rfl
      go_upto_region 9 with (at_builtin; refine wpList_appX rfl (.tmp 36) (.tmp 40) rfl (H1.out.later (keep_alloc8 (Below.refl _ _) _)) rfl (some ⟨w4.heap.size, 0, none⟩) 1 1 (digL 1 xb) rfl rfl (src_new _ _ _ _ (dig1_wrap KB.out.1 KB.out.2) 1) (by simp only [List.length_append, digL_len, nameW_len]; have := SZ.out; omega) ?_; intro v4 w4 H4)
      have H2 : Hid (Wt w0.heap.size wr.heap.size w0 _ (T ++ nameW xn ++ (digL 1 xb)) v4 w4) := H4
      clear H4 H1 y1
      have y2 := H2.out.xa.1 2 _ rfl
      go_upto_region 10 with (first
        | (go_at_call 32; refine (NUM.out (C : Int) 2 _ (by omega) (by omega) (by omega) (by omega)).mono ?_; rintro e w3 ⟨a1, c1, rfl, ⟨hh1, hb1⟩, -, b1⟩)
        | (at_builtin; refine wpList_appX rfl (.tmp 42) (.tmp 46) rfl (H2.out.later b1) rfl a1 2 c1 (digL 2 (C : Int)) rfl rfl (src_bytes rfl hh1 hb1) (by simp only [List.length_append, digL_len, nameW_len]; have := SZ.out; omega) ?_; intro v4 w4 H4))
      have H3 : Hid (Wt w0.heap.size wr.heap.size w0 _ (T ++ nameW xn ++ digL 1 xb ++ (digL 2 (C : Int))) v4 w4) := H4
      clear H4 H2 y2 b1 hb1 hh1
      obtain ⟨T1, eT1⟩ : ∃ T1, T ++ nameW xn ++ digL 1 xb ++ digL 2 (C : Int) = T1 := ⟨_, rfl⟩
      have ET1 : Hid (T ++ nameW xn ++ digL 1 xb ++ digL 2 (C : Int) = T1) := eT1
      have SZ1 : Hid (T1.length + (4 * C + (listW relW xr).length) ≤ 2000000) := by rw [← eT1]; simp only [Hid, List.length_append, digL_len, nameW_len]; have := SZ.out; omega
      rw [eT1] at H3
      clear eT1 eh
      go_wp2
      go_loopw [3, 6] (fun ov i wi => ∃ j : Nat, j ≤ C ∧ i = .int .i64 j ∧ Wt w0.heap.size wr.heap.size w0 [.string xn, .int .i64 xb, .slice ca C cc, .slice ra xr.length rc] (T1 ++ flatW (digL 4) (xc.take j)) ov wi) (fun _ i _ => C - (intOf i).toNat)
      case atStart => exact ⟨0, Nat.zero_le _, rfl, by rw [List.take_zero]; show Wt _ _ _ _ (T1 ++ []) _ _; rw [List.append_nil]; exact H3.out⟩
      case round =>
        obtain ⟨j, hj, rfl, hwt⟩ := hrel
        have HW := Hid.mk9 hwt
        clear hwt H3
        have y2 := HW.out.xa.1 2 _ rfl
        by_cases hjl : j < C
        · have hjl' : (j : Int) < C := by omega
          obtain ⟨q2, off2, z, rfl, -, hz, z0⟩ := CX.out j hjl
          unfold NumAt at z0
          rw [Nat.mul_one] at z0
          replace z0 := cell_base (cell_later' z0 UP.out) HW.out.low (Nat.lt_of_lt_of_le (World.block_lt_of_cell? w ⟨q2, _, none⟩ z0) UP.out.size)
          have kz := CW.out z (List.mem_of_getElem? hz)
          have KZ : Hid (0 ≤ z ∧ z < 4294967296) := kz
          have HZ : Hid (xc[j]? = some z) := hz
          obtain ⟨BZ, eZ⟩ : ∃ B, bytesOf z = B := ⟨_, rfl⟩
          have EZ : Hid (B9 z BZ) := by rw [← eZ]; exact dig4_bytes z kz.1 kz.2
          have PT : Hid (∀ W, Calls Tryz.prog 34 #[.int .u32 z] W fun e w' => e = .returned (.slice (some ⟨W.heap.size, 0, none⟩) 4 4) ∧ w' = W.alloc (.cells BZ 5)) := fun W => by rw [← eZ]; exact rput_any z W kz.1 kz.2
          have SZ2 : Hid ((T1 ++ flatW (digL 4) (xc.take j)).length + 4 ≤ 3000000) := by
            have := SZ1.out
            simp only [Hid, List.length_append, flat4_len, List.length_take]
            omega
          clear hz kz eZ
          go_wp2_with (first
            | (go_at_call 34; refine (PT.out _).mono ?_; rintro e w3 ⟨rfl, rfl⟩)
            | (at_builtin; refine wpList_appX rfl (.tmp 55) (.tmp 61) rfl (HW.out.later (keep_alloc8 (Below.refl _ _) _)) rfl _ 4 4 (digL 4 z) rfl rfl (src_new _ _ _ _ EZ.out 4) SZ2.out ?_; intro v4 w4 H4))
          go_roundw
          case rel =>
            refine ⟨j + 1, by omega, by go_num, ?_⟩
            rw [flat_next HZ.out, ← List.append_assoc]
            exact H4
          case measure => simp [intOf]; omega
        · obtain rfl : j = C := by omega
          have hw2 := HW.out
          rw [← EC.out, List.take_length] at hw2
          have HW2 := Hid.mk9 hw2
          clear hw2
          have y3 := HW2.out.xa.1 3 _ rfl
          clear HW
          go_wp2_with (go_at_call 35; refine (PUT.out HR.out HW2.out.low HW2.out.own KR.out (by simp only [List.length_append, flat4_len]; have := SZ1.out; have := EC.out; omega)).mono ?_; rintro e w5 ⟨v5, rfl, o5, b5⟩)
          go_roundw
          case rel =>
            refine ⟨k + 1, by omega, by go_num, ?_, HW2.out.low.trans b5⟩
            rw [flat_next HX.out, ← List.append_assoc, ET.out]
            have e : T ++ funcW ⟨xn, xb, xc, xr⟩ = T1 ++ flatW (digL 4) xc ++ listW relW xr := by
              rw [← ET1.out]; unfold funcW; rw [show listW (digL 4) xc = digL 2 (xc.length : Int) ++ flatW (digL 4) xc from rfl, EC.out]; simp only [List.append_assoc]
            rw [e]; exact o5
          case measure => simp [intOf]; omega
    · obtain rfl : k = F := by omega
      have how := HOW.out
      rw [← EF.out.1, List.take_length] at how
      have ew : splL ++ digL 2 (p.funcs.length : Int) ++ flatW funcW p.funcs = splL ++ listW funcW p.funcs := by unfold listW; rw [List.append_assoc]
      rw [ew] at how
      have HOF := Hid.mk9 how
      clear HOW how ew hk
      obtain ⟨U1, eU1⟩ : ∃ U, splL ++ listW funcW p.funcs = U := ⟨_, rfl⟩
      have EU1 : Hid (splL ++ listW funcW p.funcs = U1) := eU1
      have ZU1 : Hid (U1.length = 6 + (flatW funcW p.funcs).length) := by rw [← eU1]; unfold listW Hid; simp only [List.length_append, digL_len, show splL.length = 4 from rfl]; omega
      rw [eU1] at HOF
      clear eU1
      go_upto_region 15 with fail
      clear c0 c1 c2
      obtain ⟨c0, c1, c2⟩ := CELLS.out wr HB.out
      go_upto_region 16 with (first
        | (go_at_call 32; refine (NUM.out (D : Int) 2 _ (by omega) (by omega) (by omega) (by omega)).mono ?_; rintro e w2 ⟨a1, c1', rfl, ⟨hh1, hb1⟩, -, b1⟩)
        | (at_builtin; refine wpList_app9 rfl (.tmp 67) (.tmp 71) rfl w0.heap.size _ (U1) rfl (HOF.out.later b1) a1 2 c1' (digL 2 (D : Int)) rfl rfl (src_bytes rfl hh1 hb1) (by have := ZU1.out; have := HT.out; omega) (Nat.le_trans (HB.out).size b1.size) ?_; intro v3 w3 o3 b3 g3))
      have BB : Hid (Below w0.heap.size w0 w3) := (HB.out).trans ((b1.mono (HB.out).size).trans b3)
      have OO : Hid (OwnB w0.heap.size w3 v3 (U1 ++ digL 2 (D : Int))) := o3
      clear c0 c1 c2 hh1 hb1 b1 b3 g3 o3
      clear HOF HB
      go_wp2
      go_loopw [3, 7] (fun ov i wr => ∃ k : Nat, k ≤ D ∧ i = .int .i64 k ∧ OwnB w0.heap.size wr ov (U1 ++ digL 2 (D : Int) ++ flatW dataW (p.datas.take k)) ∧ Below w0.heap.size w0 wr) (fun _ i _ => D - (intOf i).toNat)
      case atStart => exact ⟨0, Nat.zero_le _, rfl, by rw [List.take_zero]; show OwnB w0.heap.size w3 v3 (U1 ++ digL 2 (D : Int) ++ []); rw [List.append_nil]; exact OO.out, BB.out⟩
      case round =>
        clear OO BB
        obtain ⟨k, hk, rfl, hown, hbel⟩ := hrel
        have HB : Hid (Below w0.heap.size w0 wr) := hbel
        have HOW : Hid (OwnB w0.heap.size wr _ (U1 ++ digL 2 (D : Int) ++ flatW dataW (p.datas.take k))) := hown
        obtain ⟨c0, c1, c2⟩ := CELLS.out wr hbel
        clear hbel hown
        by_cases hlt : k < D
        · have hlt' : (k : Int) < D := by omega
          obtain ⟨q, off, ⟨xn, xb, xg, xx, xz, xc, xr⟩, rfl, -, hx, vc, vr, x0, x1, x2, x3, x4, x5, x6, hc, hr, -⟩ := DX.out k hlt
          have ok := OK.out.2.1 _ (List.mem_of_getElem? hx)
          dsimp only [dataOk] at ok x0 x1 x2 x3 x4 x5 x6 hc hr
          have HX : Hid (p.datas[k]? = some ⟨xn, xb, xg, xx, xz, xc, xr⟩) := hx
          replace x0 := OLD.out wr _ _ _ HB.out x0
          replace x1 := OLD.out wr _ _ _ HB.out x1
          replace x2 := OLD.out wr _ _ _ HB.out x2
          replace x3 := OLD.out wr _ _ _ HB.out x3
          replace x4 := OLD.out wr _ _ _ HB.out x4
          replace x5 := OLD.out wr _ _ _ HB.out x5
          replace x6 := OLD.out wr _ _ _ HB.out x6
          obtain ⟨kn, ⟨kb0, kb1⟩, ⟨kg0, kg1⟩, ⟨kz0, kz1⟩, ⟨kc0, kc1⟩, kr⟩ := ok
          have hns := named_len kn
          have SZ : Hid ((U1 ++ digL 2 (D : Int) ++ flatW dataW (p.datas.take k)).length + (1 + xn.size + 3 + 2 + (2 + xc.length) + (listW relW xr).length) ≤ 2000000 ∧ xn.size ≤ 32) := by
            have h1 := flat_le2 (wr := dataW) hx
            rw [dataW_len] at h1
            have := HT.out; have := ZU1.out
            refine ⟨?_, hns.2⟩
            simp only [List.length_append, digL_len]
            dsimp only at h1
            omega
          obtain ⟨T, eT⟩ : ∃ T, U1 ++ digL 2 (D : Int) ++ flatW dataW (p.datas.take k) = T := ⟨_, rfl⟩
          have ET : Hid (U1 ++ digL 2 (D : Int) ++ flatW dataW (p.datas.take k) = T) := eT
          rw [eT] at HOW SZ
          have hw8 : IntKind.u8.wrap xb = xb := by simp [IntKind.wrap, IntKind.bits, IntKind.signed]; omega
          have hw9 : IntKind.u8.wrap xg = xg := by simp [IntKind.wrap, IntKind.bits, IntKind.signed]; omega
          have KB : Hid ((0 ≤ xb ∧ xb ≤ 255) ∧ (0 ≤ xg ∧ xg ≤ 255)) := by unfold Hid; omega
          have KR : Hid (relsOk' xr) := kr
          have HR : Hid (IsRels A w vr xr) := hr
          obtain ⟨ca, cc, rfl, ⟨ch, -⟩, cb, -⟩ := IsBytes.row hc
          have CB : Hid (Head ca xc.length cc ∧ Bytes w ca xc.length (gF xc)) := ⟨ch, cb⟩
          have hC : (xc.length : Int) ≤ 4096 := by omega
          have N3 : Hid (∀ W, Calls Tryz.prog 33 #[.string xn] W fun e w' => ∃ a c, e = .returned (.slice a (nameW xn).length c) ∧ w'.ownsRow W.heap.size 5 1 (.slice a (nameW xn).length c) (nameW xn).length ((nameW xn).map fun x => .int .u8 x) ∧ Below W.heap.size W w') := fun W => rname9 xn W (by omega)
          clear hc hr ch cb kc0 kc1 kn kr kb0 kb1 kg0 kg1 hns hx eT
          obtain ⟨ra, rc, rfl, -, -, -⟩ := LstA.open HR.out
          go_upto_region 20 with fail
          have H0 : Hid (Wt w0.heap.size wr.heap.size w0 [.string xn, .int .i64 xb, .int .i64 xg, .bool xx, .int .i64 xz, .slice ca xc.length cc, .slice ra xr.length rc] T _ (wr.alloc (.cells #[.string xn, .int .i64 xb, .int .i64 xg, .bool xx, .int .i64 xz, .slice ca xc.length cc, .slice ra xr.length rc] 48))) := Wt.new HOW.out HB.out (Nat.le_refl _) #[.string xn, .int .i64 xb, .int .i64 xg, .bool xx, .int .i64 xz, .slice ca xc.length cc, .slice ra xr.length rc] 48
          generalize wr.alloc (.cells #[.string xn, .int .i64 xb, .int .i64 xg, .bool xx, .int .i64 xz, .slice ca xc.length cc, .slice ra xr.length rc] 48) = w2 at H0 ⊢
          clear c0 c1 c2 x0 x1 x2 x3 x4 x5 x6
          have y0 := H0.out.xa.1 0 _ rfl
          go_upto_region 21 with (first
            | (go_at_call 33; refine (N3.out _).mono ?_; rintro e w3 ⟨a1, c1, rfl, hb1, b1⟩)
            | (at_builtin; refine wpList_appX rfl (.tmp 85) (.tmp 88) rfl (H0.out.later b1) rfl a1 _ c1 (nameW xn) rfl rfl (src_own hb1) (by simp only [List.length_append, digL_len, nameW_len]; have := SZ.out; omega) ?_; intro v4 w4 H4))
          have H1 : Hid (Wt w0.heap.size wr.heap.size w0 _ (T ++ (nameW xn)) v4 w4) := H4
          clear H4 H0 y0 b1 hb1
          have y3 := H1.out.xa.1 3 _ rfl
          cases xx
          · skip
            go_upto_region 24 with fail
            clear y3
            have y1 := H1.out.xa.1 1 _ rfl
            have y2 := H1.out.xa.1 2 _ rfl
            go_upto_region 25 with (at_builtin; refine wpList_appX rfl (.tmp 92) (.tmp 100) rfl (H1.out.later (keep_alloc8 (Below.refl _ _) _)) rfl (some ⟨w4.heap.size, 0, none⟩) 3 3 (digL 1 xb ++ digL 1 xg ++ digL 1 (fixW false)) rfl rfl (src_new _ _ _ _ (dig3 KB.out.1 KB.out.2 rfl) 3) (by simp only [List.length_append, digL_len, nameW_len]; have := SZ.out; omega) ?_; intro v4 w4 H4)
            have H2 : Hid (Wt w0.heap.size wr.heap.size w0 _ (T ++ nameW xn ++ (digL 1 xb ++ digL 1 xg ++ digL 1 (fixW false))) v4 w4) := H4
            clear H4 H1 y1 y2
            have y4 := H2.out.xa.1 4 _ rfl
            go_upto_region 26 with (first
              | (go_at_call 32; refine (NUM.out xz 2 _ (by omega) (by omega) (by omega) (by omega)).mono ?_; rintro e w3 ⟨a1, c1, rfl, ⟨hh1, hb1⟩, -, b1⟩)
              | (at_builtin; refine wpList_appX rfl (.tmp 102) (.tmp 105) rfl (H2.out.later b1) rfl a1 2 c1 (digL 2 xz) rfl rfl (src_bytes rfl hh1 hb1) (by simp only [List.length_append, digL_len, nameW_len]; have := SZ.out; omega) ?_; intro v4 w4 H4))
            have H3 : Hid (Wt w0.heap.size wr.heap.size w0 _ (T ++ nameW xn ++ (digL 1 xb ++ digL 1 xg ++ digL 1 (fixW false)) ++ (digL 2 xz)) v4 w4) := H4
            clear H4 H2 y4 b1 hb1 hh1
            have y5 := H3.out.xa.1 5 _ rfl
            go_upto_region 27 with (first
              | (go_at_call 32; refine (NUM.out (xc.length : Int) 2 _ (by omega) (by omega) (by omega) (by omega)).mono ?_; rintro e w3 ⟨a1, c1, rfl, ⟨hh1, hb1⟩, -, b1⟩)
              | (at_builtin; refine wpList_appX rfl (.tmp 107) (.tmp 111) rfl (H3.out.later b1) rfl a1 2 c1 (digL 2 (xc.length : Int)) rfl rfl (src_bytes rfl hh1 hb1) (by simp only [List.length_append, digL_len, nameW_len]; have := SZ.out; omega) ?_; intro v4 w4 H4))
            have H4a : Hid (Wt w0.heap.size wr.heap.size w0 _ (T ++ nameW xn ++ (digL 1 xb ++ digL 1 xg ++ digL 1 (fixW false)) ++ digL 2 xz ++ (digL 2 (xc.length : Int))) v4 w4) := H4
            clear H4 H3 y5 b1 hb1 hh1
            have y5 := H4a.out.xa.1 5 _ rfl
            go_upto_region 28 with (at_builtin; refine wpList_appX rfl (.tmp 113) (.tmp 115) rfl H4a.out rfl ca xc.length cc (xc) rfl rfl (src_bytes rfl CB.out.1 ((CB.out.2.later UP.out).later H4a.out.low)) (by simp only [List.length_append, digL_len, nameW_len]; have := SZ.out; omega) ?_; intro v4 w4 H4)
            have H5 : Hid (Wt w0.heap.size wr.heap.size w0 _ (T ++ nameW xn ++ (digL 1 xb ++ digL 1 xg ++ digL 1 (fixW false)) ++ digL 2 xz ++ digL 2 (xc.length : Int) ++ (xc)) v4 w4) := H4
            clear H4 H4a y5
            have y6 := H5.out.xa.1 6 _ rfl
            go_wp2_with (go_at_call 35; refine (PUT.out HR.out H5.out.low H5.out.own KR.out (by simp only [List.length_append, digL_len, nameW_len]; have := SZ.out; omega)).mono ?_; rintro e w5 ⟨v5, rfl, o5, b5⟩)
            go_roundw
            case rel =>
              refine ⟨k + 1, by omega, by go_num, ?_, H5.out.low.trans b5⟩
              rw [flat_next HX.out, ← List.append_assoc, ET.out]
              unfold dataW bytesW
              simp only [List.append_assoc] at o5 ⊢
              exact o5
            case measure => simp [intOf]; omega
          · skip
            go_upto_region 24 with fail
            clear y3
            have y1 := H1.out.xa.1 1 _ rfl
            have y2 := H1.out.xa.1 2 _ rfl
            go_upto_region 25 with (at_builtin; refine wpList_appX rfl (.tmp 92) (.tmp 100) rfl (H1.out.later (keep_alloc8 (Below.refl _ _) _)) rfl (some ⟨w4.heap.size, 0, none⟩) 3 3 (digL 1 xb ++ digL 1 xg ++ digL 1 (fixW true)) rfl rfl (src_new _ _ _ _ (dig3 KB.out.1 KB.out.2 rfl) 3) (by simp only [List.length_append, digL_len, nameW_len]; have := SZ.out; omega) ?_; intro v4 w4 H4)
            have H2 : Hid (Wt w0.heap.size wr.heap.size w0 _ (T ++ nameW xn ++ (digL 1 xb ++ digL 1 xg ++ digL 1 (fixW true))) v4 w4) := H4
            clear H4 H1 y1 y2
            have y4 := H2.out.xa.1 4 _ rfl
            go_upto_region 26 with (first
              | (go_at_call 32; refine (NUM.out xz 2 _ (by omega) (by omega) (by omega) (by omega)).mono ?_; rintro e w3 ⟨a1, c1, rfl, ⟨hh1, hb1⟩, -, b1⟩)
              | (at_builtin; refine wpList_appX rfl (.tmp 102) (.tmp 105) rfl (H2.out.later b1) rfl a1 2 c1 (digL 2 xz) rfl rfl (src_bytes rfl hh1 hb1) (by simp only [List.length_append, digL_len, nameW_len]; have := SZ.out; omega) ?_; intro v4 w4 H4))
            have H3 : Hid (Wt w0.heap.size wr.heap.size w0 _ (T ++ nameW xn ++ (digL 1 xb ++ digL 1 xg ++ digL 1 (fixW true)) ++ (digL 2 xz)) v4 w4) := H4
            clear H4 H2 y4 b1 hb1 hh1
            have y5 := H3.out.xa.1 5 _ rfl
            go_upto_region 27 with (first
              | (go_at_call 32; refine (NUM.out (xc.length : Int) 2 _ (by omega) (by omega) (by omega) (by omega)).mono ?_; rintro e w3 ⟨a1, c1, rfl, ⟨hh1, hb1⟩, -, b1⟩)
              | (at_builtin; refine wpList_appX rfl (.tmp 107) (.tmp 111) rfl (H3.out.later b1) rfl a1 2 c1 (digL 2 (xc.length : Int)) rfl rfl (src_bytes rfl hh1 hb1) (by simp only [List.length_append, digL_len, nameW_len]; have := SZ.out; omega) ?_; intro v4 w4 H4))
            have H4a : Hid (Wt w0.heap.size wr.heap.size w0 _ (T ++ nameW xn ++ (digL 1 xb ++ digL 1 xg ++ digL 1 (fixW true)) ++ digL 2 xz ++ (digL 2 (xc.length : Int))) v4 w4) := H4
            clear H4 H3 y5 b1 hb1 hh1
            have y5 := H4a.out.xa.1 5 _ rfl
            go_upto_region 28 with (at_builtin; refine wpList_appX rfl (.tmp 113) (.tmp 115) rfl H4a.out rfl ca xc.length cc (xc) rfl rfl (src_bytes rfl CB.out.1 ((CB.out.2.later UP.out).later H4a.out.low)) (by simp only [List.length_append, digL_len, nameW_len]; have := SZ.out; omega) ?_; intro v4 w4 H4)
            have H5 : Hid (Wt w0.heap.size wr.heap.size w0 _ (T ++ nameW xn ++ (digL 1 xb ++ digL 1 xg ++ digL 1 (fixW true)) ++ digL 2 xz ++ digL 2 (xc.length : Int) ++ (xc)) v4 w4) := H4
            clear H4 H4a y5
            have y6 := H5.out.xa.1 6 _ rfl
            go_wp2_with (go_at_call 35; refine (PUT.out HR.out H5.out.low H5.out.own KR.out (by simp only [List.length_append, digL_len, nameW_len]; have := SZ.out; omega)).mono ?_; rintro e w5 ⟨v5, rfl, o5, b5⟩)
            go_roundw
            case rel =>
              refine ⟨k + 1, by omega, by go_num, ?_, H5.out.low.trans b5⟩
              rw [flat_next HX.out, ← List.append_assoc, ET.out]
              unfold dataW bytesW
              simp only [List.append_assoc] at o5 ⊢
              exact o5
            case measure => simp [intOf]; omega
        · obtain rfl : k = D := by omega
          have how := HOW.out
          rw [← EF.out.2.1, List.take_length] at how
          have ew : U1 ++ digL 2 (p.datas.length : Int) ++ flatW dataW p.datas = U1 ++ listW dataW p.datas := by unfold listW; rw [List.append_assoc]
          rw [ew] at how
          have HOD := Hid.mk9 how
          clear HOW how ew hk
          obtain ⟨U2, eU2⟩ : ∃ U, U1 ++ listW dataW p.datas = U := ⟨_, rfl⟩
          have EU2 : Hid (U1 ++ listW dataW p.datas = U2) := eU2
          have ZU2 : Hid (U2.length = 8 + (flatW funcW p.funcs).length + (flatW dataW p.datas).length) := by rw [← eU2]; unfold listW Hid; simp only [List.length_append, digL_len]; have := ZU1.out; omega
          rw [eU2] at HOD
          clear eU2
          go_upto_region 29 with fail
          clear c0 c1 c2
          obtain ⟨c0, c1, c2⟩ := CELLS.out wr HB.out
          go_upto_region 30 with (first
            | (go_at_call 32; refine (NUM.out (N : Int) 2 _ (by omega) (by omega) (by omega) (by omega)).mono ?_; rintro e w2 ⟨a1, c1', rfl, ⟨hh1, hb1⟩, -, b1⟩)
            | (at_builtin; refine wpList_app9 rfl (.tmp 121) (.tmp 125) rfl w0.heap.size _ (U2) rfl (HOD.out.later b1) a1 2 c1' (digL 2 (N : Int)) rfl rfl (src_bytes rfl hh1 hb1) (by have := ZU2.out; have := HT.out; omega) (Nat.le_trans (HB.out).size b1.size) ?_; intro v3 w3 o3 b3 g3))
          have BB : Hid (Below w0.heap.size w0 w3) := (HB.out).trans ((b1.mono (HB.out).size).trans b3)
          have OO : Hid (OwnB w0.heap.size w3 v3 (U2 ++ digL 2 (N : Int))) := o3
          clear c0 c1 c2 hh1 hb1 b1 b3 g3 o3
          clear HOD HB
          go_wp2
          go_loopw [3, 10] (fun ov i wr => ∃ k : Nat, k ≤ N ∧ i = .int .i64 k ∧ OwnB w0.heap.size wr ov (U2 ++ digL 2 (N : Int) ++ flatW noteW (p.notes.take k)) ∧ Below w0.heap.size w0 wr) (fun _ i _ => N - (intOf i).toNat)
          case atStart => exact ⟨0, Nat.zero_le _, rfl, by rw [List.take_zero]; show OwnB w0.heap.size w3 v3 (U2 ++ digL 2 (N : Int) ++ []); rw [List.append_nil]; exact OO.out, BB.out⟩
          case round =>
            clear OO BB
            obtain ⟨k, hk, rfl, hown, hbel⟩ := hrel
            have HB : Hid (Below w0.heap.size w0 wr) := hbel
            have HOW : Hid (OwnB w0.heap.size wr _ (U2 ++ digL 2 (N : Int) ++ flatW noteW (p.notes.take k))) := hown
            obtain ⟨c0, c1, c2⟩ := CELLS.out wr hbel
            clear hbel hown
            by_cases hlt : k < N
            · have hlt' : (k : Int) < N := by omega
              obtain ⟨q, off, ⟨xn, xk⟩, rfl, -, hx, x0, x1, -⟩ := NX.out k hlt
              have ok := OK.out.2.2 _ (List.mem_of_getElem? hx)
              dsimp only [noteOk] at ok x0 x1 
              have HX : Hid (p.notes[k]? = some ⟨xn, xk⟩) := hx
              have y1 := x1
              replace x0 := OLD.out wr _ _ _ HB.out x0
              replace x1 := OLD.out wr _ _ _ HB.out x1
              obtain ⟨kn, kk0, kk1⟩ := ok
              have hns := named_len kn
              have SZ : Hid ((U2 ++ digL 2 (N : Int) ++ flatW noteW (p.notes.take k)).length + (2 + xn.size) ≤ 2000000 ∧ xn.size ≤ 32) := by
                have h1 := flat_le2 (wr := noteW) hx
                rw [noteW_len] at h1
                have := HT.out; have := ZU2.out
                refine ⟨?_, hns.2⟩
                simp only [List.length_append, digL_len]
                dsimp only at h1
                omega
              obtain ⟨T, eT⟩ : ∃ T, U2 ++ digL 2 (N : Int) ++ flatW noteW (p.notes.take k) = T := ⟨_, rfl⟩
              have ET : Hid (U2 ++ digL 2 (N : Int) ++ flatW noteW (p.notes.take k) = T) := eT
              rw [eT] at HOW SZ
              have hw8 : IntKind.u8.wrap xk = xk := by simp [IntKind.wrap, IntKind.bits, IntKind.signed]; omega
              have KK : Hid (0 ≤ xk ∧ xk ≤ 255) := ⟨kk0, kk1⟩
              have N3 : Hid (∀ W, Calls Tryz.prog 33 #[.string xn] W fun e w' => ∃ a c, e = .returned (.slice a (nameW xn).length c) ∧ w'.ownsRow W.heap.size 5 1 (.slice a (nameW xn).length c) (nameW xn).length ((nameW xn).map fun x => .int .u8 x) ∧ Below W.heap.size W w') := fun W => rname9 xn W (by omega)
              have X1' : Hid (∀ W, Below w0.heap.size w0 W → W.cell? ⟨q, off + k * 2 + 1, none⟩ = some (.int .i64 xk)) := fun W hW => OLD.out W _ _ _ hW y1
              clear kn kk0 kk1 hns hx eT x1 y1
              go_upto_region 34 with (first
                | (go_at_call 33; refine (N3.out _).mono ?_; rintro e w3 ⟨a1, c1, rfl, hb1, b1⟩)
                | (at_builtin; refine wpList_app9 rfl (.tmp 134) (.tmp 141) rfl w0.heap.size _ T rfl (HOW.out.later b1) a1 _ c1 (nameW xn) rfl rfl (src_own hb1) (by rw [nameW_len]; have := SZ.out; omega) (Nat.le_trans HB.out.size b1.size) ?_; intro v4 w4 o4 b4 g4))
              have B4 : Hid (Below w0.heap.size w0 w4) := HB.out.trans ((b1.mono HB.out.size).trans b4)
              have O4 : Hid (OwnB w0.heap.size w4 v4 (T ++ nameW xn)) := o4
              clear c0 c2 hb1 b1 b4 g4 o4 x0
              obtain ⟨d0, d1, d2⟩ := CELLS.out w4 B4.out
              have x1 := X1'.out w4 B4.out
              go_wp2_with (at_builtin; refine wpList_app9 rfl (.tmp 143) (.tmp 151) rfl w0.heap.size _ (T ++ nameW xn) rfl (O4.out.later (keep_alloc8 (Below.refl _ _) _)) (some ⟨w4.heap.size, 0, none⟩) 1 1 (digL 1 xk) rfl rfl (src_new _ _ _ _ (dig1_wrap KK.out.1 KK.out.2) 1) (by rw [List.length_append, nameW_len]; have := SZ.out; omega) (Nat.le_trans B4.out.size (keep_alloc8 (Below.refl _ _) _).size) ?_; intro v5 w5 o5 b5 g5)
              go_roundw
              case rel =>
                refine ⟨k + 1, by omega, by go_num, ?_, B4.out.trans (((keep_alloc8 (Below.refl _ w4) (.cells #[.int .u8 xk] 5)).mono B4.out.size).trans b5)⟩
                rw [flat_next HX.out, ← List.append_assoc, ET.out]
                unfold noteW
                rw [← List.append_assoc]
                exact o5
              case measure => simp [intOf]; omega
            · obtain rfl : k = N := by omega
              have how := HOW.out
              rw [← EF.out.2.2, List.take_length] at how
              have ew : U2 ++ digL 2 (p.notes.length : Int) ++ flatW noteW p.notes = U2 ++ listW noteW p.notes := by unfold listW; rw [List.append_assoc]
              rw [ew] at how
              have HON := Hid.mk9 how
              clear HOW how ew hk
              go_wp2
              go_ret
              refine ⟨_, rfl, ?_, UP.out.trans (HB.out.mono (Nat.le_of_lt hX.out))⟩
              have e : objW p = U2 ++ listW noteW p.notes := by rw [← EU2.out, ← EU1.out]; unfold objW; simp only [List.append_assoc]
              rw [e]; exact own_less HON.out (Nat.le_of_lt hX.out)
end Go.Proofs.YtnejpldbokodaaaGreatDoor
