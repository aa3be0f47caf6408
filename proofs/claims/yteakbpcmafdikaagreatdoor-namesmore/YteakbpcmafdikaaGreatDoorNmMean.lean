/- What names mean, as the code's maps have it; relocations resolved by it. No condition. What names mean, laid in a map; relocations resolved by it. No condition. Relocations resolved by the map of what names mean. No condition. Are objects alike? As the document says it. Programs alike, as the document's answer has it. -/
import Derived.Test.YteakbpcmafdikaaGreatDoorNamChoose
import Derived.Test.YteakbpcmafdikaaGreatDoorNamRels
import Derived.Test.YteakbpcmafdikaaGreatDoorNmOwn
namespace Go.Proofs.YteakbpcmafdikaaGreatDoor
open Go.ChangeShapes Go.WideShapes Go.ChangeAt Go.RowKit Go.Maps
set_option linter.unusedVariables false
set_option linter.unusedSimpArgs false
theorem MeansAt.later {w w' : World} {b n : Nat} {M : Means} (h : MeansAt w b n M) (hb : Below w.heap.size w w') : MeansAt w' b n M := MapAt.later h hb
theorem wf11 {x : Int} (h1 : -2 ≤ x) (h2 : x ≤ 100000) : (Lit.int .i64 x).wf = true := WalkArith.wf_i64 (by omega)
set_option maxRecDepth 100000 in
theorem keyof_any (o : Int) (s : ByteArray) (b : Int) (w : World) :
    Calls Tryz.prog 57 #[.int .i64 o, .string s, .int .i64 b] w fun e w' => e = .returned (.agg #[.int .i64 (if b = 3 then o else -1), .string s]) ∧ Below w.heap.size w w' := by
  have X1 : Hid (XAt (w.alloc (.cells #[.int .i64 0, .string ⟨#[]⟩] 124)) w.heap.size [.int .i64 0, .string ⟨#[]⟩]) := XAt.new _ _ _
  by_cases h : b = 3
  · have g : (b == 3) = true := by simpa using h
    rw [if_pos h]
    clear h
    go_enter Tryz.func57, Tryz.ntmps57
    go_wp2
    first
    | exact bodyPost_ret (results_cell Tryz.results57 _ w.heap.size (by first | rfl | simp) _ [.int .i64 o, .string s] ((X1.out.set 0 (by simp) _).set 1 (by simp) _) Tryz.underlying124 rfl (by kernel_rfl)) rfl ⟨rfl, ((keep_alloc8 (Below.refl _ _) _).setCell (p := ⟨w.heap.size, 0, none⟩) (Nat.le_refl _) _).setCell (p := ⟨w.heap.size, 1, none⟩) (Nat.le_refl _) _⟩
    | exact bodyPost_ret (results_cell Tryz.results57 _ w.heap.size (by first | rfl | simp) _ [.int .i64 o, .string s] (XAt.new w _ _) Tryz.underlying124 rfl (by kernel_rfl)) rfl ⟨rfl, keep_alloc8 (Below.refl _ _) _⟩
  · have g : (b == 3) = false := by simpa using h
    rw [if_neg h]
    clear h
    go_enter Tryz.func57, Tryz.ntmps57
    go_wp2
    first
    | exact bodyPost_ret (results_cell Tryz.results57 _ w.heap.size (by first | rfl | simp) _ [.int .i64 (-1), .string s] ((X1.out.set 0 (by simp) _).set 1 (by simp) _) Tryz.underlying124 rfl (by kernel_rfl)) rfl ⟨rfl, ((keep_alloc8 (Below.refl _ _) _).setCell (p := ⟨w.heap.size, 0, none⟩) (Nat.le_refl _) _).setCell (p := ⟨w.heap.size, 1, none⟩) (Nat.le_refl _) _⟩
    | exact bodyPost_ret (results_cell Tryz.results57 _ w.heap.size (by first | rfl | simp) _ [.int .i64 (-1), .string s] (XAt.new w _ _) Tryz.underlying124 rfl (by kernel_rfl)) rfl ⟨rfl, keep_alloc8 (Below.refl _ _) _⟩
/-- What a look-up by both keys ends in, in memory. -/
def foundV : Option (Bool × Nat) → Value
  | none => .tuple #[.agg #[.bool false, .int .i64 0], .bool false]
  | some v => .tuple #[.agg #[.bool v.1, .int .i64 (v.2 : Int)], .bool true]
set_option maxRecDepth 100000 in
set_option maxHeartbeats 1000000 in
theorem find_any {w : World} {b n : Nat} {M : Means} (h : MeansAt w b n M) (o : Nat) (ho : o ≤ 1000) (s : ByteArray) (hs : s.size ≤ maxLen) :
    Calls Tryz.prog 58 #[.map (some b), .int .i64 (o : Int), .string s] w fun e w' => e = .returned (foundV ((M (o, s)).or (M (-1, s)))) ∧ Below w.heap.size w w' := by
  have HM : Hid (MeansAt w b n M) := h
  have KO : Hid ((Lit.int .i64 (o : Int)).wf = true ∧ s.size ≤ maxLen) := ⟨wf11 (by omega) (by omega), hs⟩
  have KN : Hid ((Lit.int .i64 (-1)).wf = true ∧ s.size ≤ maxLen) := ⟨wf11 (by omega) (by omega), hs⟩
  have UP1 : Hid (Below w.heap.size w (w.alloc (.cells #[.bool false, .int .i64 0] 122))) := keep_alloc8 (Below.refl _ _) _
  have X1 : Hid (XAt (w.alloc (.cells #[.bool false, .int .i64 0] 122)) w.heap.size [.bool false, .int .i64 0]) := XAt.new _ _ _
  clear h hs
  cases h1 : M ((o : Int), s) with
  | some v =>
    obtain ⟨d, p⟩ := v
    have H1 : Hid (M ((o : Int), s) = some (d, p)) := h1
    have UP2 : Hid (Below w.heap.size w ((w.alloc (.cells #[.bool false, .int .i64 0] 122)).alloc (.cells #[.bool d, .int .i64 (p : Int)] 122))) := keep_alloc8 UP1.out _
    have X2 : Hid (XAt ((w.alloc (.cells #[.bool false, .int .i64 0] 122)).alloc (.cells #[.bool d, .int .i64 (p : Int)] 122)) w.heap.size [.bool false, .int .i64 0]) := X1.out.later (by simp) (keep_alloc8 (Below.refl _ _) _)
    clear h1
    go_enter Tryz.func58, Tryz.ntmps58
    go_wp2_with (at_lookup; refine wpList_means_ok (by rfl) (.tmp 13) (.tmp 16) (by rfl) (HM.out.later UP1.out) (by rfl) (o : Int) s (by rfl) KO.out _ H1.out (.agg #[.bool d, .int .i64 (p : Int)]) rfl true rfl ?_)
    exact bodyPost_ret (results_cell_tmp Tryz.results58 _ w.heap.size (by first | rfl | simp) _ [.bool d, .int .i64 (p : Int)] ((XAt.new w #[.bool d, .int .i64 (p : Int)] 122).later (by simp) (keep_alloc8 (Below.refl _ _) _)) Tryz.underlying122 rfl (by kernel_rfl) (.bool true) (by first | rfl | simp)) rfl
      ⟨rfl, keep_alloc8 (keep_alloc8 (Below.refl _ _) _) _⟩
  | none =>
    have H1 : Hid (M ((o : Int), s) = none) := h1
    have UP2 : Hid (Below w.heap.size w ((w.alloc (.cells #[.bool false, .int .i64 0] 122)).alloc (.cells #[.bool false, .int .i64 0] 122))) := keep_alloc8 UP1.out _
    rw [Option.none_or]
    clear h1
    obtain ⟨d, p, c, H2, E⟩ : ∃ (d : Bool) (p : Nat) (c : Bool), Hid (∃ r : Option (Bool × Nat), M (-1, s) = r ∧ r.elim (.agg #[.bool false, .int .i64 0]) meanV = .agg #[.bool d, .int .i64 (p : Int)] ∧ r.isSome = c) ∧ foundV (M (-1, s)) = .tuple #[.agg #[.bool d, .int .i64 (p : Int)], .bool c] := by
      cases h2 : M (-1, s) with
      | none => exact ⟨false, 0, false, ⟨none, rfl, rfl, rfl⟩, rfl⟩
      | some v => exact ⟨v.1, v.2, true, ⟨some v, rfl, rfl, rfl⟩, rfl⟩
    rw [E]
    clear E
    have UP3 : Hid (Below w.heap.size w (((w.alloc (.cells #[.bool false, .int .i64 0] 122)).alloc (.cells #[.bool false, .int .i64 0] 122)).alloc (.cells #[.bool d, .int .i64 (p : Int)] 122))) := keep_alloc8 UP2.out _
    have X3 : Hid (XAt (((w.alloc (.cells #[.bool false, .int .i64 0] 122)).alloc (.cells #[.bool false, .int .i64 0] 122)).alloc (.cells #[.bool d, .int .i64 (p : Int)] 122)) w.heap.size [.bool false, .int .i64 0]) := X1.out.later (by simp) (keep_alloc8 (keep_alloc8 (Below.refl _ _) _) _)
    obtain ⟨r, hr, hv, hc⟩ := H2.out
    have HR : Hid (M (-1, s) = r) := hr
    have HV : Hid (r.elim (.agg #[.bool false, .int .i64 0]) meanV = .agg #[.bool d, .int .i64 (p : Int)]) := hv
    have HC : Hid (r.isSome = c) := hc
    clear hr hv hc H2
    go_enter Tryz.func58, Tryz.ntmps58
    go_wp2_with (first
      | (at_lookup; refine wpList_means_ok (by rfl) (.tmp 13) (.tmp 16) (by rfl) (HM.out.later UP1.out) (by rfl) (o : Int) s (by rfl) KO.out _ H1.out (.agg #[.bool false, .int .i64 0]) rfl false rfl ?_)
      | (at_lookup; refine wpList_means_ok (by rfl) (.tmp 23) (.tmp 25) (by rfl) (HM.out.later UP2.out) (by rfl) (-1) s (by rfl) KN.out _ HR.out (.agg #[.bool d, .int .i64 (p : Int)]) HV.out c HC.out ?_))
    exact bodyPost_ret (results_cell_tmp Tryz.results58 _ w.heap.size (by first | rfl | simp) _ [.bool d, .int .i64 (p : Int)] ((XAt.new w #[.bool d, .int .i64 (p : Int)] 122).later (by simp) (keep_alloc8 (keep_alloc8 (Below.refl _ _) _) _)) Tryz.underlying122 rfl (by kernel_rfl) (.bool c) (by first | rfl | simp)) rfl
      ⟨rfl, keep_alloc8 (keep_alloc8 (keep_alloc8 (Below.refl _ _) _) _) _⟩
/-- The place that a program begins at, or what is wrong. -/
def enterZ (r : Option (Bool × Nat)) : Int × Int := match r with
  | none => (0, 6)
  | some v => if v.1 = true then (0, 9) else ((v.2 : Int), 0)
set_option maxRecDepth 100000 in
set_option maxHeartbeats 1000000 in
theorem enter_any {w : World} {b n : Nat} {M : Means} (h : MeansAt w b n M) :
    Calls Tryz.prog 40 #[.map (some b)] w fun e w' => e = .returned (.tuple #[.int .i64 (enterZ (M (-1, mainT))).1, .int .i64 (enterZ (M (-1, mainT))).2]) ∧ Below w.heap.size w w' := by
  have HM : Hid (MeansAt w b n M) := h
  have KN : Hid ((Lit.int .i64 (-1)).wf = true ∧ mainT.size ≤ maxLen) := ⟨wf11 (by omega) (by omega), by show 4 ≤ maxLen; unfold maxLen; omega⟩
  clear h
  cases h1 : M (-1, mainT) with
  | none =>
    have H1 : Hid (M (-1, mainT) = none) := h1
    show Calls Tryz.prog 40 #[.map (some b)] w fun e w' => e = .returned (.tuple #[.int .i64 0, .int .i64 6]) ∧ Below w.heap.size w w'
    clear h1
    go_enter Tryz.func40, Tryz.ntmps40
    go_wp2_with (at_lookup; refine wpList_means_ok (by rfl) (.tmp 7) (.tmp 8) (by rfl) HM.out (by rfl) (-1) mainT (by rfl) KN.out _ H1.out (.agg #[.bool false, .int .i64 0]) rfl false rfl ?_)
    go_ret2
    exact ⟨rfl, keep_alloc8 (Below.refl _ _) _⟩
  | some v =>
    obtain ⟨d, p⟩ := v
    have H1 : Hid (M (-1, mainT) = some (d, p)) := h1
    clear h1
    cases d
    · show Calls Tryz.prog 40 #[.map (some b)] w fun e w' => e = .returned (.tuple #[.int .i64 (p : Int), .int .i64 0]) ∧ Below w.heap.size w w'
      go_enter Tryz.func40, Tryz.ntmps40
      go_wp2_with (at_lookup; refine wpList_means_ok (by rfl) (.tmp 7) (.tmp 8) (by rfl) HM.out (by rfl) (-1) mainT (by rfl) KN.out _ H1.out (.agg #[.bool false, .int .i64 (p : Int)]) rfl true rfl ?_)
      go_ret2
      exact ⟨rfl, keep_alloc8 (Below.refl _ _) _⟩
    · show Calls Tryz.prog 40 #[.map (some b)] w fun e w' => e = .returned (.tuple #[.int .i64 0, .int .i64 9]) ∧ Below w.heap.size w w'
      go_enter Tryz.func40, Tryz.ntmps40
      go_wp2_with (at_lookup; refine wpList_means_ok (by rfl) (.tmp 7) (.tmp 8) (by rfl) HM.out (by rfl) (-1) mainT (by rfl) KN.out _ H1.out (.agg #[.bool true, .int .i64 (p : Int)]) rfl true rfl ?_)
      go_ret2
      exact ⟨rfl, keep_alloc8 (Below.refl _ _) _⟩
open Go.ChangeShapes Go.WideShapes Go.ChangeAt Go.RowKit Go.Maps
set_option linter.unusedVariables false
set_option linter.unusedSimpArgs false
theorem pfC_len (x : PF) : (pfC x).length = 5 := rfl
theorem pdC_len (x : PD) : (pdC x).length = 8 := rfl
/-- Cells of an element there. -/
def CellsAt {α : Type} (cells : α → List Value) (w : World) (b o : Nat) (x : α) : Prop := ∀ j u, (cells x)[j]? = some u → w.cell? ⟨b, o + j, none⟩ = some u
theorem own_cells {α : Type} {cells : α → List Value} {sz : Nat} (hc : ∀ x, (cells x).length = sz) {w : World} {base : Nat} {e : TypeId} {v : Value} {l : List α} (h : w.ownsRow base e sz v l.length (l.flatMap cells)) :
    LstA sz (CellsAt cells w) (fun k => base ≤ k ∧ k < w.heap.size) v l := own_lst hc h fun b o x _ hc => hc
/-- The key of a part. -/
def keyP (o : Nat) (b : Int) (n : ByteArray) : Int × ByteArray := (if b = 3 then (o : Int) else -1, n)
set_option maxRecDepth 100000 in
set_option maxHeartbeats 4000000 in
theorem means_any {A : Nat → Prop} {w0 w : World} {base : Nat} {vf vd : Value} {LF : List PF} {LD : List PD} (h : Chn A w0 base vf vd LF LD w) (hl : LF.length + LD.length ≤ 3000) (ho : (∀ x ∈ LF, x.1 ≤ 1000) ∧ ∀ x ∈ LD, x.1 ≤ 1000)
    {fs ds : List ItemM} (hf : fs.length = LF.length ∧ ∀ (i : Nat) x, LF[i]? = some x → ∃ y, fs[i]? = some y ∧ keyI y = keyP x.1 x.2.1.bind x.2.1.name) (hd : ds.length = LD.length ∧ ∀ (i : Nat) x, LD[i]? = some x → ∃ y, ds[i]? = some y ∧ keyI y = keyP x.1 x.2.1.bind x.2.1.name) :
    Calls Tryz.prog 39 #[.agg #[vf, vd]] w fun e w' => (∃ b n M, e = .returned (.map (some b)) ∧ MeansAt w' b n M ∧ meansOk fs ds fs.length ds.length M) ∧ Below w.heap.size w w' := by
  have lf := own_cells pfC_len h.f
  have ld := own_cells pdC_len h.d
  have EF : Hid (∀ x ∈ LF, x.2.1.name.size ≤ maxLen) := fun x hx => (h.ef x hx).2.2
  have ED : Hid (∀ x ∈ LD, x.2.1.name.size ≤ maxLen) := fun x hx => (h.ed x hx).2.2
  have WF : Hid (∀ x ∈ LF, ∃ ca cc ra rc cn rn, x.2.2.1 = .slice ca cn cc ∧ x.2.2.2 = .slice ra rn rc) := fun x hx => by
    obtain ⟨⟨⟨ca, cc, e1, _⟩, _⟩, ⟨ra, rc, e2, _⟩, _⟩ := h.ef x hx
    exact ⟨ca, cc, ra, rc, _, _, e1, e2⟩
  have WD : Hid (∀ x ∈ LD, ∃ ca cc ra rc cn rn, x.2.2.1 = .slice ca cn cc ∧ x.2.2.2 = .slice ra rn rc) := fun x hx => by
    obtain ⟨⟨⟨ca, cc, e1, _⟩, _⟩, ⟨ra, rc, e2, _⟩, _⟩ := h.ed x hx
    exact ⟨ca, cc, ra, rc, _, _, e1, e2⟩
  obtain ⟨fa, fc, rfl, -, -, fx⟩ := LstA.open lf
  obtain ⟨da, dc, rfl, -, -, dx⟩ := LstA.open ld
  have KF : Hid (∀ (i : Nat) x, LF[i]? = some x → ∃ y, fs[i]? = some y ∧ keyI y = keyP x.1 x.2.1.bind x.2.1.name) := hf.2
  have KD : Hid (∀ (i : Nat) x, LD[i]? = some x → ∃ y, ds[i]? = some y ∧ keyI y = keyP x.1 x.2.1.bind x.2.1.name) := hd.2
  have OF : Hid (∀ x ∈ LF, x.1 ≤ 1000) := ho.1
  have OD : Hid (∀ x ∈ LD, x.1 ≤ 1000) := ho.2
  obtain ⟨F, eF⟩ : ∃ F, LF.length = F := ⟨_, rfl⟩
  obtain ⟨D, eD⟩ : ∃ D, LD.length = D := ⟨_, rfl⟩
  have NF : Hid (fs.length = F ∧ ds.length = D) := ⟨hf.1.trans eF, hd.1.trans eD⟩
  rw [eF] at fx
  rw [eD] at dx
  rw [eF, eD] at hl ⊢
  have FX1 : Hid (∀ k, k < F → ∃ b off x, fa = some ⟨b, off, none⟩ ∧ (base ≤ b ∧ b < w.heap.size) ∧ LF[k]? = some x ∧ CellsAt pfC w b (off + k * 5) x) := fx
  have DX1 : Hid (∀ k, k < D → ∃ b off x, da = some ⟨b, off, none⟩ ∧ (base ≤ b ∧ b < w.heap.size) ∧ LD[k]? = some x ∧ CellsAt pdC w b (off + k * 8) x) := dx
  have hF : (F : Int) ≤ 3000 := by omega
  have hD : (D : Int) ≤ 3000 := by omega
  clear h lf ld hf hd ho eF eD fx dx
  have hmm := @run_makeMap Tryz.prog
  have UP : Hid (Below w.heap.size w ((w.alloc (.cells #[.slice fa F fc, .slice da D dc] 66)).alloc (.map #[] 0))) := keep_alloc8 (keep_alloc8 (Below.refl _ _) _) _
  have XC : Hid (XAt ((w.alloc (.cells #[.slice fa F fc, .slice da D dc] 66)).alloc (.map #[] 0)) w.heap.size [.slice fa F fc, .slice da D dc]) := (XAt.new w _ _).later (by simp) (keep_alloc8 (Below.refl _ _) _)
  have M0 : Hid (MeansAt ((w.alloc (.cells #[.slice fa F fc, .slice da D dc] 66)).alloc (.map #[] 0)) (w.heap.size + 1) 0 fun _ => none) := by
    have := mapAt_made keyT meanV (w.alloc (.cells #[.slice fa F fc, .slice da D dc] 66))
    rwa [World.size_alloc] at this
  have SZ : Hid (w.heap.size + 1 < ((w.alloc (.cells #[.slice fa F fc, .slice da D dc] 66)).alloc (.map #[] 0)).heap.size) := by unfold Hid; simp
  go_enter Tryz.func39, Tryz.ntmps39
  go_upto_region 2 with fail
  generalize (w.alloc (.cells #[.slice fa F fc, .slice da D dc] 66)).alloc (.map #[] 0) = W0 at UP XC M0 SZ ⊢
  clear hmm
  have c0 := XC.out.1 0 _ rfl
  go_wp2
  go_loopw [12] (fun i wr => ∃ k : Nat, k ≤ F ∧ i = .int .i64 k ∧ (∃ M, MeansAt wr (w.heap.size + 1) k M ∧ meansOk fs ds k 0 M) ∧ Apart (G1 (w.heap.size + 1)) W0 wr) (fun i _ => F - (intOf i).toNat)
  case atStart => exact ⟨0, Nat.zero_le _, rfl, ⟨_, M0.out, means_nil _ _⟩, Apart.refl _ _⟩
  case round =>
    obtain ⟨k, hk, rfl, ⟨M, hm, hmo⟩, hap⟩ := hrel
    have AP : Hid (Apart (G1 (w.heap.size + 1)) W0 wr) := hap
    have MA : Hid (MeansAt wr (w.heap.size + 1) k M) := hm
    have MO : Hid (meansOk fs ds k 0 M) := hmo
    have HB : Hid (Below w.heap.size w wr) := UP.out.trans (hap.low (fun q e => by rw [e]; exact Nat.le_succ _) UP.out.size)
    clear hap hm hmo
    by_cases hlt : k < F
    · have hlt' : (k : Int) < F := by omega
      obtain ⟨b, off, ⟨xo, ⟨xn, xb, lc, lr⟩, vc, vr⟩, rfl, -, hx, hc⟩ := FX1.out k hlt
      obtain ⟨ca, cc, ra, rc, cn, rn, e1, e2⟩ := WF.out _ (List.mem_of_getElem? hx)
      dsimp only at e1 e2
      subst e1 e2
      have x0 : wr.cell? ⟨b, off + k * 5, none⟩ = some (.int .i64 (xo : Int)) := cell_any (hc 0 _ rfl) HB.out
      have x1 := cell_any (hc 1 _ rfl) HB.out
      have x2 := cell_any (hc 2 _ rfl) HB.out
      have x3 := cell_any (hc 3 _ rfl) HB.out
      have x4 := cell_any (hc 4 _ rfl) HB.out
      obtain ⟨y, hy, hky⟩ := KF.out k _ hx
      have MO2 : Hid (meansOk fs ds (k + 1) 0 (M.put (keyP xo xb xn) (false, k))) := by have := means_func MO.out hy; rw [hky] at this; exact this
      have KO : Hid ((Lit.int .i64 (if xb = 3 then (xo : Int) else -1)).wf = true ∧ xn.size ≤ maxLen) := by
        have h1 := OF.out _ (List.mem_of_getElem? hx)
        have h2 := EF.out _ (List.mem_of_getElem? hx)
        dsimp only at h1 h2
        exact ⟨wf11 (by split <;> omega) (by split <;> omega), h2⟩
      have LIM : Hid (k < maxLen) := by unfold Hid maxLen; omega
      have KE : Hid (∀ W, Calls Tryz.prog 57 #[.int .i64 (xo : Int), .string xn, .int .i64 xb] W fun e w' => e = .returned (.agg #[.int .i64 (if xb = 3 then (xo : Int) else -1), .string xn]) ∧ Below W.heap.size W w') := fun W => keyof_any _ _ _ W
      have UP2 : Hid (Below wr.heap.size wr (wr.alloc (.cells #[.int .i64 (xo : Int), .string xn, .int .i64 xb, .slice ca cn cc, .slice ra rn rc] 96))) := keep_alloc8 (Below.refl _ _) _
      have KK : Hid (((if xb = 3 then (xo : Int) else -1), xn) = keyP xo xb xn) := rfl
      rw [← KK.out] at MO2
      clear hx hc hy hky
      generalize (if xb = 3 then (xo : Int) else -1) = kz at KE KO KK MO2
      go_wp2_with (first
        | (go_at_call 57; refine (KE.out _).mono ?_; rintro e w5 ⟨rfl, b5⟩)
        | (at_mapUpdate; refine wpList_means_store (by rfl) (.tmp 17) (.tmp 26) (.tmp 28) (by rfl) (MA.out.later (bnext UP2.out b5)) LIM.out (by rfl) kz xn (by rfl) KO.out (false, k) (by rfl) ?_; intro w6 hm6 hg6))
      have AP6 : Hid (Apart (G1 (w.heap.size + 1)) W0 w6) := AP.out.same (apart_map (bnext UP2.out b5) hg6)
      clear hg6
      go_roundw
      case rel => exact ⟨k + 1, by omega, by go_num, ⟨_, hm6, MO2.out⟩, AP6.out⟩
      case measure => simp [intOf]; omega
    · obtain rfl : k = F := by omega
      have XC2 : Hid (XAt wr w.heap.size [.slice fa k fc, .slice da D dc]) := XC.out.apart (by have := SZ.out; omega) AP.out (by show ¬ (_ = _); omega)
      have c1 := XC2.out.1 1 _ rfl
      have SZ2 : Hid (w.heap.size + 1 < wr.heap.size) := Nat.lt_of_lt_of_le SZ.out AP.out.size
      clear c0 AP
      go_wp2
      go_loopw [33] (fun i wr => ∃ p : Nat, p ≤ D ∧ i = .int .i64 p ∧ (∃ M, MeansAt wr (w.heap.size + 1) (k + p) M ∧ meansOk fs ds k p M) ∧ Below w.heap.size w wr) (fun i _ => D - (intOf i).toNat)
      case atStart => exact ⟨0, Nat.zero_le _, rfl, ⟨_, MA.out, MO.out⟩, HB.out⟩
      case round =>
        clear MA MO HB SZ2 XC2 c1
        obtain ⟨p, hp, rfl, ⟨M, hm, hmo⟩, hbel⟩ := hrel
        have MA : Hid (MeansAt wr (w.heap.size + 1) (k + p) M) := hm
        have MO : Hid (meansOk fs ds k p M) := hmo
        have HB : Hid (Below w.heap.size w wr) := hbel
        clear hbel hm hmo
        by_cases hlt2 : p < D
        · have hlt2' : (p : Int) < D := by omega
          obtain ⟨b, off, ⟨xo, ⟨xn, xb, xa, xf, xz, lb, lr⟩, vb, vr⟩, rfl, -, hx, hc⟩ := DX1.out p hlt2
          obtain ⟨ca, cc, ra, rc, cn, rn, e1, e2⟩ := WD.out _ (List.mem_of_getElem? hx)
          dsimp only at e1 e2
          subst e1 e2
          have x0 : wr.cell? ⟨b, off + p * 8, none⟩ = some (.int .i64 (xo : Int)) := cell_any (hc 0 _ rfl) HB.out
          have x1 := cell_any (hc 1 _ rfl) HB.out
          have x2 := cell_any (hc 2 _ rfl) HB.out
          have x3 := cell_any (hc 3 _ rfl) HB.out
          have x4 := cell_any (hc 4 _ rfl) HB.out
          have x5 := cell_any (hc 5 _ rfl) HB.out
          have x6 := cell_any (hc 6 _ rfl) HB.out
          have x7 := cell_any (hc 7 _ rfl) HB.out
          obtain ⟨y, hy, hky⟩ := KD.out p _ hx
          have MO2 : Hid (meansOk fs ds k (p + 1) (M.put (keyP xo xb xn) (true, p))) := by have := means_data MO.out hy; rw [hky] at this; exact this
          have KO : Hid ((Lit.int .i64 (if xb = 3 then (xo : Int) else -1)).wf = true ∧ xn.size ≤ maxLen) := by
            have h1 := OD.out _ (List.mem_of_getElem? hx)
            have h2 := ED.out _ (List.mem_of_getElem? hx)
            dsimp only at h1 h2
            exact ⟨wf11 (by split <;> omega) (by split <;> omega), h2⟩
          have LIM : Hid (k + p < maxLen) := by unfold Hid maxLen; omega
          have KE : Hid (∀ W, Calls Tryz.prog 57 #[.int .i64 (xo : Int), .string xn, .int .i64 xb] W fun e w' => e = .returned (.agg #[.int .i64 (if xb = 3 then (xo : Int) else -1), .string xn]) ∧ Below W.heap.size W w') := fun W => keyof_any _ _ _ W
          have UP2 : Hid (Below wr.heap.size wr (wr.alloc (.cells #[.int .i64 (xo : Int), .string xn, .int .i64 xb, .int .i64 xa, .bool xf, .int .i64 xz, .slice ca cn cc, .slice ra rn rc] 100))) := keep_alloc8 (Below.refl _ _) _
          have KK : Hid (((if xb = 3 then (xo : Int) else -1), xn) = keyP xo xb xn) := rfl
          rw [← KK.out] at MO2
          clear hx hc hy hky
          generalize (if xb = 3 then (xo : Int) else -1) = kz at KE KO KK MO2
          go_wp2_with (first
            | (go_at_call 57; refine (KE.out _).mono ?_; rintro e w5 ⟨rfl, b5⟩)
            | (at_mapUpdate; refine wpList_means_store (by rfl) (.tmp 38) (.tmp 47) (.tmp 49) (by rfl) (MA.out.later (bnext UP2.out b5)) LIM.out (by rfl) kz xn (by rfl) KO.out (true, p) (by rfl) ?_; intro w6 hm6 hg6))
          have HB6 : Hid (Below w.heap.size w w6) := HB.out.trans ((apart_map (bnext UP2.out b5) hg6).low (fun q e => by rw [e]; exact Nat.le_succ _) HB.out.size)
          clear hg6
          go_roundw
          case rel => exact ⟨p + 1, by omega, by go_num, ⟨_, hm6, MO2.out⟩, HB6.out⟩
          case measure => simp [intOf]; omega
        · obtain rfl : p = D := by omega
          go_wp2
          go_ret
          exact ⟨⟨_, _, M, rfl, MA.out, by rw [NF.out.1, NF.out.2]; exact MO.out⟩, HB.out⟩
open Go.ChangeShapes Go.WideShapes Go.ChangeAt Go.RowKit Go.Maps
set_option linter.unusedVariables false
set_option linter.unusedSimpArgs false
/-- What is found tells what the name means. -/
def Finds (all : List ItemM) (o : Int) (M : Means) : Prop := ∀ n, (((M (o, n)).or (M (-1, n))).map fun v => (v.1, (v.2 : Int))) = (meanZ all o n).map (placeO all)
theorem rel_none {all : List ItemM} {o : Nat} {M : Means} (h : Finds all o M) {r : RelM} (hn : (M (o, r.name)).or (M (-1, r.name)) = none) : relZ all (chosenZ all false) (chosenZ all true) o r = .error 6 := by
  have k := h r.name
  rw [hn] at k
  unfold relZ
  cases hm : meanZ all o r.name with
  | none => rfl
  | some x => rw [hm] at k; cases k
theorem rel_some {all : List ItemM} {o : Nat} {M : Means} (h : Finds all o M) {r : RelM} {d : Bool} {p : Nat} (hn : (M (o, r.name)).or (M (-1, r.name)) = some (d, p)) :
    relZ all (chosenZ all false) (chosenZ all true) o r = if d = decide (r.kind = 1) then .error 9 else .ok ⟨r.at_, r.kind, (p : Int), r.add⟩ := by
  have k := h r.name
  rw [hn] at k
  unfold relZ
  cases hm : meanZ all o r.name with
  | none => rw [hm] at k; cases k
  | some x =>
    rw [hm] at k
    simp only [Option.map_some, Option.some.injEq, placeO, Prod.mk.injEq] at k
    obtain ⟨k1, k2⟩ := k
    dsimp only
    rw [k2, k1]
set_option maxRecDepth 100000 in
set_option maxHeartbeats 4000000 in
theorem reloc_any {A : Nat → Prop} {w : World} {b m : Nat} {M : Means} {vl : Value} {all : List ItemM} {l : List RelM} {obj : Nat} (hm : MeansAt w b m M) (ho : obj ≤ 1000) (hf : Finds all obj M) (h : IsRels A w vl l) (hl : l.length ≤ 5000) :
    Calls Tryz.prog 41 #[.map (some b), .int .i64 (obj : Int), vl] w fun e w' => ((∃ ps v', relsZ all (chosenZ all false) (chosenZ all true) obj l = .ok ps ∧ e = .returned (.tuple #[v', .int .i64 0]) ∧ OwnP w' w.heap.size v' ps) ∨ ∃ x, relsZ all (chosenZ all false) (chosenZ all true) obj l = .error x ∧ e = .returned (.tuple #[.slice none 0 0, .int .i64 x])) ∧ Below w.heap.size w w' := by
  have FI : Hid (∀ W (n : ByteArray), Below w.heap.size w W → n.size ≤ maxLen → Calls Tryz.prog 58 #[.map (some b), .int .i64 (obj : Int), .string n] W fun e w' => e = .returned (foundV ((M (obj, n)).or (M (-1, n)))) ∧ Below W.heap.size W w') := fun W n hW hn => find_any (hm.later hW) obj ho n hn
  have R6 : Hid (∀ r : RelM, (M (obj, r.name)).or (M (-1, r.name)) = none → relZ all (chosenZ all false) (chosenZ all true) obj r = .error 6) := fun r hn => rel_none hf hn
  have RS : Hid (∀ (r : RelM) (d : Bool) (p : Nat), (M (obj, r.name)).or (M (-1, r.name)) = some (d, p) → relZ all (chosenZ all false) (chosenZ all true) obj r = if d = decide (r.kind = 1) then .error 9 else .ok ⟨r.at_, r.kind, (p : Int), r.add⟩) := fun r d p hn => rel_some hf hn
  obtain ⟨a, c, rfl, -, -, lx⟩ := LstA.open h
  obtain ⟨n, en⟩ : ∃ n, l.length = n := ⟨_, rfl⟩
  rw [en] at hl lx ⊢
  have LX : Hid (∀ k, k < n → ∃ b off x, a = some ⟨b, off, none⟩ ∧ A b ∧ l[k]? = some x ∧ RelAt w b (off + k * 4) x) := lx
  have HN : Hid (l.length = n) := en
  have hn : (n : Int) ≤ 5000 := by omega
  generalize chosenZ all false = fs at R6 RS ⊢
  generalize chosenZ all true = ds at R6 RS ⊢
  obtain ⟨i0, hi0, hiz0, hsz0, hby0⟩ := info_parts infoPRel
  have IF : Hid (Tryz.prog.info? 38 = some i0 ∧ i0.zero = some (.agg #[.int .i64 0, .int .i64 0, .int .i64 0, .int .i64 0]) ∧ i0.size = 4 ∧ i0.bytes = 32) := ⟨hi0, hiz0, hsz0, hby0⟩
  clear hm hf h lx en hi0 hiz0 hsz0 hby0
  go_enter Tryz.func41, Tryz.ntmps41
  go_wp2
  go_loopw [15, 8] (fun i v wr => ∃ (k : Nat) (ps : List PRelM), k ≤ n ∧ i = .int .i64 k ∧ relsZ all fs ds obj (l.take k) = .ok ps ∧ ps.length ≤ k ∧ OwnP wr w.heap.size v ps ∧ Below w.heap.size w wr) (fun i _ _ => n - (intOf i).toNat)
  case atStart => exact ⟨0, [], Nat.zero_le _, rfl, rfl, Nat.le_refl _, World.ownsRow_nil _ _ _ _, Below.refl _ _⟩
  case round =>
    obtain ⟨k, ps, hk, rfl, hs, hpl, hown, hbel⟩ := hrel
    have HB : Hid (Below w.heap.size w wr) := hbel
    have HS : Hid (relsZ all fs ds obj (l.take k) = .ok ps) := hs
    have HW : Hid (OwnP wr w.heap.size u8 ps) := hown
    have LP : Hid (ps.length ≤ k) := hpl
    clear hbel hs hown hpl
    by_cases hlt : k < n
    · have hlt' : (k : Int) < n := by omega
      obtain ⟨b1, off, ⟨xa, xk, xn, xd⟩, rfl, -, hx, x0, x1, x2, x3, hnm⟩ := LX.out k hlt
      dsimp only at x0 x1 x2 x3 hnm
      have BAD : Hid (∀ e, relZ all fs ds obj ⟨xa, xk, xn, xd⟩ = .error e → relsZ all fs ds obj l = .error e) := fun e he => eachE_at HS.out hx he
      have OKN : Hid (∀ p, relZ all fs ds obj ⟨xa, xk, xn, xd⟩ = .ok p → relsZ all fs ds obj (l.take (k + 1)) = .ok (ps ++ [p])) := fun p hp => eachE_next HS.out hx hp
      have NM : Hid (xn.size ≤ maxLen) := hnm
      replace x0 := cell_any x0 HB.out
      replace x1 := cell_any x1 HB.out
      replace x2 := cell_any x2 HB.out
      replace x3 := cell_any x3 HB.out
      have UP2 : Hid (Below wr.heap.size wr (wr.alloc (.cells #[.int .i64 xa, .int .i64 xk, .string xn, .int .i64 xd] 55))) := keep_alloc8 (Below.refl _ _) _
      have XR : Hid (XAt (wr.alloc (.cells #[.int .i64 xa, .int .i64 xk, .string xn, .int .i64 xd] 55)) wr.heap.size [.int .i64 xa, .int .i64 xk, .string xn, .int .i64 xd]) := XAt.new _ _ _
      have SR : Hid (wr.heap.size < (wr.alloc (.cells #[.int .i64 xa, .int .i64 xk, .string xn, .int .i64 xd] 55)).heap.size) := by unfold Hid; simp
      clear hx hnm
      cases hF : (M (obj, xn)).or (M (-1, xn)) with
      | none =>
        have E : Hid (relsZ all fs ds obj l = .error 6) := BAD.out 6 (R6.out ⟨xa, xk, xn, xd⟩ hF)
        have F1 : Hid (∀ W, Below w.heap.size w W → Calls Tryz.prog 58 #[.map (some b), .int .i64 (obj : Int), .string xn] W fun e w' => e = .returned (.tuple #[.agg #[.bool false, .int .i64 0], .bool false]) ∧ Below W.heap.size W w') := fun W hW => by have := FI.out W xn hW NM.out; rw [hF] at this; exact this
        clear hF
        go_wp2_with (go_at_call 58; refine (F1.out _ (bnext HB.out UP2.out)).mono ?_; rintro e w5 ⟨rfl, b5⟩)
        go_ret2
        exact ⟨.inr ⟨6, E.out, rfl⟩, keep_alloc8 (bnext HB.out (bnext UP2.out b5)) _⟩
      | some v =>
        obtain ⟨d, p⟩ := v
        have RV : Hid (relZ all fs ds obj ⟨xa, xk, xn, xd⟩ = if d = decide (xk = 1) then .error 9 else .ok ⟨xa, xk, (p : Int), xd⟩) := RS.out ⟨xa, xk, xn, xd⟩ d p hF
        have F1 : Hid (∀ W, Below w.heap.size w W → Calls Tryz.prog 58 #[.map (some b), .int .i64 (obj : Int), .string xn] W fun e w' => e = .returned (.tuple #[.agg #[.bool d, .int .i64 (p : Int)], .bool true]) ∧ Below W.heap.size W w') := fun W hW => by have := FI.out W xn hW NM.out; rw [hF] at this; exact this
        clear hF
        go_upto_region 8 with (go_at_call 58; refine (F1.out _ (bnext HB.out UP2.out)).mono ?_; rintro e w5 ⟨rfl, b5⟩)
        have XR6 : Hid (XAt (w5.alloc (.cells #[.bool d, .int .i64 (p : Int)] 122)) wr.heap.size [.int .i64 xa, .int .i64 xk, .string xn, .int .i64 xd]) := XR.out.later SR.out (keep_alloc8 b5 _)
        have UP6 : Hid (Below wr.heap.size wr (w5.alloc (.cells #[.bool d, .int .i64 (p : Int)] 122))) := keep_alloc8 (bnext UP2.out b5) _
        have XM : Hid (XAt (w5.alloc (.cells #[.bool d, .int .i64 (p : Int)] 122)) w5.heap.size [.bool d, .int .i64 (p : Int)]) := XAt.new _ _ _
        generalize w5.alloc (.cells #[.bool d, .int .i64 (p : Int)] 122) = w6 at XR6 UP6 XM ⊢
        clear x0 x1 x2 x3
        have z0 := XM.out.1 0 _ rfl
        have z1 := XM.out.1 1 _ rfl
        have r0 := XR6.out.1 0 _ rfl
        have r1 := XR6.out.1 1 _ rfl
        have r2 := XR6.out.1 2 _ rfl
        have r3 := XR6.out.1 3 _ rfl
        by_cases c9 : d = decide (xk = 1)
        · have g9 : (d == (xk == 1)) = true := by rw [c9]; by_cases h1 : xk = 1 <;> simp [h1]
          have E9 : Hid (relsZ all fs ds obj l = .error 9) := BAD.out 9 (by rw [RV.out, if_pos c9])
          clear c9
          go_wp2
          go_ret2
          exact ⟨.inr ⟨9, E9.out, rfl⟩, bnext HB.out UP6.out⟩
        · have g9 : (d == (xk == 1)) = false := by
            by_cases h1 : xk = 1
            · subst h1; cases d <;> simp_all
            · cases d <;> simp_all
          have N1 : Hid (relsZ all fs ds obj (l.take (k + 1)) = .ok (ps ++ [⟨xa, xk, (p : Int), xd⟩])) := OKN.out _ (by rw [RV.out, if_neg c9])
          have OW : Hid (OwnP (w6.alloc (.cells #[.int .i64 xa, .int .i64 xk, .int .i64 (p : Int), .int .i64 xd] 38)) w.heap.size u8 ps) := ownP_later HW.out (keep_alloc8 UP6.out _)
          have NW : Hid (∀ i u, (prC ⟨xa, xk, (p : Int), xd⟩)[i]? = some u → (w6.alloc (.cells #[.int .i64 xa, .int .i64 xk, .int .i64 (p : Int), .int .i64 xd] 38)).cell? ((⟨w6.heap.size, 0, none⟩ : Addr).add i) = some u) := fun i u hu => by
            rw [addr_add11, Nat.zero_add]; exact new_cell' w6 _ _ i u (by simpa [prC] using hu)
          have LL : Hid (ps.length + 1 ≤ maxLen ∧ (ps.length + 1) * 32 ≤ 140737488355328 ∧ w.heap.size ≤ (w6.alloc (.cells #[.int .i64 xa, .int .i64 xk, .int .i64 (p : Int), .int .i64 xd] 38)).heap.size) := by
            have h1 := LP.out
            have h2 := (bnext HB.out UP6.out).size
            exact ⟨by unfold maxLen; omega, by omega, by simp; omega⟩
          clear c9
          go_wp2_with (at_builtin; refine wpList_append_one _ (by rfl) (.tmp 37) (.tmp 47) 34 (by rfl) w.heap.size 38 i0 _ 4 32 Tryz.underlying34 IF.out.1 IF.out.2.1 IF.out.2.2.1 IF.out.2.2.2 rfl (by decide) u8 ps.length (ps.flatMap prC) (by rfl) OW.out ⟨w6.heap.size, 0, none⟩ 1 (prC ⟨xa, xk, (p : Int), xd⟩) (by rfl) rfl NW.out (prC_one _) LL.out.1 LL.out.2.1 LL.out.2.2 ?_; intro a9 c9 w9 own9 gr9 wh9)
          have HO9 : Hid (OwnP w9 w.heap.size (.slice a9 (ps.length + 1) c9) (ps ++ [⟨xa, xk, (p : Int), xd⟩])) := ownP_more own9
          have HB9 : Hid (Below w.heap.size w w9) := (keep_alloc8 (bnext HB.out UP6.out) _).grown gr9 LL.out.2.2 fun q hq => (own_oct HW.out q hq).1
          clear own9 gr9 wh9
          go_roundw
          case rel => exact ⟨k + 1, _, by omega, by go_num, N1.out, by rw [List.length_append]; have := LP.out; simp; omega, HO9.out, HB9.out⟩
          case measure => simp [intOf]; omega
    · obtain rfl : k = n := by omega
      have E : Hid (relsZ all fs ds obj l = .ok ps) := by have h := HS.out; rwa [← HN.out, List.take_length] at h
      go_wp2
      go_ret2
      exact ⟨.inl ⟨ps, _, E.out, rfl, HW.out⟩, HB.out⟩
open Go.ChangeShapes Go.WideShapes Go.ChangeAt Go.RowKit
set_option linter.unusedVariables false
set_option linter.unusedSimpArgs false
theorem rbytes_any {A A' : Nat → Prop} {w : World} {v v' : Value} {l m : Bs} (h1 : IsBytes A w v l) (h2 : IsBytes A' w v' m) :
    Calls Tryz.prog 46 #[v, v'] w fun e w' => Says e (l = m) ∧ Below w.heap.size w w' := by
  obtain ⟨a, c, rfl, ⟨hh, hc⟩, hb, -⟩ := h1.row
  obtain ⟨b, d, rfl, ⟨gh, gc⟩, gb, -⟩ := h2.row
  have l1 : l.length ≤ 9223372036854775807 := by have := hh.1; unfold maxLen at hc; omega
  have l2 : m.length ≤ 9223372036854775807 := by have := gh.1; unfold maxLen at gc; omega
  refine (bytes_eq w a b l.length m.length c d _ _ l1 l2 hb gb).mono ?_
  rintro e w' ⟨rfl, bel⟩
  refine ⟨says_of ?_, bel⟩
  unfold eqB
  rw [decide_eq_true_iff]
  constructor
  · rintro ⟨h1, h2⟩
    refine list_upto rfl h1.symm fun j hj => ?_
    rw [gF_get hj, gF_get (by omega : j < m.length), h2 j hj]
  · rintro rfl; exact ⟨rfl, fun _ _ => rfl⟩
theorem neq_note (w : World) (r q : NoteM) : (binOp .neq 87 (.agg #[.string r.name, .int .i64 r.kind]) (.agg #[.string q.name, .int .i64 q.kind])).run Tryz.prog w = .ok (.bool (!((r.name.toList == q.name.toList) && r.kind == q.kind))) w := by
  rw [run_neq_struct]
  simp [go_sem, Tryz.underlying87, Tryz.underlying3, Tryz.underlying9]
  by_cases h0 : r.kind = q.kind <;> by_cases h2 : r.name.toList = q.name.toList <;> simp [h0, h2]
theorem neq_note_is (r q : NoteM) (b : Bool) (h : b = true ↔ ¬ r = q) (w : World) : (binOp .neq 87 (.agg #[.string r.name, .int .i64 r.kind]) (.agg #[.string q.name, .int .i64 q.kind])).run Tryz.prog w = .ok (.bool b) w := by
  rw [neq_note]
  congr 2
  have hb : ((r.name.toList == q.name.toList) && r.kind == q.kind) = true ↔ r = q := by
    cases r; cases q
    rw [Bool.and_eq_true, str_beq]
    simp
  rw [Bool.eq_iff_iff, h, Bool.not_eq_true', ← Bool.not_eq_true, hb]
open Go.ChangeShapes Go.WideShapes Go.ChangeAt Go.RowKit
set_option linter.unusedVariables false
set_option linter.unusedSimpArgs false
/-- A resolved relocation there. -/
def PRelAt (w : World) (b o : Nat) (r : PRelM) : Prop :=
  w.cell? ⟨b, o, none⟩ = some (.int .i64 r.at_) ∧ w.cell? ⟨b, o + 1, none⟩ = some (.int .i64 r.kind) ∧ w.cell? ⟨b, o + 2, none⟩ = some (.int .i64 r.to) ∧ w.cell? ⟨b, o + 3, none⟩ = some (.int .i64 r.add)
def IsPRels (A : Nat → Prop) (w : World) (v : Value) (l : List PRelM) : Prop := LstA 4 (PRelAt w) A v l
theorem IsPRels.keep {A : Nat → Prop} {w w' : World} {v : Value} {l : List PRelM} (h : IsPRels A w v l) (hk : Stay A w w') : IsPRels A w' v l :=
  LstA.map h (fun _ h => h) fun b o x hb _ hc => ⟨hk.cell hb hc.1, hk.cell hb hc.2.1, hk.cell hb hc.2.2.1, hk.cell hb hc.2.2.2⟩
theorem own_prels {w : World} {base : Nat} {v : Value} {l : List PRelM} (h : OwnP w base v l) : IsPRels (fun k => base ≤ k ∧ k < w.heap.size) w v l :=
  own_lst (cells := prC) (fun _ => rfl) h fun b o x hx hc => ⟨hc 0 _ rfl, hc 1 _ rfl, hc 2 _ rfl, hc 3 _ rfl⟩
theorem neq_prel (w : World) (r q : PRelM) : (binOp .neq 38 (.agg #[.int .i64 r.at_, .int .i64 r.kind, .int .i64 r.to, .int .i64 r.add]) (.agg #[.int .i64 q.at_, .int .i64 q.kind, .int .i64 q.to, .int .i64 q.add])).run Tryz.prog w = .ok (.bool (!(r.at_ == q.at_ && r.kind == q.kind && r.to == q.to && r.add == q.add))) w := by
  rw [run_neq_struct]
  simp [go_sem, Tryz.underlying38, Tryz.underlying3]
  by_cases h0 : r.at_ = q.at_ <;> by_cases h1 : r.kind = q.kind <;> by_cases h2 : r.to = q.to <;> by_cases h3 : r.add = q.add <;> simp [h0, h1, h2, h3]
theorem prel_beq (r q : PRelM) : (r.at_ == q.at_ && r.kind == q.kind && r.to == q.to && r.add == q.add) = true ↔ r = q := by
  cases r; cases q
  rw [Bool.and_eq_true, Bool.and_eq_true, Bool.and_eq_true]
  simp
  constructor
  · rintro ⟨⟨⟨h1, h2⟩, h3⟩, h4⟩; exact ⟨h1, h2, h3, h4⟩
  · rintro ⟨h1, h2, h3, h4⟩; exact ⟨⟨⟨h1, h2⟩, h3⟩, h4⟩
theorem neq_prel_is (r q : PRelM) (b : Bool) (h : b = true ↔ ¬ r = q) (w : World) : (binOp .neq 38 (.agg #[.int .i64 r.at_, .int .i64 r.kind, .int .i64 r.to, .int .i64 r.add]) (.agg #[.int .i64 q.at_, .int .i64 q.kind, .int .i64 q.to, .int .i64 q.add])).run Tryz.prog w = .ok (.bool b) w := by
  rw [neq_prel]
  congr 2
  rw [Bool.eq_iff_iff, h, Bool.not_eq_true', ← Bool.not_eq_true, prel_beq]
set_option maxRecDepth 100000 in
set_option maxHeartbeats 1000000 in
theorem psamerels_any {A A' : Nat → Prop} {w : World} {v v' : Value} {l m : List PRelM} (h1 : IsPRels A w v l) (h2 : IsPRels A' w v' m) :
    Calls Tryz.prog 45 #[v, v'] w fun e w' => Says e (l = m) ∧ Below w.heap.size w w' := by
  obtain ⟨a, c, rfl, lm, -, lx⟩ := LstA.open h1
  obtain ⟨b, d, rfl, mm, -, mx⟩ := LstA.open h2
  obtain ⟨n, en⟩ : ∃ n, l.length = n := ⟨_, rfl⟩
  rw [en] at lm lx ⊢
  clear h1 h2
  by_cases hlen : m.length = n
  · rw [hlen] at mm mx ⊢
    have LX : Hid (∀ k, k < n → ∃ b off x, a = some ⟨b, off, none⟩ ∧ A b ∧ l[k]? = some x ∧ PRelAt w b (off + k * 4) x) := lx
    have MX : Hid (∀ k, k < n → ∃ c off x, b = some ⟨c, off, none⟩ ∧ A' c ∧ m[k]? = some x ∧ PRelAt w c (off + k * 4) x) := mx
    have HN : Hid (l.length = n ∧ m.length = n ∧ n ≤ maxLen) := ⟨en, hlen, lm⟩
    have hn : (n : Int) ≤ 9223372036854775807 := by unfold maxLen at lm; omega
    clear lx mx en hlen lm mm
    go_enter Tryz.func45, Tryz.ntmps45
    go_wp2
    go_loopw [5] (fun i wr => ∃ k : Nat, k ≤ n ∧ i = .int .i64 k ∧ (∀ j, j < k → l[j]? = m[j]?) ∧ Below w.heap.size w wr) (fun i _ => n - (intOf i).toNat)
    case atStart => exact ⟨0, Nat.zero_le _, rfl, (fun j hj => by omega), Below.refl _ _⟩
    case round =>
      obtain ⟨k, hk, rfl, hs, hbel⟩ := hrel
      have HB : Hid (Below w.heap.size w wr) := hbel
      have HS : Hid (∀ j, j < k → l[j]? = m[j]?) := hs
      clear hbel hs
      by_cases hlt : k < n
      · have hlt' : (k : Int) < n := by omega
        obtain ⟨q, off, x, rfl, -, hx, x0, x1, x2, x3⟩ := LX.out k hlt
        obtain ⟨q', off', y, rfl, -, hy, y0, y1, y2, y3⟩ := MX.out k hlt
        have HX : Hid (l[k]? = some x ∧ m[k]? = some y) := ⟨hx, hy⟩
        replace x0 := cell_any x0 HB.out
        replace x1 := cell_any x1 HB.out
        replace x2 := cell_any x2 HB.out
        replace x3 := cell_any x3 HB.out
        replace y0 := cell_any y0 HB.out
        replace y1 := cell_any y1 HB.out
        replace y2 := cell_any y2 HB.out
        replace y3 := cell_any y3 HB.out
        clear hx hy
        by_cases e : x = y
        · have ne := neq_prel_is x y false (iff_no (fun h => h e))
          have E : Hid (x = y) := e
          clear e
          go_wp2
          go_quiet (fail)
          go_wp2
          go_roundw
          case rel => exact ⟨k + 1, by omega, by go_num, same_next HS.out HX.out.1 HX.out.2 E.out, below_drewN HB.out _⟩
          case measure => simp [intOf]; omega
        · have ne := neq_prel_is x y true (iff_yes e)
          have E : Hid (¬ x = y) := e
          clear e
          go_wp2
          go_quiet (fail)
          go_wp2
          go_ret
          exact ⟨says_of (iff_no (list_at_ne HX.out.1 HX.out.2 E.out)), below_drewN HB.out _⟩
      · obtain rfl : k = n := by omega
        go_wp2
        go_ret
        exact ⟨says_of (iff_yes (list_upto HN.out.1 HN.out.2.1 HS.out)), HB.out⟩
  · have ne : ((n : Int) != (m.length : Int)) = true := by simp; omega
    have E : Hid (¬ l = m) := list_len_ne (by omega)
    clear lx mx
    go_enter Tryz.func45, Tryz.ntmps45
    go_wp2
    go_ret
    exact ⟨says_of (iff_no E.out), Below.refl _ _⟩
/-- A function of a program. -/
def PFuncV (A : Nat → Prop) (w : World) (u : Value) (f : PFuncM) : Prop := ∃ vc vr, u = .agg #[.string f.name, .bool f.keep, .bool f.leaf, vc, vr] ∧ IsWords A w vc f.code ∧ IsPRels A w vr f.rels
set_option maxRecDepth 100000 in
set_option maxHeartbeats 4000000 in
theorem samefunc_any {A A' : Nat → Prop} {w : World} {u v : Value} {f g : PFuncM} (h1 : PFuncV A w u f) (h2 : PFuncV A' w v g) : Calls Tryz.prog 28 #[u, v] w fun e w' => Says e (f = g) ∧ Below w.heap.size w w' := by
  obtain ⟨vc, vr, rfl, hc, hr⟩ := h1
  obtain ⟨vd, vs, rfl, hd, hs⟩ := h2
  have WC : Hid (∀ W, Below w.heap.size w W → Calls Tryz.prog 44 #[vc, vd] W fun e w' => Says e (f.code = g.code) ∧ Below W.heap.size W w') := fun W hW => rwords_any (hc.keep (Stay.of_below hW)) (hd.keep (Stay.of_below hW))
  have RC : Hid (∀ W, Below w.heap.size w W → Calls Tryz.prog 45 #[vr, vs] W fun e w' => Says e (f.rels = g.rels) ∧ Below W.heap.size W w') := fun W hW => psamerels_any (hr.keep (Stay.of_below hW)) (hs.keep (Stay.of_below hW))
  obtain ⟨ca, cc, rfl, -, -, -⟩ := LstA.open hc.1
  obtain ⟨da, dc, rfl, -, -, -⟩ := LstA.open hd.1
  obtain ⟨ra, rc, rfl, -, -, -⟩ := LstA.open hr
  obtain ⟨sa, sc, rfl, -, -, -⟩ := LstA.open hs
  obtain ⟨x0, x1, x2, lc, lr⟩ := f
  obtain ⟨y0, y1, y2, mc, mr⟩ := g
  dsimp only at *
  generalize lc.length = n1 at WC
  generalize lr.length = n2 at RC
  generalize mc.length = m1 at WC
  generalize mr.length = m2 at RC
  clear hc hr hd hs
  have UP : Hid (Below w.heap.size w ((w.alloc (.cells #[.string x0, .bool x1, .bool x2, .slice ca n1 cc, .slice ra n2 rc] 36)).alloc (.cells #[.string y0, .bool y1, .bool y2, .slice da m1 dc, .slice sa m2 sc] 36))) := keep_alloc8 (keep_alloc8 (Below.refl _ _) _) _
  have XA : Hid (XAt ((w.alloc (.cells #[.string x0, .bool x1, .bool x2, .slice ca n1 cc, .slice ra n2 rc] 36)).alloc (.cells #[.string y0, .bool y1, .bool y2, .slice da m1 dc, .slice sa m2 sc] 36)) w.heap.size [.string x0, .bool x1, .bool x2, .slice ca n1 cc, .slice ra n2 rc]) := (XAt.new w #[.string x0, .bool x1, .bool x2, .slice ca n1 cc, .slice ra n2 rc] 36).later (by simp) (keep_alloc8 (Below.refl _ _) _)
  have XB : Hid (XAt ((w.alloc (.cells #[.string x0, .bool x1, .bool x2, .slice ca n1 cc, .slice ra n2 rc] 36)).alloc (.cells #[.string y0, .bool y1, .bool y2, .slice da m1 dc, .slice sa m2 sc] 36)) (w.heap.size + 1) [.string y0, .bool y1, .bool y2, .slice da m1 dc, .slice sa m2 sc]) := by have h := XAt.new (w.alloc (.cells #[.string x0, .bool x1, .bool x2, .slice ca n1 cc, .slice ra n2 rc] 36)) #[.string y0, .bool y1, .bool y2, .slice da m1 dc, .slice sa m2 sc] 36; rw [World.size_alloc] at h; exact h
  go_enter Tryz.func28, Tryz.ntmps28
  go_upto_region 1 with fail
  generalize ((w.alloc (.cells #[.string x0, .bool x1, .bool x2, .slice ca n1 cc, .slice ra n2 rc] 36)).alloc (.cells #[.string y0, .bool y1, .bool y2, .slice da m1 dc, .slice sa m2 sc] 36)) = w0 at UP XA XB ⊢
  have ha : Hid (w.heap.size < w0.heap.size) := XA.out.lt (by simp)
  have hb : Hid (w.heap.size + 1 < w0.heap.size) := XB.out.lt (by simp)
  have p0 := XA.out.1 0 _ rfl
  have q0 := XB.out.1 0 _ rfl
  have p1 := XA.out.1 1 _ rfl
  have q1 := XB.out.1 1 _ rfl
  have p2 := XA.out.1 2 _ rfl
  have q2 := XB.out.1 2 _ rfl
  have p3 := XA.out.1 3 _ rfl
  have q3 := XB.out.1 3 _ rfl
  have p4 := XA.out.1 4 _ rfl
  have q4 := XB.out.1 4 _ rfl
  by_cases e0 : x0 = y0
  rotate_left
  · have g0 : (x0.toList == y0.toList) = false := str_ne e0
    have E : Hid (¬ (⟨x0, x1, x2, lc, lr⟩ : PFuncM) = ⟨y0, y1, y2, mc, mr⟩) := fun h => e0 (by simp only [PFuncM.mk.injEq] at h; exact h.1)
    clear e0
    go_wp2
    go_ret
    exact ⟨⟨_, rfl, iff_no E.out⟩, UP.out⟩
  subst e0
  have g0 : (x0.toList == x0.toList) = true := (str_beq _ _).2 rfl
  by_cases e1 : x1 = y1
  rotate_left
  · have g1 : (x1 == y1) = false := by simpa using e1
    have E : Hid (¬ (⟨x0, x1, x2, lc, lr⟩ : PFuncM) = ⟨x0, y1, y2, mc, mr⟩) := fun h => e1 (by simp only [PFuncM.mk.injEq] at h; exact h.2.1)
    clear e1
    go_wp2
    go_ret
    exact ⟨⟨_, rfl, iff_no E.out⟩, UP.out⟩
  subst e1
  have g1 : (x1 == x1) = true := by simp
  by_cases e2 : x2 = y2
  rotate_left
  · have g2 : (x2 == y2) = false := by simpa using e2
    have E : Hid (¬ (⟨x0, x1, x2, lc, lr⟩ : PFuncM) = ⟨x0, x1, y2, mc, mr⟩) := fun h => e2 (by simp only [PFuncM.mk.injEq] at h; exact h.2.2.1)
    clear e2
    go_wp2
    go_ret
    exact ⟨⟨_, rfl, iff_no E.out⟩, UP.out⟩
  subst e2
  have g2 : (x2 == x2) = true := by simp
  by_cases e3 : lc = mc
  rotate_left
  · have E3 : Hid (¬ lc = mc) := e3
    have E : Hid (¬ (⟨x0, x1, x2, lc, lr⟩ : PFuncM) = ⟨x0, x1, x2, mc, mr⟩) := fun h => E3.out (by simp only [PFuncM.mk.injEq] at h; exact h.2.2.2.1)
    clear e3
    go_wp2_with (go_at_call 44; refine (WC.out _ UP.out).mono ?_; rintro e w1 ⟨hs1, b1⟩; obtain rfl := hs1.no E3.out; clear hs1)
    go_ret
    exact ⟨⟨_, rfl, iff_no E.out⟩, bnext UP.out b1⟩
  subst e3
  by_cases e4 : lr = mr
  rotate_left
  · have E4 : Hid (¬ lr = mr) := e4
    have E : Hid (¬ (⟨x0, x1, x2, lc, lr⟩ : PFuncM) = ⟨x0, x1, x2, lc, mr⟩) := fun h => E4.out (by simp only [PFuncM.mk.injEq] at h; exact h.2.2.2.2)
    clear e4
    go_wp2_with (first
      | (go_at_call 45; refine (RC.out _ (bnext UP.out b1)).mono ?_; rintro e w2 ⟨hs2, b2⟩; obtain rfl := hs2.no E4.out; clear hs2)
      | (go_at_call 44; refine (WC.out _ UP.out).mono ?_; rintro e w1 ⟨hs1, b1⟩; obtain rfl := hs1.yes (by first | rfl | trivial); clear hs1; clear p4 q4; have p4 := (XA.out.later ha.out b1).1 4 _ rfl; have q4 := (XB.out.later hb.out b1).1 4 _ rfl))
    go_ret
    exact ⟨⟨_, rfl, iff_no E.out⟩, bnext UP.out (bnext b1 b2)⟩
  subst e4
  go_wp2_with (first
    | (go_at_call 45; refine (RC.out _ (bnext UP.out b1)).mono ?_; rintro e w2 ⟨hs2, b2⟩; obtain rfl := hs2.yes (by first | rfl | trivial); clear hs2)
    | (go_at_call 44; refine (WC.out _ UP.out).mono ?_; rintro e w1 ⟨hs1, b1⟩; obtain rfl := hs1.yes (by first | rfl | trivial); clear hs1; clear p4 q4; have p4 := (XA.out.later ha.out b1).1 4 _ rfl; have q4 := (XB.out.later hb.out b1).1 4 _ rfl))
  go_ret
  exact ⟨⟨_, rfl, iff_yes (by first | rfl | trivial)⟩, bnext UP.out (bnext b1 b2)⟩
/-- Data of a program. -/
def PDataV (A : Nat → Prop) (w : World) (u : Value) (f : PDataM) : Prop := ∃ vc vr, u = .agg #[.int .i64 f.align, .bool f.fixed, .int .i64 f.size, vc, vr] ∧ IsBytes A w vc f.bytes ∧ IsPRels A w vr f.rels
set_option maxRecDepth 100000 in
set_option maxHeartbeats 4000000 in
theorem samedata_any {A A' : Nat → Prop} {w : World} {u v : Value} {f g : PDataM} (h1 : PDataV A w u f) (h2 : PDataV A' w v g) : Calls Tryz.prog 29 #[u, v] w fun e w' => Says e (f = g) ∧ Below w.heap.size w w' := by
  obtain ⟨vc, vr, rfl, hc, hr⟩ := h1
  obtain ⟨vd, vs, rfl, hd, hs⟩ := h2
  have WC : Hid (∀ W, Below w.heap.size w W → Calls Tryz.prog 46 #[vc, vd] W fun e w' => Says e (f.bytes = g.bytes) ∧ Below W.heap.size W w') := fun W hW => rbytes_any (hc.keep (Stay.of_below hW)) (hd.keep (Stay.of_below hW))
  have RC : Hid (∀ W, Below w.heap.size w W → Calls Tryz.prog 45 #[vr, vs] W fun e w' => Says e (f.rels = g.rels) ∧ Below W.heap.size W w') := fun W hW => psamerels_any (hr.keep (Stay.of_below hW)) (hs.keep (Stay.of_below hW))
  obtain ⟨ca, cc, rfl, -, -, -⟩ := LstA.open hc.1
  obtain ⟨da, dc, rfl, -, -, -⟩ := LstA.open hd.1
  obtain ⟨ra, rc, rfl, -, -, -⟩ := LstA.open hr
  obtain ⟨sa, sc, rfl, -, -, -⟩ := LstA.open hs
  obtain ⟨x0, x1, x2, lc, lr⟩ := f
  obtain ⟨y0, y1, y2, mc, mr⟩ := g
  dsimp only at *
  generalize lc.length = n1 at WC
  generalize lr.length = n2 at RC
  generalize mc.length = m1 at WC
  generalize mr.length = m2 at RC
  clear hc hr hd hs
  have UP : Hid (Below w.heap.size w ((w.alloc (.cells #[.int .i64 x0, .bool x1, .int .i64 x2, .slice ca n1 cc, .slice ra n2 rc] 41)).alloc (.cells #[.int .i64 y0, .bool y1, .int .i64 y2, .slice da m1 dc, .slice sa m2 sc] 41))) := keep_alloc8 (keep_alloc8 (Below.refl _ _) _) _
  have XA : Hid (XAt ((w.alloc (.cells #[.int .i64 x0, .bool x1, .int .i64 x2, .slice ca n1 cc, .slice ra n2 rc] 41)).alloc (.cells #[.int .i64 y0, .bool y1, .int .i64 y2, .slice da m1 dc, .slice sa m2 sc] 41)) w.heap.size [.int .i64 x0, .bool x1, .int .i64 x2, .slice ca n1 cc, .slice ra n2 rc]) := (XAt.new w #[.int .i64 x0, .bool x1, .int .i64 x2, .slice ca n1 cc, .slice ra n2 rc] 41).later (by simp) (keep_alloc8 (Below.refl _ _) _)
  have XB : Hid (XAt ((w.alloc (.cells #[.int .i64 x0, .bool x1, .int .i64 x2, .slice ca n1 cc, .slice ra n2 rc] 41)).alloc (.cells #[.int .i64 y0, .bool y1, .int .i64 y2, .slice da m1 dc, .slice sa m2 sc] 41)) (w.heap.size + 1) [.int .i64 y0, .bool y1, .int .i64 y2, .slice da m1 dc, .slice sa m2 sc]) := by have h := XAt.new (w.alloc (.cells #[.int .i64 x0, .bool x1, .int .i64 x2, .slice ca n1 cc, .slice ra n2 rc] 41)) #[.int .i64 y0, .bool y1, .int .i64 y2, .slice da m1 dc, .slice sa m2 sc] 41; rw [World.size_alloc] at h; exact h
  go_enter Tryz.func29, Tryz.ntmps29
  go_upto_region 1 with fail
  generalize ((w.alloc (.cells #[.int .i64 x0, .bool x1, .int .i64 x2, .slice ca n1 cc, .slice ra n2 rc] 41)).alloc (.cells #[.int .i64 y0, .bool y1, .int .i64 y2, .slice da m1 dc, .slice sa m2 sc] 41)) = w0 at UP XA XB ⊢
  have ha : Hid (w.heap.size < w0.heap.size) := XA.out.lt (by simp)
  have hb : Hid (w.heap.size + 1 < w0.heap.size) := XB.out.lt (by simp)
  have p0 := XA.out.1 0 _ rfl
  have q0 := XB.out.1 0 _ rfl
  have p1 := XA.out.1 1 _ rfl
  have q1 := XB.out.1 1 _ rfl
  have p2 := XA.out.1 2 _ rfl
  have q2 := XB.out.1 2 _ rfl
  have p3 := XA.out.1 3 _ rfl
  have q3 := XB.out.1 3 _ rfl
  have p4 := XA.out.1 4 _ rfl
  have q4 := XB.out.1 4 _ rfl
  by_cases e0 : x0 = y0
  rotate_left
  · have g0 : (x0 == y0) = false := by simpa using e0
    have E : Hid (¬ (⟨x0, x1, x2, lc, lr⟩ : PDataM) = ⟨y0, y1, y2, mc, mr⟩) := fun h => e0 (by simp only [PDataM.mk.injEq] at h; exact h.1)
    clear e0
    go_wp2
    go_ret
    exact ⟨⟨_, rfl, iff_no E.out⟩, UP.out⟩
  subst e0
  have g0 : (x0 == x0) = true := by simp
  by_cases e1 : x1 = y1
  rotate_left
  · have g1 : (x1 == y1) = false := by simpa using e1
    have E : Hid (¬ (⟨x0, x1, x2, lc, lr⟩ : PDataM) = ⟨x0, y1, y2, mc, mr⟩) := fun h => e1 (by simp only [PDataM.mk.injEq] at h; exact h.2.1)
    clear e1
    go_wp2
    go_ret
    exact ⟨⟨_, rfl, iff_no E.out⟩, UP.out⟩
  subst e1
  have g1 : (x1 == x1) = true := by simp
  by_cases e2 : x2 = y2
  rotate_left
  · have g2 : (x2 == y2) = false := by simpa using e2
    have E : Hid (¬ (⟨x0, x1, x2, lc, lr⟩ : PDataM) = ⟨x0, x1, y2, mc, mr⟩) := fun h => e2 (by simp only [PDataM.mk.injEq] at h; exact h.2.2.1)
    clear e2
    go_wp2
    go_ret
    exact ⟨⟨_, rfl, iff_no E.out⟩, UP.out⟩
  subst e2
  have g2 : (x2 == x2) = true := by simp
  by_cases e3 : lc = mc
  rotate_left
  · have E3 : Hid (¬ lc = mc) := e3
    have E : Hid (¬ (⟨x0, x1, x2, lc, lr⟩ : PDataM) = ⟨x0, x1, x2, mc, mr⟩) := fun h => E3.out (by simp only [PDataM.mk.injEq] at h; exact h.2.2.2.1)
    clear e3
    go_wp2_with (go_at_call 46; refine (WC.out _ UP.out).mono ?_; rintro e w1 ⟨hs1, b1⟩; obtain rfl := hs1.no E3.out; clear hs1)
    go_ret
    exact ⟨⟨_, rfl, iff_no E.out⟩, bnext UP.out b1⟩
  subst e3
  by_cases e4 : lr = mr
  rotate_left
  · have E4 : Hid (¬ lr = mr) := e4
    have E : Hid (¬ (⟨x0, x1, x2, lc, lr⟩ : PDataM) = ⟨x0, x1, x2, lc, mr⟩) := fun h => E4.out (by simp only [PDataM.mk.injEq] at h; exact h.2.2.2.2)
    clear e4
    go_wp2_with (first
      | (go_at_call 45; refine (RC.out _ (bnext UP.out b1)).mono ?_; rintro e w2 ⟨hs2, b2⟩; obtain rfl := hs2.no E4.out; clear hs2)
      | (go_at_call 46; refine (WC.out _ UP.out).mono ?_; rintro e w1 ⟨hs1, b1⟩; obtain rfl := hs1.yes (by first | rfl | trivial); clear hs1; clear p4 q4; have p4 := (XA.out.later ha.out b1).1 4 _ rfl; have q4 := (XB.out.later hb.out b1).1 4 _ rfl))
    go_ret
    exact ⟨⟨_, rfl, iff_no E.out⟩, bnext UP.out (bnext b1 b2)⟩
  subst e4
  go_wp2_with (first
    | (go_at_call 45; refine (RC.out _ (bnext UP.out b1)).mono ?_; rintro e w2 ⟨hs2, b2⟩; obtain rfl := hs2.yes (by first | rfl | trivial); clear hs2)
    | (go_at_call 46; refine (WC.out _ UP.out).mono ?_; rintro e w1 ⟨hs1, b1⟩; obtain rfl := hs1.yes (by first | rfl | trivial); clear hs1; clear p4 q4; have p4 := (XA.out.later ha.out b1).1 4 _ rfl; have q4 := (XB.out.later hb.out b1).1 4 _ rfl))
  go_ret
  exact ⟨⟨_, rfl, iff_yes (by first | rfl | trivial)⟩, bnext UP.out (bnext b1 b2)⟩
end Go.Proofs.YteakbpcmafdikaaGreatDoor
