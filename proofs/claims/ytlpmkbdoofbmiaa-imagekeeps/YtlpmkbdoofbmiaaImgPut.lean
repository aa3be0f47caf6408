/- What the code's own Write of images returns. -/
import Derived.Test.YtlpmkbdoofbmiaaImgOwn
namespace Go.Proofs.Ytlpmkbdoofbmiaa
open Go.ChangeShapes Go.WideShapes Go.ChangeAt Go.RowKit
set_option linter.unusedVariables false
set_option linter.unusedSimpArgs false
theorem iput {w0 W : World} {v : Value} {T : Bs} {N : Nat} (h : Gw w0 W v T N) (x : Int) (x0 : 0 ≤ x) (x1 : x < 4294967296) (hN : N ≤ 2000000) :
    Calls Try.prog 17 #[v, .int .i64 x] W fun e w' => ∃ v', e = .returned v' ∧ Gw w0 w' v' (T ++ digL 4 x) (N + 4) := by
  have PU : Hid (∀ W, Calls Try.prog 26 #[.int .i64 x, .int .i64 (4 : Nat)] W fun e w' => ∃ a c, e = .returned (.slice a 4 c) ∧ w'.ownsRow W.heap.size 5 1 (.slice a 4 c) 4 (cellsK .u8 4 fun i => x / 256 ^ i % 256) ∧ Below W.heap.size W w') := fun W => put_own x 4 W x0 x1 (by omega) (by omega)
  have HG := Hid.mk9 h
  clear h x0 x1
  go_enter Try.func17, Try.ntmps17
  go_wp2_with (first
    | (go_at_call 26; refine (PU.out _).mono ?_; rintro e w1 ⟨a1, c1, rfl, o1, b1⟩)
    | (at_builtin; refine wpList_gw HG.out b1 rfl (.tmp 5) (.tmp 7) rfl rfl a1 4 c1 (digL 4 x) rfl (digL_len _ _) (dig_src o1) (by omega) ?_; intro v2 w2 G2))
  go_ret
  exact ⟨v2, rfl, G2⟩
/-- The first one, behind a literal. -/
theorem iput0 {w : World} {q cap : Nat} {l : Bs} (hc : ∀ W, Below w.heap.size w W → ∀ b, some (⟨q, 0, none⟩ : Addr) = some b → ∀ j u, (l.map fun x => Value.int .u8 x)[j]? = some u → W.cell? (b.add j) = some u) (hl : l.length = cap) (hl2 : cap ≤ 1000) (x : Int) (x0 : 0 ≤ x) (x1 : x < 4294967296) :
    Calls Try.prog 17 #[.slice (some ⟨q, 0, none⟩) cap cap, .int .i64 x] w fun e w' => ∃ v', e = .returned v' ∧ OwnB w.heap.size w' v' (l ++ digL 4 x) ∧ Below w.heap.size w w' := by
  have PU : Hid (∀ W, Calls Try.prog 26 #[.int .i64 x, .int .i64 (4 : Nat)] W fun e w' => ∃ a c, e = .returned (.slice a 4 c) ∧ w'.ownsRow W.heap.size 5 1 (.slice a 4 c) 4 (cellsK .u8 4 fun i => x / 256 ^ i % 256) ∧ Below W.heap.size W w') := fun W => put_own x 4 W x0 x1 (by omega) (by omega)
  have HC : Hid (∀ W, Below w.heap.size w W → ∀ b, some (⟨q, 0, none⟩ : Addr) = some b → ∀ j u, (l.map fun x => Value.int .u8 x)[j]? = some u → W.cell? (b.add j) = some u) := hc
  have HB : Hid (l.length = cap ∧ cap ≤ 1000) := ⟨hl, hl2⟩
  obtain ⟨i0, hi0, hz0, hz1, hz2⟩ := info_parts slB
  clear hc x0 x1 hl hl2
  go_enter Try.func17, Try.ntmps17
  go_wp2_with (first
    | (go_at_call 26; refine (PU.out _).mono ?_; rintro e w1 ⟨a1, c1, rfl, o1, b1⟩; obtain ⟨p1, rfl⟩ : ∃ p, a1 = some p := by (cases a1 with | none => exact absurd ((dig_src o1).1 rfl).1 (fun e => by have h := congrArg List.length e; rw [digL_len] at h; simp at h) | some p => exact ⟨p, rfl⟩))
    | (at_builtin; refine wpList_append_grows _ rfl (.tmp 5) (.tmp 7) 23 rfl 5 i0 _ 1 1 Try.underlying23 hi0 hz0 hz1 hz2 rfl (by decide) (some ⟨q, 0, none⟩) cap cap (l.map fun x => .int .u8 x) rfl (fun e => by cases e) (by rw [List.length_map, HB.out.1, Nat.mul_one]) (HC.out _ b1) p1 4 c1 ((digL 4 x).map fun x => .int .u8 x) rfl (by rw [List.length_map, digL_len, Nat.mul_one]) ((dig_src o1).2 _ rfl) (by intro u hu; obtain ⟨y, _, rfl⟩ := List.mem_map.mp hu; rfl) (by have := HB.out; omega) (by unfold maxLen; have := HB.out; omega) (by have := HB.out; omega) ?_; intro v3 w3 o3 g3))
  go_ret
  refine ⟨v3, rfl, ?_, Below.grown b1 g3 b1.size (fun q hq => by cases hq)⟩
  refine own_less (base := w1.heap.size) ?_ b1.size
  rw [List.length_append, HB.out.1, digL_len, List.map_append]
  exact o3
/-- The answer of a Write. -/
def WriteI (w : World) (m : ImM) (e : Ending) (w' : World) : Prop := ((imgOk m ∧ ∃ v', e = .returned (.tuple #[v', .int .i64 0]) ∧ OwnB w.heap.size w' v' (imgW m)) ∨ (¬ imgOk m ∧ ∃ a c, e = .returned (.tuple #[.slice a 0 c, .int .i64 4]))) ∧ Below w.heap.size w w'
set_option maxRecDepth 100000 in
set_option maxHeartbeats 2000000 in
theorem iwrite {A : Nat → Prop} {w : World} {v : Value} {m : ImM} (h : IsImg A w v m) : Calls Try.prog 9 #[v] w (WriteI w m) := by
  have RT : Hid (∀ W, Below w.heap.size w W → Calls Try.prog 16 #[v] W fun e w' => Says e (imgOk m) ∧ Below W.heap.size W w') := fun W hW => iright_any (h.keep (Stay.of_below hW))
  obtain ⟨ca, cc, da, dc, rfl, h1, h2⟩ := h.open
  obtain ⟨code, entry, data, wr', mo⟩ := m
  dsimp only at *
  obtain ⟨C, eC⟩ : ∃ C, code.length = C := ⟨_, rfl⟩
  obtain ⟨D, eD⟩ : ∃ D, data.length = D := ⟨_, rfl⟩
  have EC : Hid (code.length = C ∧ data.length = D) := ⟨eC, eD⟩
  obtain ⟨_, _, e1, -, -, cx⟩ := LstA.open h1.1
  simp only [Value.slice.injEq] at e1
  obtain ⟨rfl, -, rfl⟩ := e1
  have CX : Hid (∀ k, k < C → ∃ b off x, ca = some ⟨b, off, none⟩ ∧ A b ∧ code[k]? = some x ∧ NumAt .u32 w b (off + k * 1) x) := by rw [eC] at cx; exact cx
  have SD : Hid (∀ W, Below w.heap.size w W → Src W da dc data) := fun W hW => (row_src (h2.keep (Stay.of_below hW))).2
  have CW : Hid (∀ x ∈ code, 0 ≤ x ∧ x < 4294967296) := h1.2
  rw [eC, eD] at RT ⊢
  have UP : Hid (Below w.heap.size w (w.alloc (.cells #[.slice ca C cc, .int .i64 entry, .slice da D dc, .int .i64 wr', .int .i64 mo] 25))) := keep_alloc8 (Below.refl _ _) _
  have X1 := Hid.mk9 (XAt.new w #[.slice ca C cc, .int .i64 entry, .slice da D dc, .int .i64 wr', .int .i64 mo] 25)
  clear h h1 h2 cx eC eD
  go_enter Try.func9, Try.ntmps9
  go_upto_region 1 with fail
  have hX : Hid (w.heap.size < (w.alloc (.cells #[.slice ca C cc, .int .i64 entry, .slice da D dc, .int .i64 wr', .int .i64 mo] 25)).heap.size) := by unfold Hid; simp
  generalize w.alloc (.cells #[.slice ca C cc, .int .i64 entry, .slice da D dc, .int .i64 wr', .int .i64 mo] 25) = wb at UP X1 hX ⊢
  have y0 := X1.out.1 0 _ rfl
  have y1 := X1.out.1 1 _ rfl
  have y2 := X1.out.1 2 _ rfl
  have y3 := X1.out.1 3 _ rfl
  have y4 := X1.out.1 4 _ rfl
  by_cases ok : imgOk ⟨code, entry, data, wr', mo⟩
  rotate_left
  · have NO := Hid.mk9 ok
    clear ok
    go_wp2_with (go_at_call 16; refine (RT.out _ UP.out).mono ?_; rintro e w1 ⟨hs, b1⟩; obtain rfl := hs.no NO.out; clear hs)
    exact bodyPost_ret (by simp [results, Try.results9, go_sem]) rfl ⟨.inr ⟨NO.out, none, 0, rfl⟩, bnext UP.out b1⟩
  have OK := Hid.mk9 ok
  obtain ⟨⟨k1, -⟩, ⟨k2, k3⟩, k4, ⟨k5, k6⟩, k7, k8⟩ := ok
  dsimp only at *
  have k3' : entry ≤ 65536 := by unfold lastZ at k3; split at k3 <;> omega
  have hC : (C : Int) ≤ 65536 := by have := EC.out.1; omega
  have hD : (D : Int) ≤ 65536 := by have := EC.out.2; omega
  have hW : wr' ≤ 65536 := by omega
  clear k1 k3 k4 k6
  go_upto_region 3 with (go_at_call 16; refine (RT.out _ UP.out).mono ?_; rintro e w0 ⟨hs, b0⟩; obtain rfl := hs.yes OK.out; clear hs)
  have X0 : Hid (XAt w0 w.heap.size [.slice ca C cc, .int .i64 entry, .slice da D dc, .int .i64 wr', .int .i64 mo]) := X1.out.later hX.out b0
  have hX0 : Hid (w.heap.size < w0.heap.size) := Nat.lt_of_lt_of_le hX.out b0.size
  have UP0 : Hid (Below w.heap.size w w0) := bnext UP.out b0
  clear y0 y1 y2 y3 y4 X1 hX UP b0 RT
  have CELLS : Hid (∀ W, Below w0.heap.size w0 W → W.cell? ⟨w.heap.size, 0, none⟩ = some (.slice ca C cc) ∧ W.cell? ⟨w.heap.size, 1, none⟩ = some (.int .i64 entry) ∧ W.cell? ⟨w.heap.size, 2, none⟩ = some (.slice da D dc) ∧ W.cell? ⟨w.heap.size, 3, none⟩ = some (.int .i64 wr') ∧ W.cell? ⟨w.heap.size, 4, none⟩ = some (.int .i64 mo)) :=
    fun W h => ⟨(X0.out.later hX0.out h).1 0 _ rfl, (X0.out.later hX0.out h).1 1 _ rfl, (X0.out.later hX0.out h).1 2 _ rfl, (X0.out.later hX0.out h).1 3 _ rfl, (X0.out.later hX0.out h).1 4 _ rfl⟩
  have hcv := Lib.run_convert_bytes_const (P := Try.prog) w0 23 5 #[.int .u8 83, .int .u8 80, .int .u8 88, .int .u8 49] 4 4 Try.underlying23 Try.underlying5
  have B1 : Hid (Below w0.heap.size w0 (w0.alloc (.cells #[.int .u8 83, .int .u8 80, .int .u8 88, .int .u8 49] 5 (4, 5)))) := keep_alloc8 (Below.refl _ _) _
  have O1 : Hid (∀ W, Below (w0.alloc (.cells #[.int .u8 83, .int .u8 80, .int .u8 88, .int .u8 49] 5 (4, 5))).heap.size (w0.alloc (.cells #[.int .u8 83, .int .u8 80, .int .u8 88, .int .u8 49] 5 (4, 5))) W → ∀ b, some (⟨w0.heap.size, 0, none⟩ : Addr) = some b → ∀ j u, (spxL.map fun x => Value.int .u8 x)[j]? = some u → W.cell? (b.add j) = some u) := fun W hW b e j u hu => by
    cases e
    rw [show (⟨w0.heap.size, 0, none⟩ : Addr).add j = ⟨w0.heap.size, j, none⟩ from by cases j <;> simp [Addr.add]]
    refine cell_later' ?_ hW
    rw [World.cell?_alloc_mark, ← Array.getElem?_toList]
    exact hu
  go_upto_region 4 with fail
  clear hcv
  generalize w0.alloc (.cells #[.int .u8 83, .int .u8 80, .int .u8 88, .int .u8 49] 5 (4, 5)) = w1 at B1 O1 ⊢
  obtain ⟨c0, -, -, -, -⟩ := CELLS.out w1 B1.out
  have P0 := Hid.mk9 (iput0 (cap := 4) O1.out rfl (by omega) (C : Int) (by omega) (by omega))
  go_upto_region 5 with (go_at_call 17; refine P0.out.mono ?_; rintro e w3 ⟨v3, rfl, o3, b3⟩)
  have G0 : Hid (Gw w0 w3 v3 (spxL ++ digL 4 (C : Int)) 8) := ⟨own_less o3 B1.out.size, bnext B1.out b3, by rw [List.length_append, digL_len]; rfl⟩
  replace c0 := (CELLS.out w3 G0.out.low).1
  clear o3 b3 O1 B1 P0
  obtain ⟨T, eT⟩ : ∃ T, spxL ++ digL 4 (C : Int) = T := ⟨_, rfl⟩
  have ET := Hid.mk9 eT
  rw [eT] at G0
  clear eT
  go_wp2
  go_loopw [4, 20] (fun ov i wr => ∃ k : Nat, k ≤ C ∧ i = .int .i64 k ∧ Gw w0 wr ov (T ++ flatW (digL 4) (code.take k)) (8 + 4 * k)) (fun _ i _ => C - (intOf i).toNat)
  case atStart => exact ⟨0, Nat.zero_le _, rfl, by rw [List.take_zero]; show Gw w0 w3 v3 (T ++ []) 8; rw [List.append_nil]; exact G0.out⟩
  case round =>
    clear G0 c0
    obtain ⟨k, hk, rfl, hg⟩ := hrel
    have HG := Hid.mk9 hg
    clear hg
    by_cases hlt : k < C
    · have hlt' : (k : Int) < C := by omega
      obtain ⟨q, off, x, rfl, -, hx, x0⟩ := CX.out k hlt
      have hx2 := CW.out _ (List.mem_of_getElem? hx)
      have HX := Hid.mk9 hx
      unfold NumAt at x0
      rw [Nat.mul_one] at x0
      replace x0 := cell_later' (cell_later' x0 UP0.out) HG.out.low
      have ux := wrap_small hx2.1 hx2.2
      have P1 := Hid.mk9 (iput HG.out x hx2.1 hx2.2 (by omega))
      clear hx hx2
      go_wp2_with (go_at_call 17; refine P1.out.mono ?_; rintro e w5 ⟨v5, rfl, G5⟩)
      go_roundw
      case rel =>
        refine ⟨k + 1, by omega, by go_num, ?_⟩
        rw [flat_next HX.out, ← List.append_assoc]
        exact G5
      case measure => simp [intOf]; omega
    · obtain rfl : k = C := by omega
      have hg2 := HG.out
      rw [List.take_of_length_le (by rw [EC.out.1]; exact Nat.le_refl _)] at hg2
      have HG2 := Hid.mk9 hg2
      clear HG hg2
      obtain ⟨T2, eT2⟩ : ∃ T2, T ++ flatW (digL 4) code = T2 := ⟨_, rfl⟩
      have ET2 := Hid.mk9 eT2
      rw [eT2] at HG2
      obtain ⟨-, c1, -, -, -⟩ := CELLS.out wr HG2.out.low
      clear eT2
      have P2 := Hid.mk9 (iput HG2.out entry k2 (by omega) (by omega))
      go_upto_region 11 with (go_at_call 17; refine P2.out.mono ?_; rintro e w5 ⟨v5, rfl, G5⟩)
      have G5h := Hid.mk9 G5
      have c2 := (CELLS.out w5 G5.low).2.2.1
      clear G5 c1 P2
      have P3 := Hid.mk9 (iput G5h.out (D : Int) (by omega) (by omega) (by omega))
      go_upto_region 12 with (go_at_call 17; refine P3.out.mono ?_; rintro e w7 ⟨v7, rfl, G7⟩)
      have G7h := Hid.mk9 G7
      replace c2 := (CELLS.out w7 G7.low).2.2.1
      have sd := SD.out w7 (bnext UP0.out G7.low)
      clear G7 P3
      go_upto_region 13 with (at_builtin; refine wpList_gw G7h.out (Below.refl _ _) rfl (.tmp 38) (.tmp 40) rfl rfl da D dc data rfl EC.out.2 sd (by omega) ?_; intro v8 w8 G8)
      have G8h := Hid.mk9 G8
      have c3 := (CELLS.out w8 G8.low).2.2.2.1
      clear G8 sd c2
      have P4 := Hid.mk9 (iput G8h.out wr' k5 (by omega) (by omega))
      go_upto_region 14 with (go_at_call 17; refine P4.out.mono ?_; rintro e w10 ⟨v10, rfl, G10⟩)
      have G10h := Hid.mk9 G10
      have c4 := (CELLS.out w10 G10.low).2.2.2.2
      clear G10 c3 P4
      have P5 := Hid.mk9 (iput G10h.out mo k7 (by omega) (by omega))
      go_wp2_with (go_at_call 17; refine P5.out.mono ?_; rintro e w12 ⟨v12, rfl, G12⟩)
      refine bodyPost_ret (v := .tuple #[v12, .int .i64 0]) (by simp [results, Try.results9, go_sem]) rfl ⟨.inl ⟨OK.out, v12, rfl, ?_⟩, bnext UP0.out G12.low⟩
      have e : imgW ⟨code, entry, data, wr', mo⟩ = T2 ++ digL 4 entry ++ digL 4 (D : Int) ++ data ++ digL 4 wr' ++ digL 4 mo := by
        rw [← ET2.out, ← ET.out]
        unfold imgW
        dsimp only
        rw [EC.out.1, EC.out.2]
        simp only [List.append_assoc]
      rw [e]
      exact own_less G12.own UP0.out.size
end Go.Proofs.Ytlpmkbdoofbmiaa
