/- What the document's own Write of images returns. -/
import Derived.Test.YtlpmkbdoofbmiaaImgRef
namespace Go.Proofs.Ytlpmkbdoofbmiaa
open Go.ChangeShapes Go.WideShapes Go.ChangeAt Go.RowKit
set_option linter.unusedVariables false
set_option linter.unusedSimpArgs false
/-- A row under way: one's own, behind the world w0. -/
structure Gw (w0 W : World) (v : Value) (T : Bs) (N : Nat) : Prop where
  own : OwnB w0.heap.size W v T
  low : Below w0.heap.size w0 W
  len : T.length = N
theorem wrap_u32 {y : Int} (h0 : 0 ≤ y) (h1 : y < 4294967296) : IntKind.u32.wrap y = y := by simp [IntKind.wrap, IntKind.bits, IntKind.signed]; omega
theorem Gw.later {w0 W W' : World} {v : Value} {T : Bs} {N : Nat} (h : Gw w0 W v T N) (hb : Below W.heap.size W W') : Gw w0 W' v T N := ⟨h.own.later hb, h.low.trans (hb.mono h.low.size), h.len⟩
/-- 'append(out, l...)' behind some calls. -/
theorem wpList_gw {w0 W W1 : World} {ops : Array Oper} {rest : List Oper} {op : Oper} {a : Act} {Q : Exit → Act → World → Prop} {v : Value} {T : Bs} {N : Nat} (h : Gw w0 W v T N) (hb : Below W.heap.size W W1) (hgd : op.guard = none) (s x : Operand)
    (ho : op.op = .call { callee := .builtin .append, args := #[s, x], argTypes := #[23, 23] })
    (hs : a.eval s = v) (sp : Option Addr) (m c : Nat) (l : Bs) (hx : a.eval x = .slice sp m c) (hl : l.length = m) (hsrc : Src W1 sp c l) (h63 : N + m ≤ 3000000)
    (hk : ∀ v' w', Gw w0 w' v' (T ++ l) (N + m) → wpList Try.prog ops Q rest (a.put op.dst v') w') : wpList Try.prog ops Q (op :: rest) a W1 := by
  have h1 := h.later hb
  refine wpList_app9 hgd s x ho w0.heap.size v T hs h1.own sp m c l hx hl hsrc (by rw [h.len]; exact h63) h1.low.size ?_
  intro v' w' o b g
  exact hk v' w' ⟨o, h1.low.trans b, by rw [List.length_append, h.len, hl]⟩
theorem Gw.start {w0 W W' : World} {v : Value} {T : Bs} (hb : Below w0.heap.size w0 W) {base : Nat} (hB : w0.heap.size ≤ base) (o : OwnB base W' v T) (hb' : Below W.heap.size W W') : Gw w0 W' v T T.length := ⟨own_less o hB, hb.trans (hb'.mono hb.size), rfl⟩
theorem row_src {A : Nat → Prop} {w : World} {a : Option Addr} {n c : Nat} {l : Bs} (h : IsBytes A w (.slice a n c) l) : n = l.length ∧ Src w a c l := by
  obtain ⟨a', c', e, ⟨hh, -⟩, hb, -⟩ := h.row
  simp only [Value.slice.injEq] at e
  obtain ⟨rfl, e2, rfl⟩ := e
  exact ⟨e2, src_bytes rfl hh hb⟩
theorem rput_src (x : Int) (x0 : 0 ≤ x) (x1 : x < 4294967296) (W : World) : Calls Try.prog 18 #[.int .u32 x] W fun e w' => ∃ q, e = .returned (.slice (some ⟨q, 0, none⟩) 4 4) ∧ Src w' (some ⟨q, 0, none⟩) 4 (digL 4 x) ∧ Below W.heap.size W w' := by
  refine (rput_any x W x0 x1).mono ?_
  rintro e w' ⟨rfl, rfl⟩
  exact ⟨_, rfl, src_new W _ _ _ (dig4_bytes x x0 x1) 4, keep_alloc8 (Below.refl _ _) _⟩
set_option maxRecDepth 100000 in
set_option maxHeartbeats 2000000 in
theorem rwrite15 {A : Nat → Prop} {w : World} {v : Value} {m : ImM} (h : IsImg A w v m) (ok : imgOk m) :
    Calls Try.prog 12 #[v] w fun e w' => ∃ v', e = .returned v' ∧ OwnB w.heap.size w' v' (imgW m) ∧ Below w.heap.size w w' := by
  obtain ⟨ca, cc, da, dc, rfl, h1, h2⟩ := h.open
  obtain ⟨code, entry, data, wr', mo⟩ := m
  obtain ⟨⟨k1, k1'⟩, ⟨k2, k3⟩, k4, ⟨k5, k6⟩, k7, k8⟩ := ok
  dsimp only at *
  obtain ⟨C, eC⟩ : ∃ C, code.length = C := ⟨_, rfl⟩
  obtain ⟨D, eD⟩ : ∃ D, data.length = D := ⟨_, rfl⟩
  have k3' : entry ≤ 65536 := by unfold lastZ at k3; split at k3 <;> omega
  obtain ⟨_, _, e1, -, -, cx⟩ := LstA.open h1.1
  simp only [Value.slice.injEq] at e1
  obtain ⟨rfl, -, rfl⟩ := e1
  have CX : Hid (∀ k, k < C → ∃ b off x, ca = some ⟨b, off, none⟩ ∧ A b ∧ code[k]? = some x ∧ NumAt .u32 w b (off + k * 1) x) := by rw [eC] at cx; exact cx
  have SD : Hid (∀ W, Below w.heap.size w W → Src W da dc data) := fun W hW => (row_src (h2.keep (Stay.of_below hW))).2
  have CW : Hid (∀ x ∈ code, 0 ≤ x ∧ x < 4294967296) := k1'
  have EC : Hid (code.length = C ∧ data.length = D) := ⟨eC, eD⟩
  have hC : (C : Int) ≤ 65536 := by rw [← eC]; omega
  have hD : (D : Int) ≤ 65536 := by rw [← eD]; omega
  have hW : wr' ≤ 65536 := by omega
  rw [eC, eD]
  have uC := wrap_u32 (y := (C : Int)) (by omega) (by omega)
  have uD := wrap_u32 (y := (D : Int)) (by omega) (by omega)
  have uE := wrap_u32 k2 (by omega)
  have uW := wrap_u32 k5 (by omega)
  have uM := wrap_u32 k7 (by omega)
  have up : Below w.heap.size w (w.alloc (.cells #[.slice ca C cc, .int .i64 entry, .slice da D dc, .int .i64 wr', .int .i64 mo] 25)) := keep_alloc8 (Below.refl _ _) _
  have UP := Hid.mk9 up
  have X1 := Hid.mk9 (XAt.new w #[.slice ca C cc, .int .i64 entry, .slice da D dc, .int .i64 wr', .int .i64 mo] 25)
  have PUT : Hid (∀ x, 0 ≤ x → x < 4294967296 → ∀ W, Calls Try.prog 18 #[.int .u32 x] W fun e w' => ∃ q, e = .returned (.slice (some ⟨q, 0, none⟩) 4 4) ∧ Src w' (some ⟨q, 0, none⟩) 4 (digL 4 x) ∧ Below W.heap.size W w') := rput_src
  clear h h1 h2 cx k1' eC eD up k1 k4
  go_enter Try.func12, Try.ntmps12
  go_upto_region 1 with fail
  have hX : Hid (w.heap.size < (w.alloc (.cells #[.slice ca C cc, .int .i64 entry, .slice da D dc, .int .i64 wr', .int .i64 mo] 25)).heap.size) := by unfold Hid; simp
  generalize w.alloc (.cells #[.slice ca C cc, .int .i64 entry, .slice da D dc, .int .i64 wr', .int .i64 mo] 25) = w0 at UP X1 hX ⊢
  have CELLS : Hid (∀ W, Below w0.heap.size w0 W → W.cell? ⟨w.heap.size, 0, none⟩ = some (.slice ca C cc) ∧ W.cell? ⟨w.heap.size, 1, none⟩ = some (.int .i64 entry) ∧ W.cell? ⟨w.heap.size, 2, none⟩ = some (.slice da D dc) ∧ W.cell? ⟨w.heap.size, 3, none⟩ = some (.int .i64 wr') ∧ W.cell? ⟨w.heap.size, 4, none⟩ = some (.int .i64 mo)) :=
    fun W h => ⟨(X1.out.later hX.out h).1 0 _ rfl, (X1.out.later hX.out h).1 1 _ rfl, (X1.out.later hX.out h).1 2 _ rfl, (X1.out.later hX.out h).1 3 _ rfl, (X1.out.later hX.out h).1 4 _ rfl⟩
  obtain ⟨c0, -, -, -, -⟩ := CELLS.out w0 (Below.refl _ _)
  have hcv := Lib.run_convert_bytes_const (P := Try.prog) w0 23 5 #[.int .u8 83, .int .u8 80, .int .u8 88, .int .u8 49] 4 4 Try.underlying23 Try.underlying5
  obtain ⟨i0, hi0, hz0, hz1, hz2⟩ := info_parts slB
  have B1 : Hid (Below w0.heap.size w0 (w0.alloc (.cells #[.int .u8 83, .int .u8 80, .int .u8 88, .int .u8 49] 5 (4, 5)))) := keep_alloc8 (Below.refl _ _) _
  have O1 : Hid (∀ W, Below (w0.alloc (.cells #[.int .u8 83, .int .u8 80, .int .u8 88, .int .u8 49] 5 (4, 5))).heap.size (w0.alloc (.cells #[.int .u8 83, .int .u8 80, .int .u8 88, .int .u8 49] 5 (4, 5))) W → ∀ b, some (⟨w0.heap.size, 0, none⟩ : Addr) = some b → ∀ j u, (spxL.map fun x => Value.int .u8 x)[j]? = some u → W.cell? (b.add j) = some u) := fun W hW b e j u hu => by
    cases e
    rw [show (⟨w0.heap.size, 0, none⟩ : Addr).add j = ⟨w0.heap.size, j, none⟩ from by cases j <;> simp [Addr.add]]
    refine cell_later' ?_ hW
    rw [World.cell?_alloc_mark, ← Array.getElem?_toList]
    exact hu
  have c0' := cell_later' c0 B1.out
  go_upto_region 2 with (first
    | (go_at_call 18; refine (PUT.out (C : Int) (by omega) (by omega) _).mono ?_; rintro e w2 ⟨q1, rfl, s1, b1⟩)
    | (at_builtin; refine wpList_append_grows _ rfl (.tmp 6) (.tmp 11) 23 rfl 5 i0 _ 1 1 Try.underlying23 hi0 hz0 hz1 hz2 rfl (by decide) (some ⟨w0.heap.size, 0, none⟩) 4 4 (spxL.map fun x => .int .u8 x) rfl (fun e => by cases e) rfl (O1.out _ b1) ⟨q1, 0, none⟩ 4 4 ((digL 4 (C : Int)).map fun x => .int .u8 x) rfl (by rw [List.length_map, digL_len]) (s1.2 _ rfl) (by intro u hu; obtain ⟨y, _, rfl⟩ := List.mem_map.mp hu; rfl) (by omega) (by unfold maxLen; omega) (by omega) ?_; intro v3 w3 o3 g3))
  have B3 : Below w0.heap.size w0 w3 := B1.out.trans ((Below.grown b1 g3 b1.size (fun q hq => by cases hq)).mono B1.out.size)
  have G0 : Hid (Gw w0 w3 v3 (spxL ++ digL 4 (C : Int)) 8) := ⟨own_less o3 (Nat.le_trans B1.out.size b1.size), B3, by rw [List.length_append, digL_len]; rfl⟩
  clear o3 g3 b1 s1 O1 B1 c0 c0' hcv hi0 hz0 hz1 hz2 B3
  obtain ⟨T, eT⟩ : ∃ T, spxL ++ digL 4 (C : Int) = T := ⟨_, rfl⟩
  have ET := Hid.mk9 eT
  rw [eT] at G0
  clear eT
  go_wp2
  go_loopw [3, 4] (fun ov i wr => ∃ k : Nat, k ≤ C ∧ i = .int .i64 k ∧ Gw w0 wr ov (T ++ flatW (digL 4) (code.take k)) (8 + 4 * k)) (fun _ i _ => C - (intOf i).toNat)
  case atStart => exact ⟨0, Nat.zero_le _, rfl, by rw [List.take_zero]; show Gw w0 w3 v3 (T ++ []) 8; rw [List.append_nil]; exact G0.out⟩
  case round =>
    clear G0
    obtain ⟨k, hk, rfl, hg⟩ := hrel
    have HG := Hid.mk9 hg
    clear hg
    by_cases hlt : k < C
    · have hlt' : (k : Int) < C := by omega
      obtain ⟨q, off, x, rfl, -, hx, x0⟩ := CX.out k hlt
      have hx2 := CW.out _ (List.mem_of_getElem? hx)
      have HX := Hid.mk9 hx
      unfold NumAt at x0
      rw [Nat.mul_one] at x0
      replace x0 := cell_later' (cell_later' x0 UP.out) HG.out.low
      obtain ⟨c0, -, -, -, -⟩ := CELLS.out wr HG.out.low
      clear hx
      have P1 := Hid.mk9 (PUT.out x hx2.1 hx2.2)
      clear hx2
      go_wp2_with (first
        | (go_at_call 18; refine (P1.out _).mono ?_; rintro e w4 ⟨q1, rfl, s4, b4⟩)
        | (at_builtin; refine wpList_gw HG.out b4 rfl (.tmp 20) (.tmp 26) rfl rfl (some ⟨q1, 0, none⟩) 4 4 (digL 4 x) rfl (digL_len _ _) s4 (by omega) ?_; intro v5 w5 G5))
      go_roundw
      case rel =>
        refine ⟨k + 1, by omega, by go_num, ?_⟩
        rw [flat_next HX.out, ← List.append_assoc]
        exact G5
      case measure => simp [intOf]; omega
    · obtain rfl : k = C := by omega
      have hg2 := HG.out
      rw [List.take_of_length_le (by rw [EC.out.1]; exact Nat.le_refl _)] at hg2
      have HG2 := Hid.mk9 hg2
      clear HG hg2
      obtain ⟨T2, eT2⟩ : ∃ T2, T ++ flatW (digL 4) code = T2 := ⟨_, rfl⟩
      have ET2 := Hid.mk9 eT2
      rw [eT2] at HG2
      obtain ⟨c0, c1, -, -, -⟩ := CELLS.out wr HG2.out.low
      clear eT2
      go_upto_region 7 with (first
        | (go_at_call 18; refine (PUT.out entry k2 (by omega) _).mono ?_; rintro e w4 ⟨q1, rfl, s4, b4⟩)
        | (at_builtin; refine wpList_gw HG2.out b4 rfl (.tmp 28) (.tmp 32) rfl rfl (some ⟨q1, 0, none⟩) 4 4 (digL 4 entry) rfl (digL_len _ _) s4 (by omega) ?_; intro v5 w5 G5))
      have G5h := Hid.mk9 G5
      obtain ⟨-, -, c2, -, -⟩ := CELLS.out w5 G5.low
      clear G5 s4 b4 c0 c1
      go_upto_region 8 with (first
        | (go_at_call 18; refine (PUT.out (D : Int) (by omega) (by omega) _).mono ?_; rintro e w6 ⟨q2, rfl, s4, b4⟩)
        | (at_builtin; refine wpList_gw G5h.out b4 rfl (.tmp 34) (.tmp 39) rfl rfl (some ⟨q2, 0, none⟩) 4 4 (digL 4 (D : Int)) rfl (digL_len _ _) s4 (by omega) ?_; intro v7 w7 G7))
      have G7h := Hid.mk9 G7
      replace c2 := (CELLS.out w7 G7.low).2.2.1
      have sd := SD.out w7 (bnext UP.out G7.low)
      clear G7 s4 b4
      go_upto_region 9 with (at_builtin; refine wpList_gw G7h.out (Below.refl _ _) rfl (.tmp 41) (.tmp 43) rfl rfl da D dc data rfl EC.out.2 sd (by omega) ?_; intro v8 w8 G8)
      have G8h := Hid.mk9 G8
      have c3 := (CELLS.out w8 G8.low).2.2.2.1
      clear G8 sd c2
      go_upto_region 10 with (first
        | (go_at_call 18; refine (PUT.out wr' k5 (by omega) _).mono ?_; rintro e w9 ⟨q3, rfl, s4, b4⟩)
        | (at_builtin; refine wpList_gw G8h.out b4 rfl (.tmp 45) (.tmp 49) rfl rfl (some ⟨q3, 0, none⟩) 4 4 (digL 4 wr') rfl (digL_len _ _) s4 (by omega) ?_; intro v10 w10 G10))
      have G10h := Hid.mk9 G10
      have c4 := (CELLS.out w10 G10.low).2.2.2.2
      clear G10 s4 b4 c3
      go_wp2_with (first
        | (go_at_call 18; refine (PUT.out mo k7 (by omega) _).mono ?_; rintro e w11 ⟨q4, rfl, s4, b4⟩)
        | (at_builtin; refine wpList_gw G10h.out b4 rfl (.tmp 51) (.tmp 55) rfl rfl (some ⟨q4, 0, none⟩) 4 4 (digL 4 mo) rfl (digL_len _ _) s4 (by omega) ?_; intro v12 w12 G12))
      go_ret
      refine ⟨v12, rfl, ?_, bnext UP.out G12.low⟩
      have e : imgW ⟨code, entry, data, wr', mo⟩ = T2 ++ digL 4 entry ++ digL 4 (D : Int) ++ data ++ digL 4 wr' ++ digL 4 mo := by
        rw [← ET2.out, ← ET.out]
        unfold imgW
        dsimp only
        rw [EC.out.1, EC.out.2]
        simp only [List.append_assoc]
      rw [e]
      exact own_less G12.own UP.out.size
end Go.Proofs.Ytlpmkbdoofbmiaa
