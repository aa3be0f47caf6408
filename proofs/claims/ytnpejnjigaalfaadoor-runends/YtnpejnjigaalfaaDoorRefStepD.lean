/- What the document's own Step returns, by the operation. -/
import Derived.Test.YtnpejnjigaalfaaDoorRefStep
namespace Go.Proofs.YtnpejnjigaalfaaDoor
open Go.ChangeShapes Go.WideShapes Go.ChangeAt Go.RowKit
set_option linter.unusedVariables false
set_option linter.unusedSimpArgs false
set_option maxRecDepth 100000 in
set_option maxHeartbeats 1000000 in
theorem rstep_pure {w : World} {C : Array Value} {s : St} (h : IsSt w (.agg C) s) (hs : Small s) (he : s.en = false) (a : Option Addr) (n c : Nat) (f : Nat → Int) (i : Nat) (x : Int) (hn : n ≤ 1000) (hw : RowK .u32 w a n f) (hi : s.at_ = i) (hin : i < n) (hx : f i = x) (o : Int) (ho : 1 ≤ o ∧ o ≤ 10) (ra rb rc : Nat) (imm : Int) (ha : ra < 16) (hb : rb < 16) (hc : rc < 16) (hI : -8388608 ≤ imm ∧ imm ≤ 8388607) (hJ : -32768 ≤ imm ∧ imm ≤ 65535) (hL : o = 10 → 0 ≤ imm)
    (hG : ∀ W, Below w.heap.size w W → Calls Tryd.prog 21 #[.int .u32 x] W fun e w' => e = .returned (.tuple #[.agg #[.int .i64 o, .int .i64 ra, .int .i64 rb, .int .i64 rc, .int .i64 imm], .bool true]) ∧ Below W.heap.size W w') :
    Calls Tryd.prog 13 #[.slice a n c, .agg C] w (StPost w C (opZ o ra rb rc imm s)) := by
  have t0 : (o == 0) = false := by simp; omega
  have e0 : ¬ o = 0 := by omega
  have t25 : (o == 25) = false := by simp; omega
  have e25 : ¬ o = 25 := by omega
  have t21 : (o == 21) = false := by simp; omega
  have e21 : ¬ o = 21 := by omega
  have t11 : (o == 11) = false := by simp; omega
  have e11 : ¬ o = 11 := by omega
  have t13 : (o == 13) = false := by simp; omega
  have e13 : ¬ o = 13 := by omega
  have t12 : (o == 12) = false := by simp; omega
  have e12 : ¬ o = 12 := by omega
  have t14 : (o == 14) = false := by simp; omega
  have e14 : ¬ o = 14 := by omega
  have t22 : (o == 22) = false := by simp; omega
  have e22 : ¬ o = 22 := by omega
  have t23 : (o == 23) = false := by simp; omega
  have e23 : ¬ o = 23 := by omega
  have t24 : (o == 24) = false := by simp; omega
  have e24 : ¬ o = 24 := by omega
  have n24 : (o != 24) = true := by simp; omega
  have hOO : o = 1 ∨ o = 2 ∨ o = 3 ∨ o = 4 ∨ o = 5 ∨ o = 6 ∨ o = 7 ∨ o = 8 ∨ o = 9 ∨ (o = 10 ∧ 0 ≤ imm) ∨ o = 24 := by
    by_cases e : o = 10
    · have := hL e; omega
    · omega
  have DO : Hid (∀ W, Calls Tryd.prog 26 #[.agg #[.int .i64 o, .int .i64 ra, .int .i64 rb, .int .i64 rc, .int .i64 imm], .int .u32 (s.r rb), .int .u32 (s.r rc)] W fun e w' => e = .returned (.int .u32 (doZ o imm (s.r rb).toNat (s.r rc).toNat)) ∧ Below W.heap.size W w') := fun W => by
    have h1 := hs.1.2 rb
    have h2 := hs.1.2 rc
    have h := rdo_any o ra rb rc imm (s.r rb).toNat (s.r rc).toNat W (by omega) (by omega) hJ.1 hJ.2 hOO
    rwa [Int.toNat_of_nonneg h1.1, Int.toNat_of_nonneg h2.1] at h
  obtain ⟨v, ev⟩ : ∃ v, doZ o imm (s.r rb).toNat (s.r rc).toNat = v := ⟨_, rfl⟩
  rw [ev] at DO
  have EV : Hid (doZ o imm (s.r rb).toNat (s.r rc).toNat = v) := ev
  clear ev hJ
  have B0 : Hid (Boxed w ((w.alloc (.cells C 37)).alloc (.cells noSt 37)) w.heap.size (w.heap.size + 1) C C s) := Boxed.new h _ _
  clear h
  go_enter Tryd.func13, Tryd.ntmps13
  go_upto_region 1 with fail
  rw [noSt_def]
  generalize (w.alloc (.cells C 37)).alloc (.cells noSt 37) = w0 at B0 ⊢
  have HG : Hid (∀ W, Below w0.heap.size w0 W → Calls Tryd.prog 21 #[.int .u32 x] W fun e w' => e = .returned (.tuple #[.agg #[.int .i64 o, .int .i64 ra, .int .i64 rb, .int .i64 rc, .int .i64 imm], .bool true]) ∧ Below W.heap.size W w') := fun W hW => hG W (bnext B0.out.bel hW)
  obtain ⟨-, rfl | ⟨b, off, rfl, hcw⟩⟩ := hw
  · omega
  have xi := cell_later' (hcw i hin) B0.out.bel
  rw [hx] at xi
  have q1 : decide ((i : Int) < 0) = false := by simp
  have q2 : decide (n ≤ i) = false := by simp [hin]
  clear hG hcw hx
  obtain ⟨x0, -, -, x22, -, -⟩ := cell_st B0.out
  rw [he] at x22
  rw [hi] at x0
  go_upto_region 6 with (go_at_call 21; refine (HG.out _ (Below.refl _ _)).mono ?_; rintro e w1 ⟨rfl, hb1⟩; have HB1 : Hid (Below w0.heap.size w0 w1) := hb1)
  have B1 : Hid (Boxed w (w1.alloc (.cells #[.int .i64 o, .int .i64 ra, .int .i64 rb, .int .i64 rc, .int .i64 imm] 54)) w.heap.size (w.heap.size + 1) C C s) := (B0.out.later HB1.out).later ((Below.refl _ _).alloc (Nat.le_refl _) _)
  have I1 : Hid (InsAt (w1.alloc (.cells #[.int .i64 o, .int .i64 ra, .int .i64 rb, .int .i64 rc, .int .i64 imm] 54)) w1.heap.size o ra rb rc imm) := InsAt.new _ _ _ _ _ _ _
  have L1 : Hid (w.heap.size + 1 < w1.heap.size) := by have h1 := B0.out.hb; have h2 := HB1.out.size; have h3 := B0.out.hb.2.2.2.2; show _ < _; omega
  clear x0 x22 hb1 HB1 HG B0 xi q1 q2
  generalize w1.alloc (.cells #[.int .i64 o, .int .i64 ra, .int .i64 rb, .int .i64 rc, .int .i64 imm] 54) = w2 at B1 I1 ⊢
  have KD : Hid (∀ W, Calls Tryd.prog 22 #[.agg #[.int .i64 o, .int .i64 ra, .int .i64 rb, .int .i64 rc, .int .i64 imm]] W fun e w' => e = .returned (.int .i64 0) ∧ Below W.heap.size W w') := fun W => by have h := rkind_any o ra rb rc imm W (by omega) (by omega); rwa [show kindZ o = 0 from by unfold kindZ; rw [if_pos (by omega)]] at h
  obtain ⟨y0, y1, y2, y3, y4⟩ := id I1.out
  obtain ⟨x0, xr, -⟩ := cell_st B1.out
  rw [hi] at x0
  have xa := xr ra ha
  have xa' : w2.cell? ⟨w.heap.size, ra + 1, none⟩ = some (.int .u32 (s.r ra)) := by rw [Nat.add_comm]; exact xa
  have xb := xr rb hb
  have xb' : w2.cell? ⟨w.heap.size, rb + 1, none⟩ = some (.int .u32 (s.r rb)) := by rw [Nat.add_comm]; exact xb
  have ha' : (ra : Int) < 16 := by omega
  have hb' : (rb : Int) < 16 := by omega
  clear xr
  go_upto_region 11 with (go_at_call 22; refine (KD.out _).mono ?_; rintro e w3 ⟨rfl, hb3⟩)
  have B3 : Hid (Boxed w w3 w.heap.size (w.heap.size + 1) C C s) := B1.out.later hb3
  have I3 : Hid (InsAt w3 w1.heap.size o ra rb rc imm) := I1.out.later hb3
  have z0 := cell_later' x0 hb3
  clear y0 y1 y2 y3 y4 x0 xa xa' xb xb' hb3 KD B1 I1
  obtain ⟨y0, y1, y2, y3, y4⟩ := id I3.out
  obtain ⟨I0, I1⟩ := hI
  have hi' : (i : Int) < 1000 := by omega
  obtain ⟨q0, q1⟩ := hs.1.2 rb
  obtain ⟨wh, ewh⟩ : ∃ v, whereZ s rb imm = v := ⟨_, rfl⟩
  have MD : Hid (∀ W, Calls Tryd.prog 23 #[.int .i64 (s.r rb + imm), .int .i64 4294967296] W fun e w' => e = .returned (.int .i64 wh) ∧ w' = W) := fun W => by
    have h := mod_any (s.r rb + imm) 4294967296 W (by omega) (by omega)
    rwa [← ewh]
  have hwh : 0 ≤ wh ∧ wh < 4294967296 := by rw [← ewh]; unfold whereZ; omega
  have EW : Hid (IntKind.u32.wrap wh = wh) := by show _ = _; simp [IntKind.wrap, IntKind.bits, IntKind.signed]; omega
  have e9 := EW.out
  go_upto_region 24 with (go_at_call 23; refine (MD.out _).mono ?_; rintro e w9 ⟨rfl, hw9⟩; obtain rfl := hw9.symm)
  clear MD e9 q0 q1
  have xc := (cell_st B3.out).2.1 rc hc
  have xc' : w3.cell? ⟨w.heap.size, rc + 1, none⟩ = some (.int .u32 (s.r rc)) := by rw [Nat.add_comm]; exact xc
  have hc' : (rc : Int) < 16 := by omega
  have xA := (cell_st B3.out).2.1 ra ha
  have lt3 : w.heap.size < w3.heap.size := B3.out.hb.2.2.2.1
  go_upto_region 42 with fail
  refine wp_region_held_drew (S := fun w' => InsAt w' w1.heap.size o ra rb rc imm) (by kernel_rfl) ?_ (fun hHeld => ?_)
  · exact I3.out
  refine wpAnyH_take (i := 0) (v := ?_) rfl (by kernel_rfl) (by kernel_rfl) (by kernel_rfl) (fun _ _ _ h => h) (Or.inl ⟨by rfl, ?_⟩) (by assumption) ?_
  rotate_left
  · intro w hSw; (try dsimp only at hSw); first | (go_simp; done) | (go_simp; with_reducible rfl)
  try simp only [Act.put, List.setIfInBounds_toArray, List.set_cons_zero, List.set_cons_succ]
  refine wpAnyH_take (i := 1) (v := .int .i64 ra) rfl (by kernel_rfl) (by kernel_rfl) (by kernel_rfl) (fun _ _ _ h => h) (Or.inl ⟨by rfl, ?_⟩) (by assumption) ?_
  · intro w hSw; (try dsimp only at hSw); obtain ⟨f0, f1, f2, f3, f4⟩ := hSw; first | (go_simp; done) | (go_simp; with_reducible rfl)
  try simp only [Act.put, List.setIfInBounds_toArray, List.set_cons_zero, List.set_cons_succ]
  refine wpAnyH_take (i := 2) (v := .agg #[.int .i64 o, .int .i64 ra, .int .i64 rb, .int .i64 rc, .int .i64 imm]) rfl (by kernel_rfl) (by kernel_rfl) (by kernel_rfl) (fun _ _ _ h => h) (Or.inl ⟨by rfl, ?_⟩) (by assumption) ?_
  · intro w hSw; (try dsimp only at hSw); obtain ⟨f0, f1, f2, f3, f4⟩ := hSw; first | (go_simp; done) | (go_simp; with_reducible rfl)
  try simp only [Act.put, List.setIfInBounds_toArray, List.set_cons_zero, List.set_cons_succ]
  refine wpAnyH_take (i := 3) (v := ?_) rfl (by kernel_rfl) (by kernel_rfl) (by kernel_rfl) (fun _ _ _ h => h) (Or.inl ⟨by rfl, ?_⟩) (by assumption) ?_
  rotate_left
  · intro w hSw; (try dsimp only at hSw); first | (go_simp; done) | (go_simp; with_reducible rfl)
  try simp only [Act.put, List.setIfInBounds_toArray, List.set_cons_zero, List.set_cons_succ]
  refine wpAnyH_take (i := 4) (v := ?_) rfl (by kernel_rfl) (by kernel_rfl) (by kernel_rfl) (fun _ _ _ h => h) (Or.inl ⟨by rfl, ?_⟩) (by assumption) ?_
  rotate_left
  · intro w hSw; (try dsimp only at hSw); first | (go_simp; done) | (go_simp; with_reducible rfl)
  try simp only [Act.put, List.setIfInBounds_toArray, List.set_cons_zero, List.set_cons_succ]
  refine wpAnyH_take (i := 5) (v := .int .i64 rc) rfl (by kernel_rfl) (by kernel_rfl) (by kernel_rfl) (fun _ _ _ h => h) (Or.inl ⟨by rfl, ?_⟩) (by assumption) ?_
  · intro w hSw; (try dsimp only at hSw); obtain ⟨f0, f1, f2, f3, f4⟩ := hSw; first | (go_simp; done) | (go_simp; with_reducible rfl)
  try simp only [Act.put, List.setIfInBounds_toArray, List.set_cons_zero, List.set_cons_succ]
  refine wpAnyH_take (i := 6) (v := ?_) rfl (by kernel_rfl) (by kernel_rfl) (by kernel_rfl) (fun _ _ _ h => h) (Or.inl ⟨by rfl, ?_⟩) (by assumption) ?_
  rotate_left
  · intro w hSw; (try dsimp only at hSw); first | (go_simp; done) | (go_simp; with_reducible rfl)
  try simp only [Act.put, List.setIfInBounds_toArray, List.set_cons_zero, List.set_cons_succ]
  refine wpAnyH_take (i := 7) (v := ?_) rfl (by kernel_rfl) (by kernel_rfl) (by kernel_rfl) (fun _ _ _ h => h) (Or.inl ⟨by rfl, ?_⟩) (by assumption) ?_
  rotate_left
  · intro w hSw; (try dsimp only at hSw); first | (go_simp; done) | (go_simp; with_reducible rfl)
  try simp only [Act.put, List.setIfInBounds_toArray, List.set_cons_zero, List.set_cons_succ]
  refine wpAnyH_take (i := 10) (v := ?_) rfl (by kernel_rfl) (by kernel_rfl) (by kernel_rfl) (fun _ _ _ h => h) (Or.inl ⟨by rfl, ?_⟩) (by assumption) ?_
  rotate_left
  · intro w hSw; (try dsimp only at hSw); first | (go_simp; done) | (go_simp; with_reducible rfl)
  try simp only [Act.put, List.setIfInBounds_toArray, List.set_cons_zero, List.set_cons_succ]
  refine wpAnyH_ready (rs := [8]) (by kernel_rfl) (by simp) (AllReadyH.cons (o := { dst := some 219, op := Op.load 28 (.tmp 218), type := _, pos := _, after := _, guard := none }) rfl (fun K hK => ?_) AllReadyH.nil)
  go_simp
  refine hK.out _ _ ?_ (fun hHeld => ?_)
  · exact I3.out.later (by repeat (first | exact Below.refl _ _ | refine keep_alloc ?_ _ | refine keep_drew ?_ | exact (Below.refl _ _).drew))
  clear hK K
  try simp only [Act.put, List.setIfInBounds_toArray, List.set_cons_zero, List.set_cons_succ]
  refine wpAnyH_ready (rs := [9]) (by kernel_rfl) (by simp) (AllReadyH.cons (o := { dst := some 220, op := Op.call { callee := .value (.func 26), args := #[.tmp 213, .tmp 214, .tmp 219], argTypes := #[54, 28, 28] }, type := _, pos := _, after := _, guard := none }) rfl (fun K hK => ?_) AllReadyH.nil)
  go_simp
  refine (DO.out _).mono ?_
  rintro e w4 ⟨rfl, hb4'⟩
  have b4 : Below w3.heap.size w3 w4 := bnext (by repeat (first | exact Below.refl _ _ | refine keep_alloc ?_ _ | refine keep_drew ?_ | exact (Below.refl _ _).drew)) hb4'
  have xA4 := cell_later' xA b4
  have xA4' : w4.cell? ⟨w.heap.size, ra + 1, none⟩ = some (.int .u32 (s.r ra)) := by rw [Nat.add_comm]; exact xA4
  have fA4 : w4.frozen? ⟨w.heap.size, 1 + ra, none⟩ = false := (B3.out.later b4).fz (1 + ra)
  have fA4' : w4.frozen? ⟨w.heap.size, ra + 1, none⟩ = false := (B3.out.later b4).fz (ra + 1)
  have n1 : w1.heap.size ≠ w.heap.size := by have := L1.out; omega
  refine hK.out _ _ ?_ (fun hHeld => ?_)
  · exact I3.out.later b4
  clear hK K
  try simp only [Act.put, List.setIfInBounds_toArray, List.set_cons_zero, List.set_cons_succ]
  refine wpAnyH_take (i := 11) (v := ?_) rfl (by kernel_rfl) (by kernel_rfl) (by kernel_rfl) (fun _ _ _ h => h) (Or.inl ⟨by rfl, ?_⟩) (by assumption) ?_
  rotate_left
  · intro w hSw; (try dsimp only at hSw); first | (go_simp; done) | (go_simp; with_reducible rfl)
  try simp only [Act.put, List.setIfInBounds_toArray, List.set_cons_zero, List.set_cons_succ]
  refine wpAnyH_ready (rs := [12]) (by kernel_rfl) (by simp) (AllReadyH.cons (o := { dst := none, op := Op.store 28 (.tmp 222) (.tmp 220), type := _, pos := _, after := _, guard := none }) rfl (fun K hK => ?_) AllReadyH.nil)
  go_simp
  refine hK.out _ _ ?_ (fun hHeld => ?_)
  · exact (I3.out.later b4).far n1 _ _
  clear hK K
  try simp only [Act.put, List.setIfInBounds_toArray, List.set_cons_zero, List.set_cons_succ]
  refine wpAnyH_done (by kernel_rfl) ?_ _
  try simp only [Act.put, List.setIfInBounds_toArray, List.set_cons_zero, List.set_cons_succ]
  have B4 : Hid (Boxed w (w4.setCell ⟨w.heap.size, 1 + ra, none⟩ (.int .u32 v)) w.heap.size (w.heap.size + 1) C (C.setIfInBounds (1 + ra) (.int .u32 v)) { s with r := fun j => if j = ra then v else s.r j }) := (B3.out.later b4).put (1 + ra) (by omega) _ (fun g _ => off_int _ _ _) (put_reg (B3.out.later b4).st ra ha v)
  have I4 : Hid (InsAt (w4.setCell ⟨w.heap.size, 1 + ra, none⟩ (.int .u32 v)) w1.heap.size o ra rb rc imm) := hHeld
  clear hHeld b4 xA4 xA4' fA4 fA4' n1 xc xc' xA y0 y1 y2 y3 y4 z0 B3 I3 DO
  generalize w4.setCell ⟨w.heap.size, 1 + ra, none⟩ (.int .u32 v) = w5 at B4 I4 ⊢
  generalize C.setIfInBounds (1 + ra) (.int .u32 v) = C4 at B4
  obtain ⟨y0, y1, y2, y3, y4⟩ := id I4.out
  go_upto_region 47 with fail
  have u1 := (cell_st B4.out).2.1 0 (by omega)
  have u0 := (cell_st B4.out).1
  have g1 : w5.frozen? ⟨w.heap.size, 1, none⟩ = false := B4.out.fz 1
  have g0 : w5.frozen? ⟨w.heap.size, 0, none⟩ = false := B4.out.fz 0
  go_upto_region 49 with fail
  have Bp : Hid (Boxed w (w5.setCell ⟨w.heap.size, 1, none⟩ (.int .u32 0)) w.heap.size (w.heap.size + 1) C (C4.setIfInBounds 1 (.int .u32 0)) ({ { s with r := fun j => if j = ra then v else s.r j } with r := fun j => if j = 0 then 0 else ({ s with r := fun j => if j = ra then v else s.r j } : St).r j })) := B4.out.put 1 (by omega) _ (fun g _ => off_int _ _ _) (put_reg B4.out.st 0 (by omega) 0)
  have Bq : Hid (Boxed w ((w5.setCell ⟨w.heap.size, 1, none⟩ (.int .u32 0)).setCell ⟨w.heap.size, 0, none⟩ (.int .i64 ((i : Int) + 1))) w.heap.size (w.heap.size + 1) C ((C4.setIfInBounds 1 (.int .u32 0)).setIfInBounds 0 (.int .i64 ((i : Int) + 1))) ({ ({ { s with r := fun j => if j = ra then v else s.r j } with r := fun j => if j = 0 then 0 else ({ s with r := fun j => if j = ra then v else s.r j } : St).r j } : St) with at_ := (i : Int) + 1 })) := Bp.out.put 0 (by omega) _ (fun g _ => off_int _ _ _) (st_at Bp.out.st _)
  clear u1 u0 g1 g0 Bp
  generalize (w5.setCell ⟨w.heap.size, 1, none⟩ (.int .u32 0)).setCell ⟨w.heap.size, 0, none⟩ (.int .i64 ((i : Int) + 1)) = wq at Bq ⊢
  generalize (C4.setIfInBounds 1 (.int .u32 0)).setIfInBounds 0 (.int .i64 ((i : Int) + 1)) = Cq at Bq
  have ES : { ({ { s with r := fun j => if j = ra then v else s.r j } with r := fun j => if j = 0 then 0 else ({ s with r := fun j => if j = ra then v else s.r j } : St).r j } : St) with at_ := (i : Int) + 1 } = opZ o ra rb rc imm s := by
    have ev := EV.out; have e19 : ¬ o = 19 := (by omega); have e20 : ¬ o = 20 := (by omega); have e15 : ¬ (15 ≤ o ∧ o ≤ 18) := (by omega); simp only []; rw [setR_eq]; simp [opZ, hi, ev, e0, e25, e21, e11, e13, e12, e14, e22, e23, e24, e19, e20, e15]
  rw [ES] at Bq
  have TT : Hid (Told w (wq.setCells (w.heap.size + 1) 0 Cq.toList) (w.heap.size + 1) C Cq (opZ o ra rb rc imm s)) := Told.same Bq.out
  go_wp2_with (first
    | ((with_reducible show wpList _ _ _ (Oper.mk _ (Op.load _ _) _ _ _ _ :: _) _ _); refine wpList_load_if (by rfl) 37 (.tmp 3) rfl w.heap.size 0 rfl Cq.toList _ (at_range Bq.out.at_) Tryd.underlying37 rfl (st_info Bq.out.st).2 ?_)
    | ((with_reducible show wpList _ _ _ (Oper.mk _ (Op.store _ _ _) _ _ _ _ :: _) _ _); refine wpList_store_room (w := w) rfl (.tmp 4) (.tmp 258) rfl (w.heap.size + 1) Cq rfl rfl Bq.out.st Bq.out.room ?_))
  exact bodyPost_ret (v := .agg Cq) (results_st rfl _ (w.heap.size + 1) (by first | rfl | simp) TT.out.st _ TT.out.at_) rfl TT.out.post
set_option maxRecDepth 100000 in
set_option maxHeartbeats 1000000 in
theorem rstep_11_yes {w : World} {C : Array Value} {s : St} (h : IsSt w (.agg C) s) (hs : Small s) (he : s.en = false) (a : Option Addr) (n c : Nat) (f : Nat → Int) (i : Nat) (x : Int) (hn : n ≤ 1000) (hw : RowK .u32 w a n f) (hi : s.at_ = i) (hin : i < n) (hx : f i = x) (ra rb rc : Nat) (imm : Int) (ha : ra < 16) (hb : rb < 16) (hc : rc < 16) (hI : -8388608 ≤ imm ∧ imm ≤ 8388607) (hok : okB s.mn (whereZ s rb imm) true = true)
    (hG : ∀ W, Below w.heap.size w W → Calls Tryd.prog 21 #[.int .u32 x] W fun e w' => e = .returned (.tuple #[.agg #[.int .i64 11, .int .i64 ra, .int .i64 rb, .int .i64 rc, .int .i64 imm], .bool true]) ∧ Below W.heap.size W w') :
    Calls Tryd.prog 13 #[.slice a n c, .agg C] w (StPost w C (opZ 11 ra rb rc imm s)) := by
  obtain ⟨v, ev⟩ : ∃ v, loadZ s.mf (whereZ s rb imm) true = v := ⟨_, rfl⟩
  have B0 : Hid (Boxed w ((w.alloc (.cells C 37)).alloc (.cells noSt 37)) w.heap.size (w.heap.size + 1) C C s) := Boxed.new h _ _
  clear h
  go_enter Tryd.func13, Tryd.ntmps13
  go_upto_region 1 with fail
  rw [noSt_def]
  generalize (w.alloc (.cells C 37)).alloc (.cells noSt 37) = w0 at B0 ⊢
  have HG : Hid (∀ W, Below w0.heap.size w0 W → Calls Tryd.prog 21 #[.int .u32 x] W fun e w' => e = .returned (.tuple #[.agg #[.int .i64 11, .int .i64 ra, .int .i64 rb, .int .i64 rc, .int .i64 imm], .bool true]) ∧ Below W.heap.size W w') := fun W hW => hG W (bnext B0.out.bel hW)
  obtain ⟨-, rfl | ⟨b, off, rfl, hcw⟩⟩ := hw
  · omega
  have xi := cell_later' (hcw i hin) B0.out.bel
  rw [hx] at xi
  have q1 : decide ((i : Int) < 0) = false := by simp
  have q2 : decide (n ≤ i) = false := by simp [hin]
  clear hG hcw hx
  obtain ⟨x0, -, -, x22, -, -⟩ := cell_st B0.out
  rw [he] at x22
  rw [hi] at x0
  go_upto_region 6 with (go_at_call 21; refine (HG.out _ (Below.refl _ _)).mono ?_; rintro e w1 ⟨rfl, hb1⟩; have HB1 : Hid (Below w0.heap.size w0 w1) := hb1)
  have B1 : Hid (Boxed w (w1.alloc (.cells #[.int .i64 11, .int .i64 ra, .int .i64 rb, .int .i64 rc, .int .i64 imm] 54)) w.heap.size (w.heap.size + 1) C C s) := (B0.out.later HB1.out).later ((Below.refl _ _).alloc (Nat.le_refl _) _)
  have I1 : Hid (InsAt (w1.alloc (.cells #[.int .i64 11, .int .i64 ra, .int .i64 rb, .int .i64 rc, .int .i64 imm] 54)) w1.heap.size 11 ra rb rc imm) := InsAt.new _ _ _ _ _ _ _
  have L1 : Hid (w.heap.size + 1 < w1.heap.size) := by have h1 := B0.out.hb; have h2 := HB1.out.size; have h3 := B0.out.hb.2.2.2.2; show _ < _; omega
  clear x0 x22 hb1 HB1 HG B0 xi q1 q2
  generalize w1.alloc (.cells #[.int .i64 11, .int .i64 ra, .int .i64 rb, .int .i64 rc, .int .i64 imm] 54) = w2 at B1 I1 ⊢
  have KD : Hid (∀ W, Calls Tryd.prog 22 #[.agg #[.int .i64 11, .int .i64 ra, .int .i64 rb, .int .i64 rc, .int .i64 imm]] W fun e w' => e = .returned (.int .i64 1) ∧ Below W.heap.size W w') := fun W => by have h := rkind_any 11 ra rb rc imm W (by omega) (by omega); rwa [show kindZ 11 = 1 from by decide] at h
  obtain ⟨y0, y1, y2, y3, y4⟩ := id I1.out
  obtain ⟨x0, xr, -⟩ := cell_st B1.out
  rw [hi] at x0
  have xa := xr ra ha
  have xa' : w2.cell? ⟨w.heap.size, ra + 1, none⟩ = some (.int .u32 (s.r ra)) := by rw [Nat.add_comm]; exact xa
  have xb := xr rb hb
  have xb' : w2.cell? ⟨w.heap.size, rb + 1, none⟩ = some (.int .u32 (s.r rb)) := by rw [Nat.add_comm]; exact xb
  have ha' : (ra : Int) < 16 := by omega
  have hb' : (rb : Int) < 16 := by omega
  clear xr
  go_upto_region 11 with (go_at_call 22; refine (KD.out _).mono ?_; rintro e w3 ⟨rfl, hb3⟩)
  have B3 : Hid (Boxed w w3 w.heap.size (w.heap.size + 1) C C s) := B1.out.later hb3
  have I3 : Hid (InsAt w3 w1.heap.size 11 ra rb rc imm) := I1.out.later hb3
  have z0 := cell_later' x0 hb3
  clear y0 y1 y2 y3 y4 x0 xa xa' xb xb' hb3 KD B1 I1
  obtain ⟨y0, y1, y2, y3, y4⟩ := id I3.out
  obtain ⟨I0, I1⟩ := hI
  have hi' : (i : Int) < 1000 := by omega
  obtain ⟨q0, q1⟩ := hs.1.2 rb
  obtain ⟨wh, ewh⟩ : ∃ v, whereZ s rb imm = v := ⟨_, rfl⟩
  have MD : Hid (∀ W, Calls Tryd.prog 23 #[.int .i64 (s.r rb + imm), .int .i64 4294967296] W fun e w' => e = .returned (.int .i64 wh) ∧ w' = W) := fun W => by
    have h := mod_any (s.r rb + imm) 4294967296 W (by omega) (by omega)
    rwa [← ewh]
  have hwh : 0 ≤ wh ∧ wh < 4294967296 := by rw [← ewh]; unfold whereZ; omega
  have EW : Hid (IntKind.u32.wrap wh = wh) := by show _ = _; simp [IntKind.wrap, IntKind.bits, IntKind.signed]; omega
  have EWH : Hid (whereZ s rb imm = wh) := ewh
  have hw0 : 0 ≤ whereZ s rb imm ∧ whereZ s rb imm < 4294967296 := by unfold whereZ; omega
  have hm2 : s.mn ≤ 2000 := hs.2.2.1.2.1
  have e9 := EW.out
  go_upto_region 24 with (go_at_call 23; refine (MD.out _).mono ?_; rintro e w9 ⟨rfl, hw9⟩; obtain rfl := hw9.symm)
  clear MD e9 q0 q1
  obtain ⟨-, -, x18, -⟩ := cell_st B3.out
  obtain ⟨ba, bc, ma, mc, ia, ic, oa, oc, ⟨-, x19, -⟩, -, hd, -⟩ := list_st B3.out
  have LD : Hid (∀ W, Below w3.heap.size w3 W → Calls Tryd.prog 24 #[.agg #[.int .i64 s.wt, .slice ma s.mn mc], .int .u32 wh, .bool true] W fun e w' => e = .returned (.tuple #[.int .u32 v, .bool true]) ∧ Below W.heap.size W w') := fun W hW => by
    have h := rload_any s.wt (whereZ s rb imm) true ma s.mn mc s.mf W hm2 hd.1.1 hw0.1 hw0.2 (hd.2.later hW)
    rw [hok, if_pos rfl, ev, EWH.out] at h
    exact h
  clear hd
  go_upto_region 26 with (go_at_call 24; refine (LD.out _ (Below.refl _ _)).mono ?_; rintro e w4 ⟨rfl, hb4⟩)
  have B4 : Hid (Boxed w w4 w.heap.size (w.heap.size + 1) C C s) := B3.out.later hb4
  have I4 : Hid (InsAt w4 w1.heap.size 11 ra rb rc imm) := I3.out.later hb4
  clear x18 x19 LD hb4 y0 y1 y2 y3 y4 z0 B3 I3
  obtain ⟨y0, y1, y2, y3, y4⟩ := id I4.out
  have xA := (cell_st B4.out).2.1 ra ha
  have xA' : w4.cell? ⟨w.heap.size, ra + 1, none⟩ = some (.int .u32 (s.r ra)) := by rw [Nat.add_comm]; exact xA
  have fA : w4.frozen? ⟨w.heap.size, 1 + ra, none⟩ = false := B4.out.fz (1 + ra)
  have fA' : w4.frozen? ⟨w.heap.size, ra + 1, none⟩ = false := B4.out.fz (ra + 1)
  go_upto_region 29 with fail
  have B5 : Hid (Boxed w (w4.setCell ⟨w.heap.size, 1 + ra, none⟩ (.int .u32 v)) w.heap.size (w.heap.size + 1) C (C.setIfInBounds (1 + ra) (.int .u32 v)) { s with r := fun j => if j = ra then v else s.r j }) := B4.out.put (1 + ra) (by omega) _ (fun g _ => off_int _ _ _) (put_reg B4.out.st ra ha v)
  have I5 : Hid (InsAt (w4.setCell ⟨w.heap.size, 1 + ra, none⟩ (.int .u32 v)) w1.heap.size 11 ra rb rc imm) := I4.out.far (by have := L1.out; omega) _ _
  clear xA xA' fA fA' y0 y1 y2 y3 y4 B4 I4
  generalize w4.setCell ⟨w.heap.size, 1 + ra, none⟩ (.int .u32 v) = w5 at B5 I5 ⊢
  generalize C.setIfInBounds (1 + ra) (.int .u32 v) = C5 at B5
  obtain ⟨y0, y1, y2, y3, y4⟩ := id I5.out
  go_upto_region 47 with fail
  have u1 := (cell_st B5.out).2.1 0 (by omega)
  have u0 := (cell_st B5.out).1
  have g1 : w5.frozen? ⟨w.heap.size, 1, none⟩ = false := B5.out.fz 1
  have g0 : w5.frozen? ⟨w.heap.size, 0, none⟩ = false := B5.out.fz 0
  go_upto_region 49 with fail
  have Bp : Hid (Boxed w (w5.setCell ⟨w.heap.size, 1, none⟩ (.int .u32 0)) w.heap.size (w.heap.size + 1) C (C5.setIfInBounds 1 (.int .u32 0)) ({ { s with r := fun j => if j = ra then v else s.r j } with r := fun j => if j = 0 then 0 else ({ s with r := fun j => if j = ra then v else s.r j } : St).r j })) := B5.out.put 1 (by omega) _ (fun g _ => off_int _ _ _) (put_reg B5.out.st 0 (by omega) 0)
  have Bq : Hid (Boxed w ((w5.setCell ⟨w.heap.size, 1, none⟩ (.int .u32 0)).setCell ⟨w.heap.size, 0, none⟩ (.int .i64 ((i : Int) + 1))) w.heap.size (w.heap.size + 1) C ((C5.setIfInBounds 1 (.int .u32 0)).setIfInBounds 0 (.int .i64 ((i : Int) + 1))) ({ ({ { s with r := fun j => if j = ra then v else s.r j } with r := fun j => if j = 0 then 0 else ({ s with r := fun j => if j = ra then v else s.r j } : St).r j } : St) with at_ := (i : Int) + 1 })) := Bp.out.put 0 (by omega) _ (fun g _ => off_int _ _ _) (st_at Bp.out.st _)
  clear u1 u0 g1 g0 Bp
  generalize (w5.setCell ⟨w.heap.size, 1, none⟩ (.int .u32 0)).setCell ⟨w.heap.size, 0, none⟩ (.int .i64 ((i : Int) + 1)) = wq at Bq ⊢
  generalize (C5.setIfInBounds 1 (.int .u32 0)).setIfInBounds 0 (.int .i64 ((i : Int) + 1)) = Cq at Bq
  have ES : { ({ { s with r := fun j => if j = ra then v else s.r j } with r := fun j => if j = 0 then 0 else ({ s with r := fun j => if j = ra then v else s.r j } : St).r j } : St) with at_ := (i : Int) + 1 } = opZ 11 ra rb rc imm s := by
    simp only []; rw [setR_eq]; simp [opZ, hi, hok, ev]
  rw [ES] at Bq
  have TT : Hid (Told w (wq.setCells (w.heap.size + 1) 0 Cq.toList) (w.heap.size + 1) C Cq (opZ 11 ra rb rc imm s)) := Told.same Bq.out
  go_wp2_with (first
    | ((with_reducible show wpList _ _ _ (Oper.mk _ (Op.load _ _) _ _ _ _ :: _) _ _); refine wpList_load_if (by rfl) 37 (.tmp 3) rfl w.heap.size 0 rfl Cq.toList _ (at_range Bq.out.at_) Tryd.underlying37 rfl (st_info Bq.out.st).2 ?_)
    | ((with_reducible show wpList _ _ _ (Oper.mk _ (Op.store _ _ _) _ _ _ _ :: _) _ _); refine wpList_store_room (w := w) rfl (.tmp 4) (.tmp 258) rfl (w.heap.size + 1) Cq rfl rfl Bq.out.st Bq.out.room ?_))
  exact bodyPost_ret (v := .agg Cq) (results_st rfl _ (w.heap.size + 1) (by first | rfl | simp) TT.out.st _ TT.out.at_) rfl TT.out.post
set_option maxRecDepth 100000 in
set_option maxHeartbeats 1000000 in
theorem rstep_11_no {w : World} {C : Array Value} {s : St} (h : IsSt w (.agg C) s) (hs : Small s) (he : s.en = false) (a : Option Addr) (n c : Nat) (f : Nat → Int) (i : Nat) (x : Int) (hn : n ≤ 1000) (hw : RowK .u32 w a n f) (hi : s.at_ = i) (hin : i < n) (hx : f i = x) (ra rb rc : Nat) (imm : Int) (ha : ra < 16) (hb : rb < 16) (hc : rc < 16) (hI : -8388608 ≤ imm ∧ imm ≤ 8388607) (hok : okB s.mn (whereZ s rb imm) true = false)
    (hG : ∀ W, Below w.heap.size w W → Calls Tryd.prog 21 #[.int .u32 x] W fun e w' => e = .returned (.tuple #[.agg #[.int .i64 11, .int .i64 ra, .int .i64 rb, .int .i64 rc, .int .i64 imm], .bool true]) ∧ Below W.heap.size W w') :
    Calls Tryd.prog 13 #[.slice a n c, .agg C] w (StPost w C (opZ 11 ra rb rc imm s)) := by
  rw [show opZ 11 ra rb rc imm s = s.stop 3 from by simp [opZ, hok]]
  obtain ⟨v, EV0⟩ : ∃ v : Int, Hid ((0 : Int) = v) := ⟨_, rfl⟩
  have B0 : Hid (Boxed w ((w.alloc (.cells C 37)).alloc (.cells noSt 37)) w.heap.size (w.heap.size + 1) C C s) := Boxed.new h _ _
  clear h
  go_enter Tryd.func13, Tryd.ntmps13
  go_upto_region 1 with fail
  rw [noSt_def]
  generalize (w.alloc (.cells C 37)).alloc (.cells noSt 37) = w0 at B0 ⊢
  have HG : Hid (∀ W, Below w0.heap.size w0 W → Calls Tryd.prog 21 #[.int .u32 x] W fun e w' => e = .returned (.tuple #[.agg #[.int .i64 11, .int .i64 ra, .int .i64 rb, .int .i64 rc, .int .i64 imm], .bool true]) ∧ Below W.heap.size W w') := fun W hW => hG W (bnext B0.out.bel hW)
  obtain ⟨-, rfl | ⟨b, off, rfl, hcw⟩⟩ := hw
  · omega
  have xi := cell_later' (hcw i hin) B0.out.bel
  rw [hx] at xi
  have q1 : decide ((i : Int) < 0) = false := by simp
  have q2 : decide (n ≤ i) = false := by simp [hin]
  clear hG hcw hx
  obtain ⟨x0, -, -, x22, -, -⟩ := cell_st B0.out
  rw [he] at x22
  rw [hi] at x0
  go_upto_region 6 with (go_at_call 21; refine (HG.out _ (Below.refl _ _)).mono ?_; rintro e w1 ⟨rfl, hb1⟩; have HB1 : Hid (Below w0.heap.size w0 w1) := hb1)
  have B1 : Hid (Boxed w (w1.alloc (.cells #[.int .i64 11, .int .i64 ra, .int .i64 rb, .int .i64 rc, .int .i64 imm] 54)) w.heap.size (w.heap.size + 1) C C s) := (B0.out.later HB1.out).later ((Below.refl _ _).alloc (Nat.le_refl _) _)
  have I1 : Hid (InsAt (w1.alloc (.cells #[.int .i64 11, .int .i64 ra, .int .i64 rb, .int .i64 rc, .int .i64 imm] 54)) w1.heap.size 11 ra rb rc imm) := InsAt.new _ _ _ _ _ _ _
  have L1 : Hid (w.heap.size + 1 < w1.heap.size) := by have h1 := B0.out.hb; have h2 := HB1.out.size; have h3 := B0.out.hb.2.2.2.2; show _ < _; omega
  clear x0 x22 hb1 HB1 HG B0 xi q1 q2
  generalize w1.alloc (.cells #[.int .i64 11, .int .i64 ra, .int .i64 rb, .int .i64 rc, .int .i64 imm] 54) = w2 at B1 I1 ⊢
  have KD : Hid (∀ W, Calls Tryd.prog 22 #[.agg #[.int .i64 11, .int .i64 ra, .int .i64 rb, .int .i64 rc, .int .i64 imm]] W fun e w' => e = .returned (.int .i64 1) ∧ Below W.heap.size W w') := fun W => by have h := rkind_any 11 ra rb rc imm W (by omega) (by omega); rwa [show kindZ 11 = 1 from by decide] at h
  obtain ⟨y0, y1, y2, y3, y4⟩ := id I1.out
  obtain ⟨x0, xr, -⟩ := cell_st B1.out
  rw [hi] at x0
  have xa := xr ra ha
  have xa' : w2.cell? ⟨w.heap.size, ra + 1, none⟩ = some (.int .u32 (s.r ra)) := by rw [Nat.add_comm]; exact xa
  have xb := xr rb hb
  have xb' : w2.cell? ⟨w.heap.size, rb + 1, none⟩ = some (.int .u32 (s.r rb)) := by rw [Nat.add_comm]; exact xb
  have ha' : (ra : Int) < 16 := by omega
  have hb' : (rb : Int) < 16 := by omega
  clear xr
  go_upto_region 11 with (go_at_call 22; refine (KD.out _).mono ?_; rintro e w3 ⟨rfl, hb3⟩)
  have B3 : Hid (Boxed w w3 w.heap.size (w.heap.size + 1) C C s) := B1.out.later hb3
  have I3 : Hid (InsAt w3 w1.heap.size 11 ra rb rc imm) := I1.out.later hb3
  have z0 := cell_later' x0 hb3
  clear y0 y1 y2 y3 y4 x0 xa xa' xb xb' hb3 KD B1 I1
  obtain ⟨y0, y1, y2, y3, y4⟩ := id I3.out
  obtain ⟨I0, I1⟩ := hI
  have hi' : (i : Int) < 1000 := by omega
  obtain ⟨q0, q1⟩ := hs.1.2 rb
  obtain ⟨wh, ewh⟩ : ∃ v, whereZ s rb imm = v := ⟨_, rfl⟩
  have MD : Hid (∀ W, Calls Tryd.prog 23 #[.int .i64 (s.r rb + imm), .int .i64 4294967296] W fun e w' => e = .returned (.int .i64 wh) ∧ w' = W) := fun W => by
    have h := mod_any (s.r rb + imm) 4294967296 W (by omega) (by omega)
    rwa [← ewh]
  have hwh : 0 ≤ wh ∧ wh < 4294967296 := by rw [← ewh]; unfold whereZ; omega
  have EW : Hid (IntKind.u32.wrap wh = wh) := by show _ = _; simp [IntKind.wrap, IntKind.bits, IntKind.signed]; omega
  have EWH : Hid (whereZ s rb imm = wh) := ewh
  have hw0 : 0 ≤ whereZ s rb imm ∧ whereZ s rb imm < 4294967296 := by unfold whereZ; omega
  have hm2 : s.mn ≤ 2000 := hs.2.2.1.2.1
  have e9 := EW.out
  go_upto_region 24 with (go_at_call 23; refine (MD.out _).mono ?_; rintro e w9 ⟨rfl, hw9⟩; obtain rfl := hw9.symm)
  clear MD e9 q0 q1
  obtain ⟨-, -, x18, -⟩ := cell_st B3.out
  obtain ⟨ba, bc, ma, mc, ia, ic, oa, oc, ⟨-, x19, -⟩, -, hd, -⟩ := list_st B3.out
  have LD : Hid (∀ W, Below w3.heap.size w3 W → Calls Tryd.prog 24 #[.agg #[.int .i64 s.wt, .slice ma s.mn mc], .int .u32 wh, .bool true] W fun e w' => e = .returned (.tuple #[.int .u32 v, .bool false]) ∧ Below W.heap.size W w') := fun W hW => by
    have h := rload_any s.wt (whereZ s rb imm) true ma s.mn mc s.mf W hm2 hd.1.1 hw0.1 hw0.2 (hd.2.later hW)
    rw [hok, if_neg (by decide), EV0.out, EWH.out] at h
    exact h
  clear hd
  go_upto_region 26 with (go_at_call 24; refine (LD.out _ (Below.refl _ _)).mono ?_; rintro e w4 ⟨rfl, hb4⟩)
  have B4 : Hid (Boxed w w4 w.heap.size (w.heap.size + 1) C C s) := B3.out.later hb4
  have I4 : Hid (InsAt w4 w1.heap.size 11 ra rb rc imm) := I3.out.later hb4
  clear x18 x19 LD hb4 y0 y1 y2 y3 y4 z0 B3 I3
  obtain ⟨y0, y1, y2, y3, y4⟩ := id I4.out
  go_wp2_with (first
    | (go_at_call 20; refine (rend_st B4.out.st 3).mono ?_; rintro e w9 ⟨C9, rfl, h9, v9, b9⟩)
    | ((with_reducible show wpList _ _ _ (Oper.mk _ (Op.load _ _) _ _ _ _ :: _) _ _); refine wpList_load_if (by rfl) 37 (.tmp 3) rfl w.heap.size 0 rfl C.toList _ (at_range B4.out.at_) Tryd.underlying37 rfl (st_info B4.out.st).2 ?_)
    | ((with_reducible show wpList _ _ _ (Oper.mk _ (Op.store _ _ _) _ _ _ _ :: _) _ _); refine wpList_store_room (w := w) rfl (.tmp 4) (.tmp 128) rfl (w.heap.size + 1) C9 rfl rfl h9 (there_later B4.out.room b9) ?_))
  have TT := Told.call B4.out b9 h9 v9
  exact bodyPost_ret (v := .agg C9) (results_st rfl _ (w.heap.size + 1) (by first | rfl | simp) TT.st _ TT.at_) rfl TT.post
set_option maxRecDepth 100000 in
set_option maxHeartbeats 1000000 in
theorem rstep_13_yes {w : World} {C : Array Value} {s : St} (h : IsSt w (.agg C) s) (hs : Small s) (he : s.en = false) (a : Option Addr) (n c : Nat) (f : Nat → Int) (i : Nat) (x : Int) (hn : n ≤ 1000) (hw : RowK .u32 w a n f) (hi : s.at_ = i) (hin : i < n) (hx : f i = x) (ra rb rc : Nat) (imm : Int) (ha : ra < 16) (hb : rb < 16) (hc : rc < 16) (hI : -8388608 ≤ imm ∧ imm ≤ 8388607) (hok : okB s.mn (whereZ s rb imm) false = true)
    (hG : ∀ W, Below w.heap.size w W → Calls Tryd.prog 21 #[.int .u32 x] W fun e w' => e = .returned (.tuple #[.agg #[.int .i64 13, .int .i64 ra, .int .i64 rb, .int .i64 rc, .int .i64 imm], .bool true]) ∧ Below W.heap.size W w') :
    Calls Tryd.prog 13 #[.slice a n c, .agg C] w (StPost w C (opZ 13 ra rb rc imm s)) := by
  obtain ⟨v, ev⟩ : ∃ v, loadZ s.mf (whereZ s rb imm) false = v := ⟨_, rfl⟩
  have B0 : Hid (Boxed w ((w.alloc (.cells C 37)).alloc (.cells noSt 37)) w.heap.size (w.heap.size + 1) C C s) := Boxed.new h _ _
  clear h
  go_enter Tryd.func13, Tryd.ntmps13
  go_upto_region 1 with fail
  rw [noSt_def]
  generalize (w.alloc (.cells C 37)).alloc (.cells noSt 37) = w0 at B0 ⊢
  have HG : Hid (∀ W, Below w0.heap.size w0 W → Calls Tryd.prog 21 #[.int .u32 x] W fun e w' => e = .returned (.tuple #[.agg #[.int .i64 13, .int .i64 ra, .int .i64 rb, .int .i64 rc, .int .i64 imm], .bool true]) ∧ Below W.heap.size W w') := fun W hW => hG W (bnext B0.out.bel hW)
  obtain ⟨-, rfl | ⟨b, off, rfl, hcw⟩⟩ := hw
  · omega
  have xi := cell_later' (hcw i hin) B0.out.bel
  rw [hx] at xi
  have q1 : decide ((i : Int) < 0) = false := by simp
  have q2 : decide (n ≤ i) = false := by simp [hin]
  clear hG hcw hx
  obtain ⟨x0, -, -, x22, -, -⟩ := cell_st B0.out
  rw [he] at x22
  rw [hi] at x0
  go_upto_region 6 with (go_at_call 21; refine (HG.out _ (Below.refl _ _)).mono ?_; rintro e w1 ⟨rfl, hb1⟩; have HB1 : Hid (Below w0.heap.size w0 w1) := hb1)
  have B1 : Hid (Boxed w (w1.alloc (.cells #[.int .i64 13, .int .i64 ra, .int .i64 rb, .int .i64 rc, .int .i64 imm] 54)) w.heap.size (w.heap.size + 1) C C s) := (B0.out.later HB1.out).later ((Below.refl _ _).alloc (Nat.le_refl _) _)
  have I1 : Hid (InsAt (w1.alloc (.cells #[.int .i64 13, .int .i64 ra, .int .i64 rb, .int .i64 rc, .int .i64 imm] 54)) w1.heap.size 13 ra rb rc imm) := InsAt.new _ _ _ _ _ _ _
  have L1 : Hid (w.heap.size + 1 < w1.heap.size) := by have h1 := B0.out.hb; have h2 := HB1.out.size; have h3 := B0.out.hb.2.2.2.2; show _ < _; omega
  clear x0 x22 hb1 HB1 HG B0 xi q1 q2
  generalize w1.alloc (.cells #[.int .i64 13, .int .i64 ra, .int .i64 rb, .int .i64 rc, .int .i64 imm] 54) = w2 at B1 I1 ⊢
  have KD : Hid (∀ W, Calls Tryd.prog 22 #[.agg #[.int .i64 13, .int .i64 ra, .int .i64 rb, .int .i64 rc, .int .i64 imm]] W fun e w' => e = .returned (.int .i64 1) ∧ Below W.heap.size W w') := fun W => by have h := rkind_any 13 ra rb rc imm W (by omega) (by omega); rwa [show kindZ 13 = 1 from by decide] at h
  obtain ⟨y0, y1, y2, y3, y4⟩ := id I1.out
  obtain ⟨x0, xr, -⟩ := cell_st B1.out
  rw [hi] at x0
  have xa := xr ra ha
  have xa' : w2.cell? ⟨w.heap.size, ra + 1, none⟩ = some (.int .u32 (s.r ra)) := by rw [Nat.add_comm]; exact xa
  have xb := xr rb hb
  have xb' : w2.cell? ⟨w.heap.size, rb + 1, none⟩ = some (.int .u32 (s.r rb)) := by rw [Nat.add_comm]; exact xb
  have ha' : (ra : Int) < 16 := by omega
  have hb' : (rb : Int) < 16 := by omega
  clear xr
  go_upto_region 11 with (go_at_call 22; refine (KD.out _).mono ?_; rintro e w3 ⟨rfl, hb3⟩)
  have B3 : Hid (Boxed w w3 w.heap.size (w.heap.size + 1) C C s) := B1.out.later hb3
  have I3 : Hid (InsAt w3 w1.heap.size 13 ra rb rc imm) := I1.out.later hb3
  have z0 := cell_later' x0 hb3
  clear y0 y1 y2 y3 y4 x0 xa xa' xb xb' hb3 KD B1 I1
  obtain ⟨y0, y1, y2, y3, y4⟩ := id I3.out
  obtain ⟨I0, I1⟩ := hI
  have hi' : (i : Int) < 1000 := by omega
  obtain ⟨q0, q1⟩ := hs.1.2 rb
  obtain ⟨wh, ewh⟩ : ∃ v, whereZ s rb imm = v := ⟨_, rfl⟩
  have MD : Hid (∀ W, Calls Tryd.prog 23 #[.int .i64 (s.r rb + imm), .int .i64 4294967296] W fun e w' => e = .returned (.int .i64 wh) ∧ w' = W) := fun W => by
    have h := mod_any (s.r rb + imm) 4294967296 W (by omega) (by omega)
    rwa [← ewh]
  have hwh : 0 ≤ wh ∧ wh < 4294967296 := by rw [← ewh]; unfold whereZ; omega
  have EW : Hid (IntKind.u32.wrap wh = wh) := by show _ = _; simp [IntKind.wrap, IntKind.bits, IntKind.signed]; omega
  have EWH : Hid (whereZ s rb imm = wh) := ewh
  have hw0 : 0 ≤ whereZ s rb imm ∧ whereZ s rb imm < 4294967296 := by unfold whereZ; omega
  have hm2 : s.mn ≤ 2000 := hs.2.2.1.2.1
  have e9 := EW.out
  go_upto_region 24 with (go_at_call 23; refine (MD.out _).mono ?_; rintro e w9 ⟨rfl, hw9⟩; obtain rfl := hw9.symm)
  clear MD e9 q0 q1
  obtain ⟨-, -, x18, -⟩ := cell_st B3.out
  obtain ⟨ba, bc, ma, mc, ia, ic, oa, oc, ⟨-, x19, -⟩, -, hd, -⟩ := list_st B3.out
  have LD : Hid (∀ W, Below w3.heap.size w3 W → Calls Tryd.prog 24 #[.agg #[.int .i64 s.wt, .slice ma s.mn mc], .int .u32 wh, .bool false] W fun e w' => e = .returned (.tuple #[.int .u32 v, .bool true]) ∧ Below W.heap.size W w') := fun W hW => by
    have h := rload_any s.wt (whereZ s rb imm) false ma s.mn mc s.mf W hm2 hd.1.1 hw0.1 hw0.2 (hd.2.later hW)
    rw [hok, if_pos rfl, ev, EWH.out] at h
    exact h
  clear hd
  go_upto_region 26 with (go_at_call 24; refine (LD.out _ (Below.refl _ _)).mono ?_; rintro e w4 ⟨rfl, hb4⟩)
  have B4 : Hid (Boxed w w4 w.heap.size (w.heap.size + 1) C C s) := B3.out.later hb4
  have I4 : Hid (InsAt w4 w1.heap.size 13 ra rb rc imm) := I3.out.later hb4
  clear x18 x19 LD hb4 y0 y1 y2 y3 y4 z0 B3 I3
  obtain ⟨y0, y1, y2, y3, y4⟩ := id I4.out
  have xA := (cell_st B4.out).2.1 ra ha
  have xA' : w4.cell? ⟨w.heap.size, ra + 1, none⟩ = some (.int .u32 (s.r ra)) := by rw [Nat.add_comm]; exact xA
  have fA : w4.frozen? ⟨w.heap.size, 1 + ra, none⟩ = false := B4.out.fz (1 + ra)
  have fA' : w4.frozen? ⟨w.heap.size, ra + 1, none⟩ = false := B4.out.fz (ra + 1)
  go_upto_region 29 with fail
  have B5 : Hid (Boxed w (w4.setCell ⟨w.heap.size, 1 + ra, none⟩ (.int .u32 v)) w.heap.size (w.heap.size + 1) C (C.setIfInBounds (1 + ra) (.int .u32 v)) { s with r := fun j => if j = ra then v else s.r j }) := B4.out.put (1 + ra) (by omega) _ (fun g _ => off_int _ _ _) (put_reg B4.out.st ra ha v)
  have I5 : Hid (InsAt (w4.setCell ⟨w.heap.size, 1 + ra, none⟩ (.int .u32 v)) w1.heap.size 13 ra rb rc imm) := I4.out.far (by have := L1.out; omega) _ _
  clear xA xA' fA fA' y0 y1 y2 y3 y4 B4 I4
  generalize w4.setCell ⟨w.heap.size, 1 + ra, none⟩ (.int .u32 v) = w5 at B5 I5 ⊢
  generalize C.setIfInBounds (1 + ra) (.int .u32 v) = C5 at B5
  obtain ⟨y0, y1, y2, y3, y4⟩ := id I5.out
  go_upto_region 47 with fail
  have u1 := (cell_st B5.out).2.1 0 (by omega)
  have u0 := (cell_st B5.out).1
  have g1 : w5.frozen? ⟨w.heap.size, 1, none⟩ = false := B5.out.fz 1
  have g0 : w5.frozen? ⟨w.heap.size, 0, none⟩ = false := B5.out.fz 0
  go_upto_region 49 with fail
  have Bp : Hid (Boxed w (w5.setCell ⟨w.heap.size, 1, none⟩ (.int .u32 0)) w.heap.size (w.heap.size + 1) C (C5.setIfInBounds 1 (.int .u32 0)) ({ { s with r := fun j => if j = ra then v else s.r j } with r := fun j => if j = 0 then 0 else ({ s with r := fun j => if j = ra then v else s.r j } : St).r j })) := B5.out.put 1 (by omega) _ (fun g _ => off_int _ _ _) (put_reg B5.out.st 0 (by omega) 0)
  have Bq : Hid (Boxed w ((w5.setCell ⟨w.heap.size, 1, none⟩ (.int .u32 0)).setCell ⟨w.heap.size, 0, none⟩ (.int .i64 ((i : Int) + 1))) w.heap.size (w.heap.size + 1) C ((C5.setIfInBounds 1 (.int .u32 0)).setIfInBounds 0 (.int .i64 ((i : Int) + 1))) ({ ({ { s with r := fun j => if j = ra then v else s.r j } with r := fun j => if j = 0 then 0 else ({ s with r := fun j => if j = ra then v else s.r j } : St).r j } : St) with at_ := (i : Int) + 1 })) := Bp.out.put 0 (by omega) _ (fun g _ => off_int _ _ _) (st_at Bp.out.st _)
  clear u1 u0 g1 g0 Bp
  generalize (w5.setCell ⟨w.heap.size, 1, none⟩ (.int .u32 0)).setCell ⟨w.heap.size, 0, none⟩ (.int .i64 ((i : Int) + 1)) = wq at Bq ⊢
  generalize (C5.setIfInBounds 1 (.int .u32 0)).setIfInBounds 0 (.int .i64 ((i : Int) + 1)) = Cq at Bq
  have ES : { ({ { s with r := fun j => if j = ra then v else s.r j } with r := fun j => if j = 0 then 0 else ({ s with r := fun j => if j = ra then v else s.r j } : St).r j } : St) with at_ := (i : Int) + 1 } = opZ 13 ra rb rc imm s := by
    simp only []; rw [setR_eq]; simp [opZ, hi, hok, ev]
  rw [ES] at Bq
  have TT : Hid (Told w (wq.setCells (w.heap.size + 1) 0 Cq.toList) (w.heap.size + 1) C Cq (opZ 13 ra rb rc imm s)) := Told.same Bq.out
  go_wp2_with (first
    | ((with_reducible show wpList _ _ _ (Oper.mk _ (Op.load _ _) _ _ _ _ :: _) _ _); refine wpList_load_if (by rfl) 37 (.tmp 3) rfl w.heap.size 0 rfl Cq.toList _ (at_range Bq.out.at_) Tryd.underlying37 rfl (st_info Bq.out.st).2 ?_)
    | ((with_reducible show wpList _ _ _ (Oper.mk _ (Op.store _ _ _) _ _ _ _ :: _) _ _); refine wpList_store_room (w := w) rfl (.tmp 4) (.tmp 258) rfl (w.heap.size + 1) Cq rfl rfl Bq.out.st Bq.out.room ?_))
  exact bodyPost_ret (v := .agg Cq) (results_st rfl _ (w.heap.size + 1) (by first | rfl | simp) TT.out.st _ TT.out.at_) rfl TT.out.post
set_option maxRecDepth 100000 in
set_option maxHeartbeats 1000000 in
theorem rstep_13_no {w : World} {C : Array Value} {s : St} (h : IsSt w (.agg C) s) (hs : Small s) (he : s.en = false) (a : Option Addr) (n c : Nat) (f : Nat → Int) (i : Nat) (x : Int) (hn : n ≤ 1000) (hw : RowK .u32 w a n f) (hi : s.at_ = i) (hin : i < n) (hx : f i = x) (ra rb rc : Nat) (imm : Int) (ha : ra < 16) (hb : rb < 16) (hc : rc < 16) (hI : -8388608 ≤ imm ∧ imm ≤ 8388607) (hok : okB s.mn (whereZ s rb imm) false = false)
    (hG : ∀ W, Below w.heap.size w W → Calls Tryd.prog 21 #[.int .u32 x] W fun e w' => e = .returned (.tuple #[.agg #[.int .i64 13, .int .i64 ra, .int .i64 rb, .int .i64 rc, .int .i64 imm], .bool true]) ∧ Below W.heap.size W w') :
    Calls Tryd.prog 13 #[.slice a n c, .agg C] w (StPost w C (opZ 13 ra rb rc imm s)) := by
  rw [show opZ 13 ra rb rc imm s = s.stop 3 from by simp [opZ, hok]]
  obtain ⟨v, EV0⟩ : ∃ v : Int, Hid ((0 : Int) = v) := ⟨_, rfl⟩
  have B0 : Hid (Boxed w ((w.alloc (.cells C 37)).alloc (.cells noSt 37)) w.heap.size (w.heap.size + 1) C C s) := Boxed.new h _ _
  clear h
  go_enter Tryd.func13, Tryd.ntmps13
  go_upto_region 1 with fail
  rw [noSt_def]
  generalize (w.alloc (.cells C 37)).alloc (.cells noSt 37) = w0 at B0 ⊢
  have HG : Hid (∀ W, Below w0.heap.size w0 W → Calls Tryd.prog 21 #[.int .u32 x] W fun e w' => e = .returned (.tuple #[.agg #[.int .i64 13, .int .i64 ra, .int .i64 rb, .int .i64 rc, .int .i64 imm], .bool true]) ∧ Below W.heap.size W w') := fun W hW => hG W (bnext B0.out.bel hW)
  obtain ⟨-, rfl | ⟨b, off, rfl, hcw⟩⟩ := hw
  · omega
  have xi := cell_later' (hcw i hin) B0.out.bel
  rw [hx] at xi
  have q1 : decide ((i : Int) < 0) = false := by simp
  have q2 : decide (n ≤ i) = false := by simp [hin]
  clear hG hcw hx
  obtain ⟨x0, -, -, x22, -, -⟩ := cell_st B0.out
  rw [he] at x22
  rw [hi] at x0
  go_upto_region 6 with (go_at_call 21; refine (HG.out _ (Below.refl _ _)).mono ?_; rintro e w1 ⟨rfl, hb1⟩; have HB1 : Hid (Below w0.heap.size w0 w1) := hb1)
  have B1 : Hid (Boxed w (w1.alloc (.cells #[.int .i64 13, .int .i64 ra, .int .i64 rb, .int .i64 rc, .int .i64 imm] 54)) w.heap.size (w.heap.size + 1) C C s) := (B0.out.later HB1.out).later ((Below.refl _ _).alloc (Nat.le_refl _) _)
  have I1 : Hid (InsAt (w1.alloc (.cells #[.int .i64 13, .int .i64 ra, .int .i64 rb, .int .i64 rc, .int .i64 imm] 54)) w1.heap.size 13 ra rb rc imm) := InsAt.new _ _ _ _ _ _ _
  have L1 : Hid (w.heap.size + 1 < w1.heap.size) := by have h1 := B0.out.hb; have h2 := HB1.out.size; have h3 := B0.out.hb.2.2.2.2; show _ < _; omega
  clear x0 x22 hb1 HB1 HG B0 xi q1 q2
  generalize w1.alloc (.cells #[.int .i64 13, .int .i64 ra, .int .i64 rb, .int .i64 rc, .int .i64 imm] 54) = w2 at B1 I1 ⊢
  have KD : Hid (∀ W, Calls Tryd.prog 22 #[.agg #[.int .i64 13, .int .i64 ra, .int .i64 rb, .int .i64 rc, .int .i64 imm]] W fun e w' => e = .returned (.int .i64 1) ∧ Below W.heap.size W w') := fun W => by have h := rkind_any 13 ra rb rc imm W (by omega) (by omega); rwa [show kindZ 13 = 1 from by decide] at h
  obtain ⟨y0, y1, y2, y3, y4⟩ := id I1.out
  obtain ⟨x0, xr, -⟩ := cell_st B1.out
  rw [hi] at x0
  have xa := xr ra ha
  have xa' : w2.cell? ⟨w.heap.size, ra + 1, none⟩ = some (.int .u32 (s.r ra)) := by rw [Nat.add_comm]; exact xa
  have xb := xr rb hb
  have xb' : w2.cell? ⟨w.heap.size, rb + 1, none⟩ = some (.int .u32 (s.r rb)) := by rw [Nat.add_comm]; exact xb
  have ha' : (ra : Int) < 16 := by omega
  have hb' : (rb : Int) < 16 := by omega
  clear xr
  go_upto_region 11 with (go_at_call 22; refine (KD.out _).mono ?_; rintro e w3 ⟨rfl, hb3⟩)
  have B3 : Hid (Boxed w w3 w.heap.size (w.heap.size + 1) C C s) := B1.out.later hb3
  have I3 : Hid (InsAt w3 w1.heap.size 13 ra rb rc imm) := I1.out.later hb3
  have z0 := cell_later' x0 hb3
  clear y0 y1 y2 y3 y4 x0 xa xa' xb xb' hb3 KD B1 I1
  obtain ⟨y0, y1, y2, y3, y4⟩ := id I3.out
  obtain ⟨I0, I1⟩ := hI
  have hi' : (i : Int) < 1000 := by omega
  obtain ⟨q0, q1⟩ := hs.1.2 rb
  obtain ⟨wh, ewh⟩ : ∃ v, whereZ s rb imm = v := ⟨_, rfl⟩
  have MD : Hid (∀ W, Calls Tryd.prog 23 #[.int .i64 (s.r rb + imm), .int .i64 4294967296] W fun e w' => e = .returned (.int .i64 wh) ∧ w' = W) := fun W => by
    have h := mod_any (s.r rb + imm) 4294967296 W (by omega) (by omega)
    rwa [← ewh]
  have hwh : 0 ≤ wh ∧ wh < 4294967296 := by rw [← ewh]; unfold whereZ; omega
  have EW : Hid (IntKind.u32.wrap wh = wh) := by show _ = _; simp [IntKind.wrap, IntKind.bits, IntKind.signed]; omega
  have EWH : Hid (whereZ s rb imm = wh) := ewh
  have hw0 : 0 ≤ whereZ s rb imm ∧ whereZ s rb imm < 4294967296 := by unfold whereZ; omega
  have hm2 : s.mn ≤ 2000 := hs.2.2.1.2.1
  have e9 := EW.out
  go_upto_region 24 with (go_at_call 23; refine (MD.out _).mono ?_; rintro e w9 ⟨rfl, hw9⟩; obtain rfl := hw9.symm)
  clear MD e9 q0 q1
  obtain ⟨-, -, x18, -⟩ := cell_st B3.out
  obtain ⟨ba, bc, ma, mc, ia, ic, oa, oc, ⟨-, x19, -⟩, -, hd, -⟩ := list_st B3.out
  have LD : Hid (∀ W, Below w3.heap.size w3 W → Calls Tryd.prog 24 #[.agg #[.int .i64 s.wt, .slice ma s.mn mc], .int .u32 wh, .bool false] W fun e w' => e = .returned (.tuple #[.int .u32 v, .bool false]) ∧ Below W.heap.size W w') := fun W hW => by
    have h := rload_any s.wt (whereZ s rb imm) false ma s.mn mc s.mf W hm2 hd.1.1 hw0.1 hw0.2 (hd.2.later hW)
    rw [hok, if_neg (by decide), EV0.out, EWH.out] at h
    exact h
  clear hd
  go_upto_region 26 with (go_at_call 24; refine (LD.out _ (Below.refl _ _)).mono ?_; rintro e w4 ⟨rfl, hb4⟩)
  have B4 : Hid (Boxed w w4 w.heap.size (w.heap.size + 1) C C s) := B3.out.later hb4
  have I4 : Hid (InsAt w4 w1.heap.size 13 ra rb rc imm) := I3.out.later hb4
  clear x18 x19 LD hb4 y0 y1 y2 y3 y4 z0 B3 I3
  obtain ⟨y0, y1, y2, y3, y4⟩ := id I4.out
  go_wp2_with (first
    | (go_at_call 20; refine (rend_st B4.out.st 3).mono ?_; rintro e w9 ⟨C9, rfl, h9, v9, b9⟩)
    | ((with_reducible show wpList _ _ _ (Oper.mk _ (Op.load _ _) _ _ _ _ :: _) _ _); refine wpList_load_if (by rfl) 37 (.tmp 3) rfl w.heap.size 0 rfl C.toList _ (at_range B4.out.at_) Tryd.underlying37 rfl (st_info B4.out.st).2 ?_)
    | ((with_reducible show wpList _ _ _ (Oper.mk _ (Op.store _ _ _) _ _ _ _ :: _) _ _); refine wpList_store_room (w := w) rfl (.tmp 4) (.tmp 128) rfl (w.heap.size + 1) C9 rfl rfl h9 (there_later B4.out.room b9) ?_))
  have TT := Told.call B4.out b9 h9 v9
  exact bodyPost_ret (v := .agg C9) (results_st rfl _ (w.heap.size + 1) (by first | rfl | simp) TT.st _ TT.at_) rfl TT.post
set_option maxRecDepth 100000 in
set_option maxHeartbeats 1000000 in
theorem rstep_22_no {w : World} {C : Array Value} {s : St} (h : IsSt w (.agg C) s) (hs : Small s) (he : s.en = false) (a : Option Addr) (n c : Nat) (f : Nat → Int) (i : Nat) (x : Int) (hn : n ≤ 1000) (hw : RowK .u32 w a n f) (hi : s.at_ = i) (hin : i < n) (hx : f i = x) (ra rb rc : Nat) (imm : Int) (ha : ra < 16) (hb : rb < 16) (hc : rc < 16) (hI : -8388608 ≤ imm ∧ imm ≤ 8388607) (hin0 : s.inn = 0)
    (hG : ∀ W, Below w.heap.size w W → Calls Tryd.prog 21 #[.int .u32 x] W fun e w' => e = .returned (.tuple #[.agg #[.int .i64 22, .int .i64 ra, .int .i64 rb, .int .i64 rc, .int .i64 imm], .bool true]) ∧ Below W.heap.size W w') :
    Calls Tryd.prog 13 #[.slice a n c, .agg C] w (StPost w C (opZ 22 ra rb rc imm s)) := by
  have B0 : Hid (Boxed w ((w.alloc (.cells C 37)).alloc (.cells noSt 37)) w.heap.size (w.heap.size + 1) C C s) := Boxed.new h _ _
  clear h
  go_enter Tryd.func13, Tryd.ntmps13
  go_upto_region 1 with fail
  rw [noSt_def]
  generalize (w.alloc (.cells C 37)).alloc (.cells noSt 37) = w0 at B0 ⊢
  have HG : Hid (∀ W, Below w0.heap.size w0 W → Calls Tryd.prog 21 #[.int .u32 x] W fun e w' => e = .returned (.tuple #[.agg #[.int .i64 22, .int .i64 ra, .int .i64 rb, .int .i64 rc, .int .i64 imm], .bool true]) ∧ Below W.heap.size W w') := fun W hW => hG W (bnext B0.out.bel hW)
  obtain ⟨-, rfl | ⟨b, off, rfl, hcw⟩⟩ := hw
  · omega
  have xi := cell_later' (hcw i hin) B0.out.bel
  rw [hx] at xi
  have q1 : decide ((i : Int) < 0) = false := by simp
  have q2 : decide (n ≤ i) = false := by simp [hin]
  clear hG hcw hx
  obtain ⟨x0, -, -, x22, -, -⟩ := cell_st B0.out
  rw [he] at x22
  rw [hi] at x0
  go_upto_region 6 with (go_at_call 21; refine (HG.out _ (Below.refl _ _)).mono ?_; rintro e w1 ⟨rfl, hb1⟩; have HB1 : Hid (Below w0.heap.size w0 w1) := hb1)
  have B1 : Hid (Boxed w (w1.alloc (.cells #[.int .i64 22, .int .i64 ra, .int .i64 rb, .int .i64 rc, .int .i64 imm] 54)) w.heap.size (w.heap.size + 1) C C s) := (B0.out.later HB1.out).later ((Below.refl _ _).alloc (Nat.le_refl _) _)
  have I1 : Hid (InsAt (w1.alloc (.cells #[.int .i64 22, .int .i64 ra, .int .i64 rb, .int .i64 rc, .int .i64 imm] 54)) w1.heap.size 22 ra rb rc imm) := InsAt.new _ _ _ _ _ _ _
  have L1 : Hid (w.heap.size + 1 < w1.heap.size) := by have h1 := B0.out.hb; have h2 := HB1.out.size; have h3 := B0.out.hb.2.2.2.2; show _ < _; omega
  clear x0 x22 hb1 HB1 HG B0 xi q1 q2
  generalize w1.alloc (.cells #[.int .i64 22, .int .i64 ra, .int .i64 rb, .int .i64 rc, .int .i64 imm] 54) = w2 at B1 I1 ⊢
  have KD : Hid (∀ W, Calls Tryd.prog 22 #[.agg #[.int .i64 22, .int .i64 ra, .int .i64 rb, .int .i64 rc, .int .i64 imm]] W fun e w' => e = .returned (.int .i64 1) ∧ Below W.heap.size W w') := fun W => by have h := rkind_any 22 ra rb rc imm W (by omega) (by omega); rwa [show kindZ 22 = 1 from by decide] at h
  obtain ⟨y0, y1, y2, y3, y4⟩ := id I1.out
  obtain ⟨x0, xr, -⟩ := cell_st B1.out
  rw [hi] at x0
  have xa := xr ra ha
  have xa' : w2.cell? ⟨w.heap.size, ra + 1, none⟩ = some (.int .u32 (s.r ra)) := by rw [Nat.add_comm]; exact xa
  have xb := xr rb hb
  have xb' : w2.cell? ⟨w.heap.size, rb + 1, none⟩ = some (.int .u32 (s.r rb)) := by rw [Nat.add_comm]; exact xb
  have ha' : (ra : Int) < 16 := by omega
  have hb' : (rb : Int) < 16 := by omega
  clear xr
  go_upto_region 11 with (go_at_call 22; refine (KD.out _).mono ?_; rintro e w3 ⟨rfl, hb3⟩)
  have B3 : Hid (Boxed w w3 w.heap.size (w.heap.size + 1) C C s) := B1.out.later hb3
  have I3 : Hid (InsAt w3 w1.heap.size 22 ra rb rc imm) := I1.out.later hb3
  have z0 := cell_later' x0 hb3
  clear y0 y1 y2 y3 y4 x0 xa xa' xb xb' hb3 KD B1 I1
  obtain ⟨y0, y1, y2, y3, y4⟩ := id I3.out
  obtain ⟨I0, I1⟩ := hI
  have hi' : (i : Int) < 1000 := by omega
  obtain ⟨q0, q1⟩ := hs.1.2 rb
  obtain ⟨wh, ewh⟩ : ∃ v, whereZ s rb imm = v := ⟨_, rfl⟩
  have MD : Hid (∀ W, Calls Tryd.prog 23 #[.int .i64 (s.r rb + imm), .int .i64 4294967296] W fun e w' => e = .returned (.int .i64 wh) ∧ w' = W) := fun W => by
    have h := mod_any (s.r rb + imm) 4294967296 W (by omega) (by omega)
    rwa [← ewh]
  have hwh : 0 ≤ wh ∧ wh < 4294967296 := by rw [← ewh]; unfold whereZ; omega
  have EW : Hid (IntKind.u32.wrap wh = wh) := by show _ = _; simp [IntKind.wrap, IntKind.bits, IntKind.signed]; omega
  have e9 := EW.out
  go_upto_region 24 with (go_at_call 23; refine (MD.out _).mono ?_; rintro e w9 ⟨rfl, hw9⟩; obtain rfl := hw9.symm)
  clear MD e9 q0 q1
  clear z0
  have xA := (cell_st B3.out).2.1 ra ha
  have xA' : w3.cell? ⟨w.heap.size, ra + 1, none⟩ = some (.int .u32 (s.r ra)) := by rw [Nat.add_comm]; exact xA
  have fA : w3.frozen? ⟨w.heap.size, 1 + ra, none⟩ = false := B3.out.fz (1 + ra)
  have fA' : w3.frozen? ⟨w.heap.size, ra + 1, none⟩ = false := B3.out.fz (ra + 1)
  go_upto_region 36 with fail
  have B4 : Hid (Boxed w (w3.setCell ⟨w.heap.size, 1 + ra, none⟩ (.int .u32 4294967295)) w.heap.size (w.heap.size + 1) C (C.setIfInBounds (1 + ra) (.int .u32 4294967295)) { s with r := fun j => if j = ra then 4294967295 else s.r j }) := B3.out.put (1 + ra) (by omega) _ (fun g _ => off_int _ _ _) (put_reg B3.out.st ra ha 4294967295)
  have I4 : Hid (InsAt (w3.setCell ⟨w.heap.size, 1 + ra, none⟩ (.int .u32 4294967295)) w1.heap.size 22 ra rb rc imm) := I3.out.far (by have := L1.out; omega) _ _
  clear xA xA' fA fA' y0 y1 y2 y3 y4 B3 I3
  generalize w3.setCell ⟨w.heap.size, 1 + ra, none⟩ (.int .u32 4294967295) = w4 at B4 I4 ⊢
  generalize C.setIfInBounds (1 + ra) (.int .u32 4294967295) = C4 at B4
  obtain ⟨y0, y1, y2, y3, y4⟩ := id I4.out
  obtain ⟨ba, bc, ma, mc, ia, ic, oa, oc, ⟨-, -, x20, -⟩, -⟩ := list_st B4.out
  rw [hin0] at x20
  go_upto_region 47 with fail
  have u1 := (cell_st B4.out).2.1 0 (by omega)
  have u0 := (cell_st B4.out).1
  have g1 : w4.frozen? ⟨w.heap.size, 1, none⟩ = false := B4.out.fz 1
  have g0 : w4.frozen? ⟨w.heap.size, 0, none⟩ = false := B4.out.fz 0
  go_upto_region 49 with fail
  have Bp : Hid (Boxed w (w4.setCell ⟨w.heap.size, 1, none⟩ (.int .u32 0)) w.heap.size (w.heap.size + 1) C (C4.setIfInBounds 1 (.int .u32 0)) ({ { s with r := fun j => if j = ra then 4294967295 else s.r j } with r := fun j => if j = 0 then 0 else ({ s with r := fun j => if j = ra then 4294967295 else s.r j } : St).r j })) := B4.out.put 1 (by omega) _ (fun g _ => off_int _ _ _) (put_reg B4.out.st 0 (by omega) 0)
  have Bq : Hid (Boxed w ((w4.setCell ⟨w.heap.size, 1, none⟩ (.int .u32 0)).setCell ⟨w.heap.size, 0, none⟩ (.int .i64 ((i : Int) + 1))) w.heap.size (w.heap.size + 1) C ((C4.setIfInBounds 1 (.int .u32 0)).setIfInBounds 0 (.int .i64 ((i : Int) + 1))) ({ ({ { s with r := fun j => if j = ra then 4294967295 else s.r j } with r := fun j => if j = 0 then 0 else ({ s with r := fun j => if j = ra then 4294967295 else s.r j } : St).r j } : St) with at_ := (i : Int) + 1 })) := Bp.out.put 0 (by omega) _ (fun g _ => off_int _ _ _) (st_at Bp.out.st _)
  clear u1 u0 g1 g0 Bp
  generalize (w4.setCell ⟨w.heap.size, 1, none⟩ (.int .u32 0)).setCell ⟨w.heap.size, 0, none⟩ (.int .i64 ((i : Int) + 1)) = wq at Bq ⊢
  generalize (C4.setIfInBounds 1 (.int .u32 0)).setIfInBounds 0 (.int .i64 ((i : Int) + 1)) = Cq at Bq
  have ES : { ({ { s with r := fun j => if j = ra then 4294967295 else s.r j } with r := fun j => if j = 0 then 0 else ({ s with r := fun j => if j = ra then 4294967295 else s.r j } : St).r j } : St) with at_ := (i : Int) + 1 } = opZ 22 ra rb rc imm s := by
    simp only []; rw [setR_eq]; simp [opZ, hi, hin0]
  rw [ES] at Bq
  have TT : Hid (Told w (wq.setCells (w.heap.size + 1) 0 Cq.toList) (w.heap.size + 1) C Cq (opZ 22 ra rb rc imm s)) := Told.same Bq.out
  go_wp2_with (first
    | ((with_reducible show wpList _ _ _ (Oper.mk _ (Op.load _ _) _ _ _ _ :: _) _ _); refine wpList_load_if (by rfl) 37 (.tmp 3) rfl w.heap.size 0 rfl Cq.toList _ (at_range Bq.out.at_) Tryd.underlying37 rfl (st_info Bq.out.st).2 ?_)
    | ((with_reducible show wpList _ _ _ (Oper.mk _ (Op.store _ _ _) _ _ _ _ :: _) _ _); refine wpList_store_room (w := w) rfl (.tmp 4) (.tmp 258) rfl (w.heap.size + 1) Cq rfl rfl Bq.out.st Bq.out.room ?_))
  exact bodyPost_ret (v := .agg Cq) (results_st rfl _ (w.heap.size + 1) (by first | rfl | simp) TT.out.st _ TT.out.at_) rfl TT.out.post
set_option maxRecDepth 100000 in
set_option maxHeartbeats 1000000 in
theorem rstep_22_yes {w : World} {C : Array Value} {s : St} (h : IsSt w (.agg C) s) (hs : Small s) (he : s.en = false) (a : Option Addr) (n c : Nat) (f : Nat → Int) (i : Nat) (x : Int) (hn : n ≤ 1000) (hw : RowK .u32 w a n f) (hi : s.at_ = i) (hin : i < n) (hx : f i = x) (ra rb rc : Nat) (imm : Int) (ha : ra < 16) (hb : rb < 16) (hc : rc < 16) (hI : -8388608 ≤ imm ∧ imm ≤ 8388607) (m : Nat) (hin0 : s.inn = m + 1)
    (hG : ∀ W, Below w.heap.size w W → Calls Tryd.prog 21 #[.int .u32 x] W fun e w' => e = .returned (.tuple #[.agg #[.int .i64 22, .int .i64 ra, .int .i64 rb, .int .i64 rc, .int .i64 imm], .bool true]) ∧ Below W.heap.size W w') :
    Calls Tryd.prog 13 #[.slice a n c, .agg C] w (StPost w C (opZ 22 ra rb rc imm s)) := by
  have B0 : Hid (Boxed w ((w.alloc (.cells C 37)).alloc (.cells noSt 37)) w.heap.size (w.heap.size + 1) C C s) := Boxed.new h _ _
  clear h
  go_enter Tryd.func13, Tryd.ntmps13
  go_upto_region 1 with fail
  rw [noSt_def]
  generalize (w.alloc (.cells C 37)).alloc (.cells noSt 37) = w0 at B0 ⊢
  have HG : Hid (∀ W, Below w0.heap.size w0 W → Calls Tryd.prog 21 #[.int .u32 x] W fun e w' => e = .returned (.tuple #[.agg #[.int .i64 22, .int .i64 ra, .int .i64 rb, .int .i64 rc, .int .i64 imm], .bool true]) ∧ Below W.heap.size W w') := fun W hW => hG W (bnext B0.out.bel hW)
  obtain ⟨-, rfl | ⟨b, off, rfl, hcw⟩⟩ := hw
  · omega
  have xi := cell_later' (hcw i hin) B0.out.bel
  rw [hx] at xi
  have q1 : decide ((i : Int) < 0) = false := by simp
  have q2 : decide (n ≤ i) = false := by simp [hin]
  clear hG hcw hx
  obtain ⟨x0, -, -, x22, -, -⟩ := cell_st B0.out
  rw [he] at x22
  rw [hi] at x0
  go_upto_region 6 with (go_at_call 21; refine (HG.out _ (Below.refl _ _)).mono ?_; rintro e w1 ⟨rfl, hb1⟩; have HB1 : Hid (Below w0.heap.size w0 w1) := hb1)
  have B1 : Hid (Boxed w (w1.alloc (.cells #[.int .i64 22, .int .i64 ra, .int .i64 rb, .int .i64 rc, .int .i64 imm] 54)) w.heap.size (w.heap.size + 1) C C s) := (B0.out.later HB1.out).later ((Below.refl _ _).alloc (Nat.le_refl _) _)
  have I1 : Hid (InsAt (w1.alloc (.cells #[.int .i64 22, .int .i64 ra, .int .i64 rb, .int .i64 rc, .int .i64 imm] 54)) w1.heap.size 22 ra rb rc imm) := InsAt.new _ _ _ _ _ _ _
  have L1 : Hid (w.heap.size + 1 < w1.heap.size) := by have h1 := B0.out.hb; have h2 := HB1.out.size; have h3 := B0.out.hb.2.2.2.2; show _ < _; omega
  clear x0 x22 hb1 HB1 HG B0 xi q1 q2
  generalize w1.alloc (.cells #[.int .i64 22, .int .i64 ra, .int .i64 rb, .int .i64 rc, .int .i64 imm] 54) = w2 at B1 I1 ⊢
  have KD : Hid (∀ W, Calls Tryd.prog 22 #[.agg #[.int .i64 22, .int .i64 ra, .int .i64 rb, .int .i64 rc, .int .i64 imm]] W fun e w' => e = .returned (.int .i64 1) ∧ Below W.heap.size W w') := fun W => by have h := rkind_any 22 ra rb rc imm W (by omega) (by omega); rwa [show kindZ 22 = 1 from by decide] at h
  obtain ⟨y0, y1, y2, y3, y4⟩ := id I1.out
  obtain ⟨x0, xr, -⟩ := cell_st B1.out
  rw [hi] at x0
  have xa := xr ra ha
  have xa' : w2.cell? ⟨w.heap.size, ra + 1, none⟩ = some (.int .u32 (s.r ra)) := by rw [Nat.add_comm]; exact xa
  have xb := xr rb hb
  have xb' : w2.cell? ⟨w.heap.size, rb + 1, none⟩ = some (.int .u32 (s.r rb)) := by rw [Nat.add_comm]; exact xb
  have ha' : (ra : Int) < 16 := by omega
  have hb' : (rb : Int) < 16 := by omega
  clear xr
  go_upto_region 11 with (go_at_call 22; refine (KD.out _).mono ?_; rintro e w3 ⟨rfl, hb3⟩)
  have B3 : Hid (Boxed w w3 w.heap.size (w.heap.size + 1) C C s) := B1.out.later hb3
  have I3 : Hid (InsAt w3 w1.heap.size 22 ra rb rc imm) := I1.out.later hb3
  have z0 := cell_later' x0 hb3
  clear y0 y1 y2 y3 y4 x0 xa xa' xb xb' hb3 KD B1 I1
  obtain ⟨y0, y1, y2, y3, y4⟩ := id I3.out
  obtain ⟨I0, I1⟩ := hI
  have hi' : (i : Int) < 1000 := by omega
  obtain ⟨q0, q1⟩ := hs.1.2 rb
  obtain ⟨wh, ewh⟩ : ∃ v, whereZ s rb imm = v := ⟨_, rfl⟩
  have MD : Hid (∀ W, Calls Tryd.prog 23 #[.int .i64 (s.r rb + imm), .int .i64 4294967296] W fun e w' => e = .returned (.int .i64 wh) ∧ w' = W) := fun W => by
    have h := mod_any (s.r rb + imm) 4294967296 W (by omega) (by omega)
    rwa [← ewh]
  have hwh : 0 ≤ wh ∧ wh < 4294967296 := by rw [← ewh]; unfold whereZ; omega
  have EW : Hid (IntKind.u32.wrap wh = wh) := by show _ = _; simp [IntKind.wrap, IntKind.bits, IntKind.signed]; omega
  have e9 := EW.out
  go_upto_region 24 with (go_at_call 23; refine (MD.out _).mono ?_; rintro e w9 ⟨rfl, hw9⟩; obtain rfl := hw9.symm)
  clear MD e9 q0 q1
  clear z0
  have xA := (cell_st B3.out).2.1 ra ha
  have xA' : w3.cell? ⟨w.heap.size, ra + 1, none⟩ = some (.int .u32 (s.r ra)) := by rw [Nat.add_comm]; exact xA
  have fA : w3.frozen? ⟨w.heap.size, 1 + ra, none⟩ = false := B3.out.fz (1 + ra)
  have fA' : w3.frozen? ⟨w.heap.size, ra + 1, none⟩ = false := B3.out.fz (ra + 1)
  go_upto_region 36 with fail
  have B4 : Hid (Boxed w (w3.setCell ⟨w.heap.size, 1 + ra, none⟩ (.int .u32 4294967295)) w.heap.size (w.heap.size + 1) C (C.setIfInBounds (1 + ra) (.int .u32 4294967295)) { s with r := fun j => if j = ra then 4294967295 else s.r j }) := B3.out.put (1 + ra) (by omega) _ (fun g _ => off_int _ _ _) (put_reg B3.out.st ra ha 4294967295)
  have I4 : Hid (InsAt (w3.setCell ⟨w.heap.size, 1 + ra, none⟩ (.int .u32 4294967295)) w1.heap.size 22 ra rb rc imm) := I3.out.far (by have := L1.out; omega) _ _
  clear xA xA' fA fA' y0 y1 y2 y3 y4 B3 I3
  generalize w3.setCell ⟨w.heap.size, 1 + ra, none⟩ (.int .u32 4294967295) = w4 at B4 I4 ⊢
  generalize C.setIfInBounds (1 + ra) (.int .u32 4294967295) = C4 at B4
  obtain ⟨y0, y1, y2, y3, y4⟩ := id I4.out
  obtain ⟨ba, bc, ma, mc, ia, ic, oa, oc, ⟨-, -, x20, -⟩, -, -, ⟨hd, hR⟩, -⟩ := list_st B4.out
  simp only [hin0] at x20 hd hR
  obtain ⟨hbd, h0 | ⟨g, og, rfl, hcell⟩⟩ := hR
  · omega
  obtain ⟨v, ev⟩ : ∃ v, s.inf 0 = v := ⟨_, rfl⟩
  have xv : w4.cell? ⟨g, og, none⟩ = some (.int .u8 v) := by rw [← ev]; exact hcell 0 (by omega)
  have n1 : w1.heap.size ≠ w.heap.size := by have := L1.out; omega
  have n2 : g ≠ w.heap.size := by
    obtain ⟨ba', bc', ma', mc', ia', ic', oa', oc', eC, -⟩ := st_cells B4.out.st
    have e20 : C4[20]? = some (.slice (some ⟨g, og, none⟩) (m + 1) ic) := by
      have h1 := B4.out.at_ 20 (.slice ia' s.inn ic') (by rw [eC]; rfl)
      rw [x20, hin0] at h1
      rw [eC, hin0]
      exact h1 ▸ rfl
    exact B4.out.avb 20 ⟨g, og, none⟩ (m + 1) ic e20 (by omega)
  have hv0 : 0 ≤ v ∧ v < 256 := by rw [← ev]; exact hbd 0
  have EV2 : Hid (IntKind.u32.wrap v = v) := by show _ = _; simp [IntKind.wrap, IntKind.bits, IntKind.signed]; omega
  have EV : Hid (s.inf 0 = v) := ev
  have xA := (cell_st B4.out).2.1 ra ha
  have xA' : w4.cell? ⟨w.heap.size, ra + 1, none⟩ = some (.int .u32 (({ s with r := fun j => if j = ra then 4294967295 else s.r j } : St).r ra)) := by rw [Nat.add_comm]; exact xA
  have fA : w4.frozen? ⟨w.heap.size, 1 + ra, none⟩ = false := B4.out.fz (1 + ra)
  have fA' : w4.frozen? ⟨w.heap.size, ra + 1, none⟩ = false := B4.out.fz (ra + 1)
  simp only [] at xA xA'
  have hic : m + 1 ≤ ic := hd.1
  have hm5 : m ≤ 1000 := by have := hs.2.2.1.2.2.1; omega
  clear hd hcell ev hv0
  go_upto_region 37 with fail
  refine wp_region_held_drew (S := fun w' => (InsAt w' w1.heap.size 22 ra rb rc imm) ∧ w'.cell? ⟨w.heap.size, 20, none⟩ = some (.slice (some ⟨g, og, none⟩) (m + 1) ic) ∧ w'.cell? ⟨g, og, none⟩ = some (.int .u8 v)) (by kernel_rfl) ?_ (fun hHeld => ?_)
  · exact ⟨I4.out, x20, xv⟩
  refine wpAnyH_take (i := 0) (v := ?_) rfl (by kernel_rfl) (by kernel_rfl) (by kernel_rfl) (fun _ _ _ h => h) (Or.inl ⟨by rfl, ?_⟩) (by assumption) ?_
  rotate_left
  · intro w hSw; (try dsimp only at hSw); first | (go_simp; done) | (go_simp; with_reducible rfl)
  try simp only [Act.put, List.setIfInBounds_toArray, List.set_cons_zero, List.set_cons_succ]
  refine wpAnyH_take (i := 1) (v := .int .i64 ra) rfl (by kernel_rfl) (by kernel_rfl) (by kernel_rfl) (fun _ _ _ h => h) (Or.inl ⟨by rfl, ?_⟩) (by assumption) ?_
  · intro w hSw; (try dsimp only at hSw); obtain ⟨⟨f0, f1, f2, f3, f4⟩, f20, fv⟩ := hSw; first | (go_simp; done) | (go_simp; with_reducible rfl)
  try simp only [Act.put, List.setIfInBounds_toArray, List.set_cons_zero, List.set_cons_succ]
  refine wpAnyH_take (i := 2) (v := ?_) rfl (by kernel_rfl) (by kernel_rfl) (by kernel_rfl) (fun _ _ _ h => h) (Or.inl ⟨by rfl, ?_⟩) (by assumption) ?_
  rotate_left
  · intro w hSw; (try dsimp only at hSw); first | (go_simp; done) | (go_simp; with_reducible rfl)
  try simp only [Act.put, List.setIfInBounds_toArray, List.set_cons_zero, List.set_cons_succ]
  refine wpAnyH_take (i := 3) (v := .slice (some ⟨g, og, none⟩) (m + 1) ic) rfl (by kernel_rfl) (by kernel_rfl) (by kernel_rfl) (fun _ _ _ h => h) (Or.inl ⟨by rfl, ?_⟩) (by assumption) ?_
  · intro w hSw; (try dsimp only at hSw); obtain ⟨⟨f0, f1, f2, f3, f4⟩, f20, fv⟩ := hSw; first | (go_simp; done) | (go_simp; with_reducible rfl)
  try simp only [Act.put, List.setIfInBounds_toArray, List.set_cons_zero, List.set_cons_succ]
  refine wpAnyH_take (i := 4) (v := ?_) rfl (by kernel_rfl) (by kernel_rfl) (by kernel_rfl) (fun _ _ _ h => h) (Or.inl ⟨by rfl, ?_⟩) (by assumption) ?_
  rotate_left
  · intro w hSw; (try dsimp only at hSw); first | (go_simp; done) | (go_simp; with_reducible rfl)
  try simp only [Act.put, List.setIfInBounds_toArray, List.set_cons_zero, List.set_cons_succ]
  refine wpAnyH_take (i := 5) (v := .int .u8 v) rfl (by kernel_rfl) (by kernel_rfl) (by kernel_rfl) (fun _ _ _ h => h) (Or.inl ⟨by rfl, ?_⟩) (by assumption) ?_
  · intro w hSw; (try dsimp only at hSw); obtain ⟨⟨f0, f1, f2, f3, f4⟩, f20, fv⟩ := hSw; first | (go_simp; done) | (go_simp; with_reducible rfl)
  try simp only [Act.put, List.setIfInBounds_toArray, List.set_cons_zero, List.set_cons_succ]
  refine wpAnyH_take (i := 6) (v := .int .u32 v) rfl (by kernel_rfl) (by kernel_rfl) (by kernel_rfl) (fun _ _ _ h => h) (Or.inl ⟨by rfl, ?_⟩) (by assumption) ?_
  · intro w hSw; (try dsimp only at hSw); have e7 := EV2.out; first | (go_simp; done) | (go_simp; with_reducible rfl)
  try simp only [Act.put, List.setIfInBounds_toArray, List.set_cons_zero, List.set_cons_succ]
  refine wpAnyH_take (i := 7) (v := ?_) rfl (by kernel_rfl) (by kernel_rfl) (by kernel_rfl) (fun _ _ _ h => h) (Or.inl ⟨by rfl, ?_⟩) (by assumption) ?_
  rotate_left
  · intro w hSw; (try dsimp only at hSw); first | (go_simp; done) | (go_simp; with_reducible rfl)
  try simp only [Act.put, List.setIfInBounds_toArray, List.set_cons_zero, List.set_cons_succ]
  refine wpAnyH_take (i := 8) (v := ?_) rfl (by kernel_rfl) (by kernel_rfl) (by kernel_rfl) (fun _ _ _ h => h) (Or.inl ⟨by rfl, ?_⟩) (by assumption) ?_
  rotate_left
  · intro w hSw; (try dsimp only at hSw); first | (go_simp; done) | (go_simp; with_reducible rfl)
  try simp only [Act.put, List.setIfInBounds_toArray, List.set_cons_zero, List.set_cons_succ]
  refine wpAnyH_ready (rs := [9]) (by kernel_rfl) (by simp) (AllReadyH.cons (o := { dst := none, op := Op.store 28 (.tmp 178) (.tmp 176), type := _, pos := _, after := _, guard := none }) rfl (fun K hK => ?_) AllReadyH.nil)
  go_simp
  refine hK.out _ _ ?_ (fun hHeld => ?_)
  · exact ⟨I4.out.far n1 _ _, (World.cell?_setCell_other _ _ _ _ (fun e => by have := congrArg Addr.off e; simp at this; omega)).trans x20, (World.cell?_setCell_other _ _ _ _ (fun e => n2 (congrArg Addr.block e).symm)).trans xv⟩
  clear hK K
  try simp only [Act.put, List.setIfInBounds_toArray, List.set_cons_zero, List.set_cons_succ]
  refine wpAnyH_done (by kernel_rfl) ?_ _
  try simp only [Act.put, List.setIfInBounds_toArray, List.set_cons_zero, List.set_cons_succ]
  have B5 : Hid (Boxed w (w4.setCell ⟨w.heap.size, 1 + ra, none⟩ (.int .u32 v)) w.heap.size (w.heap.size + 1) C (C4.setIfInBounds (1 + ra) (.int .u32 v)) ({ s with r := fun j => if j = ra then v else s.r j } : St)) := by
    have h := B4.out.put (1 + ra) (by omega) (.int .u32 v) (fun g _ => off_int _ _ _) (put_reg B4.out.st ra ha v)
    have e : (fun j => if j = ra then v else ({ s with r := fun j => if j = ra then 4294967295 else s.r j } : St).r j) = (fun j => if j = ra then v else s.r j) := by funext j; by_cases e : j = ra <;> simp [e]
    rw [e] at h
    exact h
  have I5 : Hid (InsAt (w4.setCell ⟨w.heap.size, 1 + ra, none⟩ (.int .u32 v)) w1.heap.size 22 ra rb rc imm) := hHeld.1
  clear hHeld x20 xv xA xA' fA fA' y0 y1 y2 y3 y4 B4 I4 EV2
  generalize w4.setCell ⟨w.heap.size, 1 + ra, none⟩ (.int .u32 v) = w5 at B5 I5 ⊢
  generalize C4.setIfInBounds (1 + ra) (.int .u32 v) = C5 at B5
  obtain ⟨y0, y1, y2, y3, y4⟩ := id I5.out
  obtain ⟨ba, bc, ma, mc, ia, ic, oa, oc, ⟨-, -, x20, -⟩, -, -, ⟨hd, hR⟩, -⟩ := list_st B5.out
  simp only [hin0] at x20 hd hR
  obtain ⟨-, h0 | ⟨g, og, rfl, hcell⟩⟩ := hR
  · omega
  have HB : Hid (∀ j, 0 ≤ s.inf j ∧ s.inf j < 256) := hbd
  have hic : m + 1 ≤ ic := hd.1
  have f20 : w5.frozen? ⟨w.heap.size, 20, none⟩ = false := B5.out.fz 20
  have lt5 : w.heap.size < w5.heap.size := B5.out.hb.2.2.2.1
  have hR2 : m = 0 ∨ Bytes w5 (some ⟨g, og + 1, none⟩) m (fun j => s.inf (j + 1)) := .inr ⟨fun j => hbd (j + 1), .inr ⟨g, og + 1, rfl, fun j hj => by rw [Nat.add_assoc, Nat.add_comm 1 j]; exact hcell (j + 1) (by omega)⟩⟩
  clear hcell hd hbd
  obtain ⟨hic1, hm0⟩ | hic2 : ic = 1 ∧ m = 0 ∨ 1 < ic := by omega
  · subst hic1 hm0
    have HRC : Hid (∀ ad, some (⟨g, og, none⟩ : Addr) = some ad → ∀ j u, (cellsK .u8 0 (fun j => s.inf (j + 1)))[j]? = some u → w5.cell? (ad.add j) = some u) := fun ad _ j u hu => by simp [cellsK] at hu
    clear hR2
    go_upto_region 39 with (first | (at_builtin; refine wpList_append_drew w5 rfl (.tmp 179) (.tmp 182) 23 rfl 5 (.int .u8 0) 1 Tryd.underlying23 infoB rfl rfl (some ⟨g, og, none⟩) 0 0 (cellsK .u8 0 (fun j => s.inf (j + 1))) rfl (cellsK_len _ _ _) (fun e => by cases e) HRC.out (cellsK_one _ _ _) (by unfold maxLen; omega) (by omega) ?_; intro a5 c5 w9 own5 hb5; have x20' := cell_later' x20 hb5; have f20' : w9.frozen? ⟨w.heap.size, 20, none⟩ = false := (B5.out.later hb5).fz 20) | (at_builtin; refine wpList_append_fresh w5 rfl (.tmp 179) (.tmp 182) 23 rfl 5 (.int .u8 0) 1 Tryd.underlying23 infoB rfl rfl (some ⟨g, og, none⟩) 0 0 (cellsK .u8 0 (fun j => s.inf (j + 1))) rfl (cellsK_len _ _ _) (fun e => by cases e) HRC.out (cellsK_one _ _ _) (by unfold maxLen; omega) (by omega) ?_; intro a5 c5 w9 own5 hb5; have x20' := cell_later' x20 hb5; have f20' : w9.frozen? ⟨w.heap.size, 20, none⟩ = false := (B5.out.later hb5).fz 20))
    have B6 : Hid (Boxed w (w9.setCell ⟨w.heap.size, 20, none⟩ (.slice a5 0 c5)) w.heap.size (w.heap.size + 1) C (C5.setIfInBounds 20 (.slice a5 0 c5)) { s with r := fun j => if j = ra then v else s.r j, inn := 0, inf := fun j => s.inf (j + 1) }) :=
      (B5.out.later hb5).put 20 (by omega) _ (fun g hg => off_new (own_blk own5) (by have := B5.out.hb; have := B5.out.bel.size; omega)) (put_in (B5.out.later hb5).st a5 0 c5 _ (own_bytes own5 (fun j => HB.out (j + 1))))
    have I6 : Hid (InsAt (w9.setCell ⟨w.heap.size, 20, none⟩ (.slice a5 0 c5)) w1.heap.size 22 ra rb rc imm) := (I5.out.later hb5).far (by have := L1.out; omega) _ _
    clear x20 f20 x20' f20' own5 hb5 HRC HB y0 y1 y2 y3 y4 B5 I5
    generalize w9.setCell ⟨w.heap.size, 20, none⟩ (.slice a5 0 c5) = w6 at B6 I6 ⊢
    generalize C5.setIfInBounds 20 (.slice a5 0 c5) = C6 at B6
    obtain ⟨y0, y1, y2, y3, y4⟩ := id I6.out
    go_upto_region 47 with fail
    have u1 := (cell_st B6.out).2.1 0 (by omega)
    have u0 := (cell_st B6.out).1
    have g1 : w6.frozen? ⟨w.heap.size, 1, none⟩ = false := B6.out.fz 1
    have g0 : w6.frozen? ⟨w.heap.size, 0, none⟩ = false := B6.out.fz 0
    go_upto_region 49 with fail
    have Bp : Hid (Boxed w (w6.setCell ⟨w.heap.size, 1, none⟩ (.int .u32 0)) w.heap.size (w.heap.size + 1) C (C6.setIfInBounds 1 (.int .u32 0)) ({ { s with r := fun j => if j = ra then v else s.r j, inn := 0, inf := fun j => s.inf (j + 1) } with r := fun j => if j = 0 then 0 else ({ s with r := fun j => if j = ra then v else s.r j, inn := 0, inf := fun j => s.inf (j + 1) } : St).r j })) := B6.out.put 1 (by omega) _ (fun g _ => off_int _ _ _) (put_reg B6.out.st 0 (by omega) 0)
    have Bq : Hid (Boxed w ((w6.setCell ⟨w.heap.size, 1, none⟩ (.int .u32 0)).setCell ⟨w.heap.size, 0, none⟩ (.int .i64 ((i : Int) + 1))) w.heap.size (w.heap.size + 1) C ((C6.setIfInBounds 1 (.int .u32 0)).setIfInBounds 0 (.int .i64 ((i : Int) + 1))) ({ ({ { s with r := fun j => if j = ra then v else s.r j, inn := 0, inf := fun j => s.inf (j + 1) } with r := fun j => if j = 0 then 0 else ({ s with r := fun j => if j = ra then v else s.r j, inn := 0, inf := fun j => s.inf (j + 1) } : St).r j } : St) with at_ := (i : Int) + 1 })) := Bp.out.put 0 (by omega) _ (fun g _ => off_int _ _ _) (st_at Bp.out.st _)
    clear u1 u0 g1 g0 Bp
    generalize (w6.setCell ⟨w.heap.size, 1, none⟩ (.int .u32 0)).setCell ⟨w.heap.size, 0, none⟩ (.int .i64 ((i : Int) + 1)) = wq at Bq ⊢
    generalize (C6.setIfInBounds 1 (.int .u32 0)).setIfInBounds 0 (.int .i64 ((i : Int) + 1)) = Cq at Bq
    have ES : { ({ { s with r := fun j => if j = ra then v else s.r j, inn := 0, inf := fun j => s.inf (j + 1) } with r := fun j => if j = 0 then 0 else ({ s with r := fun j => if j = ra then v else s.r j, inn := 0, inf := fun j => s.inf (j + 1) } : St).r j } : St) with at_ := (i : Int) + 1 } = opZ 22 ra rb rc imm s := by
      have ev := EV.out; simp only []; rw [setR_eq]; simp [opZ, hi, hin0, ev]
    rw [ES] at Bq
    have TT : Hid (Told w (wq.setCells (w.heap.size + 1) 0 Cq.toList) (w.heap.size + 1) C Cq (opZ 22 ra rb rc imm s)) := Told.same Bq.out
    go_wp2_with (first
      | ((with_reducible show wpList _ _ _ (Oper.mk _ (Op.load _ _) _ _ _ _ :: _) _ _); refine wpList_load_if (by rfl) 37 (.tmp 3) rfl w.heap.size 0 rfl Cq.toList _ (at_range Bq.out.at_) Tryd.underlying37 rfl (st_info Bq.out.st).2 ?_)
      | ((with_reducible show wpList _ _ _ (Oper.mk _ (Op.store _ _ _) _ _ _ _ :: _) _ _); refine wpList_store_room (w := w) rfl (.tmp 4) (.tmp 258) rfl (w.heap.size + 1) Cq rfl rfl Bq.out.st Bq.out.room ?_))
    exact bodyPost_ret (v := .agg Cq) (results_st rfl _ (w.heap.size + 1) (by first | rfl | simp) TT.out.st _ TT.out.at_) rfl TT.out.post
  · have HRC : Hid (∀ ad, some (⟨g, og + 1, none⟩ : Addr) = some ad → ∀ j u, (cellsK .u8 m (fun j => s.inf (j + 1)))[j]? = some u → w5.cell? (ad.add j) = some u) := by
      obtain h | h := hR2
      · subst h; intro ad _ j u hu; simp [cellsK] at hu
      · exact bytes_cells h
    clear hR2
    go_upto_region 39 with (first | (at_builtin; refine wpList_append_drew w5 rfl (.tmp 179) (.tmp 182) 23 rfl 5 (.int .u8 0) 1 Tryd.underlying23 infoB rfl rfl (some ⟨g, og + 1, none⟩) m (ic - 1) (cellsK .u8 m (fun j => s.inf (j + 1))) rfl (cellsK_len _ _ _) (fun e => by cases e) HRC.out (cellsK_one _ _ _) (by unfold maxLen; omega) (by omega) ?_; intro a5 c5 w9 own5 hb5; have x20' := cell_later' x20 hb5; have f20' : w9.frozen? ⟨w.heap.size, 20, none⟩ = false := (B5.out.later hb5).fz 20) | (at_builtin; refine wpList_append_fresh w5 rfl (.tmp 179) (.tmp 182) 23 rfl 5 (.int .u8 0) 1 Tryd.underlying23 infoB rfl rfl (some ⟨g, og + 1, none⟩) m (ic - 1) (cellsK .u8 m (fun j => s.inf (j + 1))) rfl (cellsK_len _ _ _) (fun e => by cases e) HRC.out (cellsK_one _ _ _) (by unfold maxLen; omega) (by omega) ?_; intro a5 c5 w9 own5 hb5; have x20' := cell_later' x20 hb5; have f20' : w9.frozen? ⟨w.heap.size, 20, none⟩ = false := (B5.out.later hb5).fz 20))
    have B6 : Hid (Boxed w (w9.setCell ⟨w.heap.size, 20, none⟩ (.slice a5 m c5)) w.heap.size (w.heap.size + 1) C (C5.setIfInBounds 20 (.slice a5 m c5)) { s with r := fun j => if j = ra then v else s.r j, inn := m, inf := fun j => s.inf (j + 1) }) :=
      (B5.out.later hb5).put 20 (by omega) _ (fun g hg => off_new (own_blk own5) (by have := B5.out.hb; have := B5.out.bel.size; omega)) (put_in (B5.out.later hb5).st a5 m c5 _ (own_bytes own5 (fun j => HB.out (j + 1))))
    have I6 : Hid (InsAt (w9.setCell ⟨w.heap.size, 20, none⟩ (.slice a5 m c5)) w1.heap.size 22 ra rb rc imm) := (I5.out.later hb5).far (by have := L1.out; omega) _ _
    clear x20 f20 x20' f20' own5 hb5 HRC HB y0 y1 y2 y3 y4 B5 I5
    generalize w9.setCell ⟨w.heap.size, 20, none⟩ (.slice a5 m c5) = w6 at B6 I6 ⊢
    generalize C5.setIfInBounds 20 (.slice a5 m c5) = C6 at B6
    obtain ⟨y0, y1, y2, y3, y4⟩ := id I6.out
    go_upto_region 47 with fail
    have u1 := (cell_st B6.out).2.1 0 (by omega)
    have u0 := (cell_st B6.out).1
    have g1 : w6.frozen? ⟨w.heap.size, 1, none⟩ = false := B6.out.fz 1
    have g0 : w6.frozen? ⟨w.heap.size, 0, none⟩ = false := B6.out.fz 0
    go_upto_region 49 with fail
    have Bp : Hid (Boxed w (w6.setCell ⟨w.heap.size, 1, none⟩ (.int .u32 0)) w.heap.size (w.heap.size + 1) C (C6.setIfInBounds 1 (.int .u32 0)) ({ { s with r := fun j => if j = ra then v else s.r j, inn := m, inf := fun j => s.inf (j + 1) } with r := fun j => if j = 0 then 0 else ({ s with r := fun j => if j = ra then v else s.r j, inn := m, inf := fun j => s.inf (j + 1) } : St).r j })) := B6.out.put 1 (by omega) _ (fun g _ => off_int _ _ _) (put_reg B6.out.st 0 (by omega) 0)
    have Bq : Hid (Boxed w ((w6.setCell ⟨w.heap.size, 1, none⟩ (.int .u32 0)).setCell ⟨w.heap.size, 0, none⟩ (.int .i64 ((i : Int) + 1))) w.heap.size (w.heap.size + 1) C ((C6.setIfInBounds 1 (.int .u32 0)).setIfInBounds 0 (.int .i64 ((i : Int) + 1))) ({ ({ { s with r := fun j => if j = ra then v else s.r j, inn := m, inf := fun j => s.inf (j + 1) } with r := fun j => if j = 0 then 0 else ({ s with r := fun j => if j = ra then v else s.r j, inn := m, inf := fun j => s.inf (j + 1) } : St).r j } : St) with at_ := (i : Int) + 1 })) := Bp.out.put 0 (by omega) _ (fun g _ => off_int _ _ _) (st_at Bp.out.st _)
    clear u1 u0 g1 g0 Bp
    generalize (w6.setCell ⟨w.heap.size, 1, none⟩ (.int .u32 0)).setCell ⟨w.heap.size, 0, none⟩ (.int .i64 ((i : Int) + 1)) = wq at Bq ⊢
    generalize (C6.setIfInBounds 1 (.int .u32 0)).setIfInBounds 0 (.int .i64 ((i : Int) + 1)) = Cq at Bq
    have ES : { ({ { s with r := fun j => if j = ra then v else s.r j, inn := m, inf := fun j => s.inf (j + 1) } with r := fun j => if j = 0 then 0 else ({ s with r := fun j => if j = ra then v else s.r j, inn := m, inf := fun j => s.inf (j + 1) } : St).r j } : St) with at_ := (i : Int) + 1 } = opZ 22 ra rb rc imm s := by
      have ev := EV.out; simp only []; rw [setR_eq]; simp [opZ, hi, hin0, ev]
    rw [ES] at Bq
    have TT : Hid (Told w (wq.setCells (w.heap.size + 1) 0 Cq.toList) (w.heap.size + 1) C Cq (opZ 22 ra rb rc imm s)) := Told.same Bq.out
    go_wp2_with (first
      | ((with_reducible show wpList _ _ _ (Oper.mk _ (Op.load _ _) _ _ _ _ :: _) _ _); refine wpList_load_if (by rfl) 37 (.tmp 3) rfl w.heap.size 0 rfl Cq.toList _ (at_range Bq.out.at_) Tryd.underlying37 rfl (st_info Bq.out.st).2 ?_)
      | ((with_reducible show wpList _ _ _ (Oper.mk _ (Op.store _ _ _) _ _ _ _ :: _) _ _); refine wpList_store_room (w := w) rfl (.tmp 4) (.tmp 258) rfl (w.heap.size + 1) Cq rfl rfl Bq.out.st Bq.out.room ?_))
    exact bodyPost_ret (v := .agg Cq) (results_st rfl _ (w.heap.size + 1) (by first | rfl | simp) TT.out.st _ TT.out.at_) rfl TT.out.post
end Go.Proofs.YtnpejnjigaalfaaDoor
