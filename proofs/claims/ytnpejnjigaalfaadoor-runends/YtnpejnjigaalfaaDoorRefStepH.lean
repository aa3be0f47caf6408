/- What the document's own Step returns, by the operation. -/
import Derived.Test.YtnpejnjigaalfaaDoorRefStep
namespace Go.Proofs.YtnpejnjigaalfaaDoor
open Go.ChangeShapes Go.WideShapes Go.ChangeAt Go.RowKit
set_option linter.unusedVariables false
set_option linter.unusedSimpArgs false
theorem put_wtR {w : World} {C : Array Value} {s : St} (h : IsSt w (.agg C) s) (x : Int) : IsSt w (.agg (C.setIfInBounds 18 (.int .i64 x))) { s with wt := x } := by
  obtain ⟨ba, bc, ma, mc, ia, ic, oa, oc, e, h⟩ := h
  simp only [Value.agg.injEq] at e
  subst e
  exact ⟨ba, bc, ma, mc, ia, ic, oa, oc, rfl, h⟩
theorem savedF_bdR {f : Nat → Int} (hf : ∀ i, 0 ≤ f i ∧ f i < 256) (x : Int) (at_ : Int) (wide : Bool) : ∀ i, 0 ≤ savedF f at_ x wide i ∧ savedF f at_ x wide i < 256 := by
  intro i
  unfold savedF putK
  have hi := hf i
  generalize (if wide = true then 4 else 1) = m
  split
  · have := Int.emod_nonneg (x / 256 ^ (i - (at_ - 65536).toNat)) (show (256 : Int) ≠ 0 by decide)
    have := Int.emod_lt_of_pos (x / 256 ^ (i - (at_ - 65536).toNat)) (show (0 : Int) < 256 by decide)
    omega
  · exact hi
set_option maxRecDepth 100000 in
set_option maxHeartbeats 1000000 in
theorem rstep_12_yes {w : World} {C : Array Value} {s : St} (h : IsSt w (.agg C) s) (hs : Small s) (he : s.en = false) (a : Option Addr) (n c : Nat) (f : Nat → Int) (i : Nat) (x : Int) (hn : n ≤ 1000) (hw : RowK .u32 w a n f) (hi : s.at_ = i) (hin : i < n) (hx : f i = x) (ra rb rc : Nat) (imm : Int) (ha : ra < 16) (hb : rb < 16) (hc : rc < 16) (hI : -8388608 ≤ imm ∧ imm ≤ 8388607) (hok : saveB s.mn (whereZ s rb imm) true s.wt = true)
    (hG : ∀ W, Below w.heap.size w W → Calls Tryd.prog 21 #[.int .u32 x] W fun e w' => e = .returned (.tuple #[.agg #[.int .i64 12, .int .i64 ra, .int .i64 rb, .int .i64 rc, .int .i64 imm], .bool true]) ∧ Below W.heap.size W w') :
    Calls Tryd.prog 13 #[.slice a n c, .agg C] w (StPost w C (opZ 12 ra rb rc imm s)) := by
  have B0 : Hid (Boxed w ((w.alloc (.cells C 37)).alloc (.cells noSt 37)) w.heap.size (w.heap.size + 1) C C s) := Boxed.new h _ _
  clear h
  go_enter Tryd.func13, Tryd.ntmps13
  go_upto_region 1 with fail
  rw [noSt_def]
  generalize (w.alloc (.cells C 37)).alloc (.cells noSt 37) = w0 at B0 ⊢
  have HG : Hid (∀ W, Below w0.heap.size w0 W → Calls Tryd.prog 21 #[.int .u32 x] W fun e w' => e = .returned (.tuple #[.agg #[.int .i64 12, .int .i64 ra, .int .i64 rb, .int .i64 rc, .int .i64 imm], .bool true]) ∧ Below W.heap.size W w') := fun W hW => hG W (bnext B0.out.bel hW)
  obtain ⟨-, rfl | ⟨b, off, rfl, hcw⟩⟩ := hw
  · omega
  have xi := cell_later' (hcw i hin) B0.out.bel
  rw [hx] at xi
  have q1 : decide ((i : Int) < 0) = false := by simp
  have q2 : decide (n ≤ i) = false := by simp [hin]
  clear hG hcw hx
  obtain ⟨x0, -, -, x22, -, -⟩ := cell_st B0.out
  rw [he] at x22
  rw [hi] at x0
  go_upto_region 6 with (go_at_call 21; refine (HG.out _ (Below.refl _ _)).mono ?_; rintro e w1 ⟨rfl, hb1⟩; have HB1 : Hid (Below w0.heap.size w0 w1) := hb1)
  have B1 : Hid (Boxed w (w1.alloc (.cells #[.int .i64 12, .int .i64 ra, .int .i64 rb, .int .i64 rc, .int .i64 imm] 54)) w.heap.size (w.heap.size + 1) C C s) := (B0.out.later HB1.out).later ((Below.refl _ _).alloc (Nat.le_refl _) _)
  have I1 : Hid (InsAt (w1.alloc (.cells #[.int .i64 12, .int .i64 ra, .int .i64 rb, .int .i64 rc, .int .i64 imm] 54)) w1.heap.size 12 ra rb rc imm) := InsAt.new _ _ _ _ _ _ _
  have L1 : Hid (w.heap.size + 1 < w1.heap.size) := by have h1 := B0.out.hb; have h2 := HB1.out.size; have h3 := B0.out.hb.2.2.2.2; show _ < _; omega
  clear x0 x22 hb1 HB1 HG B0 xi q1 q2
  generalize w1.alloc (.cells #[.int .i64 12, .int .i64 ra, .int .i64 rb, .int .i64 rc, .int .i64 imm] 54) = w2 at B1 I1 ⊢
  have KD : Hid (∀ W, Calls Tryd.prog 22 #[.agg #[.int .i64 12, .int .i64 ra, .int .i64 rb, .int .i64 rc, .int .i64 imm]] W fun e w' => e = .returned (.int .i64 1) ∧ Below W.heap.size W w') := fun W => by have h := rkind_any 12 ra rb rc imm W (by omega) (by omega); rwa [show kindZ 12 = 1 from by decide] at h
  obtain ⟨y0, y1, y2, y3, y4⟩ := id I1.out
  obtain ⟨x0, xr, -⟩ := cell_st B1.out
  rw [hi] at x0
  have xa := xr ra ha
  have xa' : w2.cell? ⟨w.heap.size, ra + 1, none⟩ = some (.int .u32 (s.r ra)) := by rw [Nat.add_comm]; exact xa
  have xb := xr rb hb
  have xb' : w2.cell? ⟨w.heap.size, rb + 1, none⟩ = some (.int .u32 (s.r rb)) := by rw [Nat.add_comm]; exact xb
  have ha' : (ra : Int) < 16 := by omega
  have hb' : (rb : Int) < 16 := by omega
  clear xr
  go_upto_region 11 with (go_at_call 22; refine (KD.out _).mono ?_; rintro e w3 ⟨rfl, hb3⟩)
  have B3 : Hid (Boxed w w3 w.heap.size (w.heap.size + 1) C C s) := B1.out.later hb3
  have I3 : Hid (InsAt w3 w1.heap.size 12 ra rb rc imm) := I1.out.later hb3
  have z0 := cell_later' x0 hb3
  clear y0 y1 y2 y3 y4 x0 xa xa' xb xb' hb3 KD B1 I1
  obtain ⟨y0, y1, y2, y3, y4⟩ := id I3.out
  obtain ⟨I0, I1⟩ := hI
  have hi' : (i : Int) < 1000 := by omega
  obtain ⟨q0, q1⟩ := hs.1.2 rb
  obtain ⟨wh, ewh⟩ : ∃ v, whereZ s rb imm = v := ⟨_, rfl⟩
  have MD : Hid (∀ W, Calls Tryd.prog 23 #[.int .i64 (s.r rb + imm), .int .i64 4294967296] W fun e w' => e = .returned (.int .i64 wh) ∧ w' = W) := fun W => by
    have h := mod_any (s.r rb + imm) 4294967296 W (by omega) (by omega)
    rwa [← ewh]
  have hwh : 0 ≤ wh ∧ wh < 4294967296 := by rw [← ewh]; unfold whereZ; omega
  have EW : Hid (IntKind.u32.wrap wh = wh) := by show _ = _; simp [IntKind.wrap, IntKind.bits, IntKind.signed]; omega
  have EWH : Hid (whereZ s rb imm = wh) := ewh
  have hw0 : 0 ≤ whereZ s rb imm ∧ whereZ s rb imm < 4294967296 := by unfold whereZ; omega
  have hm2 : s.mn ≤ 2000 := hs.2.2.1.2.1
  have hwt := hs.2.2.2.1
  have e9 := EW.out
  go_upto_region 24 with (go_at_call 23; refine (MD.out _).mono ?_; rintro e w9 ⟨rfl, hw9⟩; obtain rfl := hw9.symm)
  clear MD e9 q0 q1
  obtain ⟨-, -, x18, -⟩ := cell_st B3.out
  obtain ⟨ba, bc, ma, mc, ia, ic, oa, oc, ⟨-, x19, -⟩, -, hd, -⟩ := list_st B3.out
  have SV : Hid (∀ W, Below w3.heap.size w3 W → Calls Tryd.prog 25 #[.agg #[.int .i64 s.wt, .slice ma s.mn mc], .int .u32 wh, .int .u32 (s.r ra), .bool true] W fun e w' => ∃ g cap', e = .returned (.tuple #[.agg #[.int .i64 s.wt, .slice (some ⟨g, 0, none⟩) s.mn cap'], .bool true]) ∧ W.heap.size ≤ g ∧ s.mn ≤ cap' ∧ RowB w' g s.mn (savedF s.mf wh (s.r ra) true) ∧ Below W.heap.size W w') := fun W hW => by
    have h := rsave_any s.wt (whereZ s rb imm) (s.r ra) true ma s.mn mc s.mf W hm2 hd.1.1 hwt hw0.1 hw0.2 (hs.1.2 ra).1 (hs.1.2 ra).2 (hd.2.later hW) hok
    rw [EWH.out] at h
    exact h
  have SF : Hid (∀ j, 0 ≤ savedF s.mf wh (s.r ra) true j ∧ savedF s.mf wh (s.r ra) true j < 256) := savedF_bdR hd.2.1 _ _ _
  clear hd hwt
  go_upto_region 31 with (go_at_call 25; refine (SV.out _ (Below.refl _ _)).mono ?_; rintro e w4 ⟨g4, c4, rfl, hg4, hc4, hR4, hb4⟩)
  have B5 : Hid (Boxed w (w4.alloc (.cells #[.int .i64 s.wt, .slice (some ⟨g4, 0, none⟩) s.mn c4] 35)) w.heap.size (w.heap.size + 1) C C s) := (B3.out.later hb4).later ((Below.refl _ _).alloc (Nat.le_refl _) _)
  have I5 : Hid (InsAt (w4.alloc (.cells #[.int .i64 s.wt, .slice (some ⟨g4, 0, none⟩) s.mn c4] 35)) w1.heap.size 12 ra rb rc imm) := (I3.out.later hb4).later ((Below.refl _ _).alloc (Nat.le_refl _) _)
  have m0 : (w4.alloc (.cells #[.int .i64 s.wt, .slice (some ⟨g4, 0, none⟩) s.mn c4] 35)).cell? ⟨w4.heap.size, 0, none⟩ = some (.int .i64 s.wt) := new_cell' w4 _ _ 0 _ rfl
  have m1 : (w4.alloc (.cells #[.int .i64 s.wt, .slice (some ⟨g4, 0, none⟩) s.mn c4] 35)).cell? ⟨w4.heap.size, 1, none⟩ = some (.slice (some ⟨g4, 0, none⟩) s.mn c4) := new_cell' w4 _ _ 1 _ rfl
  have R5 : Hid (Bytes (w4.alloc (.cells #[.int .i64 s.wt, .slice (some ⟨g4, 0, none⟩) s.mn c4] 35)) (some ⟨g4, 0, none⟩) s.mn (savedF s.mf wh (s.r ra) true)) := ⟨SF.out, .inr ⟨g4, 0, rfl, fun j hj => by rw [Nat.zero_add]; exact (hR4.later ((Below.refl _ _).alloc (Nat.le_refl _) _)).1 j hj⟩⟩
  have RF : Hid ((∀ q, (w4.alloc (.cells #[.int .i64 s.wt, .slice (some ⟨g4, 0, none⟩) s.mn c4] 35)).frozen? ⟨g4, q, none⟩ = false) ∧ g4 < (w4.alloc (.cells #[.int .i64 s.wt, .slice (some ⟨g4, 0, none⟩) s.mn c4] 35)).heap.size) := (hR4.later ((Below.refl _ _).alloc (Nat.le_refl _) _)).2
  have G4 : Hid (w.heap.size + 1 < g4) := by have h1 := B3.out.hb; show _ < _; omega
  have HC4 : Hid (s.mn ≤ c4) := hc4
  clear x18 x19 SV hb4 hg4 hc4 hR4 y0 y1 y2 y3 y4 z0 B3 I3 SF
  generalize w4.alloc (.cells #[.int .i64 s.wt, .slice (some ⟨g4, 0, none⟩) s.mn c4] 35) = w5 at B5 I5 m0 m1 R5 RF ⊢
  generalize w4.heap.size = g5 at m0 m1 ⊢
  obtain ⟨-, -, x18, -⟩ := cell_st B5.out
  obtain ⟨_, _, _, _, _, _, _, _, ⟨-, x19, -⟩, -⟩ := list_st B5.out
  have f18 : w5.frozen? ⟨w.heap.size, 18, none⟩ = false := B5.out.fz 18
  have f19 : w5.frozen? ⟨w.heap.size, 19, none⟩ = false := B5.out.fz 19
  have hn5 : g4 ≠ w.heap.size := by have := G4.out; omega
  go_upto_region 34 with fail
  have B6 : Hid (Boxed w (w5.setCell ⟨w.heap.size, 18, none⟩ (.int .i64 s.wt)) w.heap.size (w.heap.size + 1) C (C.setIfInBounds 18 (.int .i64 s.wt)) s) := B5.out.put 18 (by omega) _ (fun g _ => off_int _ _ _) (put_wtR B5.out.st s.wt)
  have B7 : Hid (Boxed w ((w5.setCell ⟨w.heap.size, 18, none⟩ (.int .i64 s.wt)).setCell ⟨w.heap.size, 19, none⟩ (.slice (some ⟨g4, 0, none⟩) s.mn c4)) w.heap.size (w.heap.size + 1) C ((C.setIfInBounds 18 (.int .i64 s.wt)).setIfInBounds 19 (.slice (some ⟨g4, 0, none⟩) s.mn c4)) { s with mf := savedF s.mf wh (s.r ra) true }) :=
    B6.out.putMem g4 s.mn c4 (by have := G4.out; omega) (by have := G4.out; omega) (by have := G4.out; omega) (by simpa using RF.out.2) (fun q => by simpa using RF.out.1 q) (put_mem B6.out.st _ _ c4 _ ⟨⟨HC4.out, fun e => by cases e⟩, R5.out.set (fun b off e => by cases e; exact hn5) _ _⟩)
  have I7 : Hid (InsAt ((w5.setCell ⟨w.heap.size, 18, none⟩ (.int .i64 s.wt)).setCell ⟨w.heap.size, 19, none⟩ (.slice (some ⟨g4, 0, none⟩) s.mn c4)) w1.heap.size 12 ra rb rc imm) := (I5.out.far (by have := L1.out; omega) _ _).far (by have := L1.out; omega) _ _
  clear x18 x19 f18 f19 m0 m1 R5 RF HC4 hn5 B5 B6 I5
  generalize (w5.setCell ⟨w.heap.size, 18, none⟩ (.int .i64 s.wt)).setCell ⟨w.heap.size, 19, none⟩ (.slice (some ⟨g4, 0, none⟩) s.mn c4) = w7 at B7 I7 ⊢
  generalize (C.setIfInBounds 18 (.int .i64 s.wt)).setIfInBounds 19 (.slice (some ⟨g4, 0, none⟩) s.mn c4) = C7 at B7
  obtain ⟨y0, y1, y2, y3, y4⟩ := id I7.out
  go_upto_region 47 with fail
  have u1 := (cell_st B7.out).2.1 0 (by omega)
  have u0 := (cell_st B7.out).1
  have g1 : w7.frozen? ⟨w.heap.size, 1, none⟩ = false := B7.out.fz 1
  have g0 : w7.frozen? ⟨w.heap.size, 0, none⟩ = false := B7.out.fz 0
  go_upto_region 49 with fail
  have Bp : Hid (Boxed w (w7.setCell ⟨w.heap.size, 1, none⟩ (.int .u32 0)) w.heap.size (w.heap.size + 1) C (C7.setIfInBounds 1 (.int .u32 0)) ({ { s with mf := savedF s.mf wh (s.r ra) true } with r := fun j => if j = 0 then 0 else ({ s with mf := savedF s.mf wh (s.r ra) true } : St).r j })) := B7.out.put 1 (by omega) _ (fun g _ => off_int _ _ _) (put_reg B7.out.st 0 (by omega) 0)
  have Bq : Hid (Boxed w ((w7.setCell ⟨w.heap.size, 1, none⟩ (.int .u32 0)).setCell ⟨w.heap.size, 0, none⟩ (.int .i64 ((i : Int) + 1))) w.heap.size (w.heap.size + 1) C ((C7.setIfInBounds 1 (.int .u32 0)).setIfInBounds 0 (.int .i64 ((i : Int) + 1))) ({ ({ { s with mf := savedF s.mf wh (s.r ra) true } with r := fun j => if j = 0 then 0 else ({ s with mf := savedF s.mf wh (s.r ra) true } : St).r j } : St) with at_ := (i : Int) + 1 })) := Bp.out.put 0 (by omega) _ (fun g _ => off_int _ _ _) (st_at Bp.out.st _)
  clear u1 u0 g1 g0 Bp
  generalize (w7.setCell ⟨w.heap.size, 1, none⟩ (.int .u32 0)).setCell ⟨w.heap.size, 0, none⟩ (.int .i64 ((i : Int) + 1)) = wq at Bq ⊢
  generalize (C7.setIfInBounds 1 (.int .u32 0)).setIfInBounds 0 (.int .i64 ((i : Int) + 1)) = Cq at Bq
  have ES : { ({ { s with mf := savedF s.mf wh (s.r ra) true } with r := fun j => if j = 0 then 0 else ({ s with mf := savedF s.mf wh (s.r ra) true } : St).r j } : St) with at_ := (i : Int) + 1 } = opZ 12 ra rb rc imm s := by
    have ewh := EWH.out; have hok2 := hok; rw [ewh] at hok2; simp only []; rw [zero_r hs.1.1]; simp [opZ, hi, ewh, hok2]
  rw [ES] at Bq
  have TT : Hid (Told w (wq.setCells (w.heap.size + 1) 0 Cq.toList) (w.heap.size + 1) C Cq (opZ 12 ra rb rc imm s)) := Told.same Bq.out
  go_wp2_with (first
    | ((with_reducible show wpList _ _ _ (Oper.mk _ (Op.load _ _) _ _ _ _ :: _) _ _); refine wpList_load_if (by rfl) 37 (.tmp 3) rfl w.heap.size 0 rfl Cq.toList _ (at_range Bq.out.at_) Tryd.underlying37 rfl (st_info Bq.out.st).2 ?_)
    | ((with_reducible show wpList _ _ _ (Oper.mk _ (Op.store _ _ _) _ _ _ _ :: _) _ _); refine wpList_store_room (w := w) rfl (.tmp 4) (.tmp 258) rfl (w.heap.size + 1) Cq rfl rfl Bq.out.st Bq.out.room ?_))
  exact bodyPost_ret (v := .agg Cq) (results_st rfl _ (w.heap.size + 1) (by first | rfl | simp) TT.out.st _ TT.out.at_) rfl TT.out.post
set_option maxRecDepth 100000 in
set_option maxHeartbeats 1000000 in
theorem rstep_12_no {w : World} {C : Array Value} {s : St} (h : IsSt w (.agg C) s) (hs : Small s) (he : s.en = false) (a : Option Addr) (n c : Nat) (f : Nat → Int) (i : Nat) (x : Int) (hn : n ≤ 1000) (hw : RowK .u32 w a n f) (hi : s.at_ = i) (hin : i < n) (hx : f i = x) (ra rb rc : Nat) (imm : Int) (ha : ra < 16) (hb : rb < 16) (hc : rc < 16) (hI : -8388608 ≤ imm ∧ imm ≤ 8388607) (hok : saveB s.mn (whereZ s rb imm) true s.wt = false)
    (hG : ∀ W, Below w.heap.size w W → Calls Tryd.prog 21 #[.int .u32 x] W fun e w' => e = .returned (.tuple #[.agg #[.int .i64 12, .int .i64 ra, .int .i64 rb, .int .i64 rc, .int .i64 imm], .bool true]) ∧ Below W.heap.size W w') :
    Calls Tryd.prog 13 #[.slice a n c, .agg C] w (StPost w C (opZ 12 ra rb rc imm s)) := by
  rw [show opZ 12 ra rb rc imm s = s.stop 4 from by simp [opZ, hok]]
  have B0 : Hid (Boxed w ((w.alloc (.cells C 37)).alloc (.cells noSt 37)) w.heap.size (w.heap.size + 1) C C s) := Boxed.new h _ _
  clear h
  go_enter Tryd.func13, Tryd.ntmps13
  go_upto_region 1 with fail
  rw [noSt_def]
  generalize (w.alloc (.cells C 37)).alloc (.cells noSt 37) = w0 at B0 ⊢
  have HG : Hid (∀ W, Below w0.heap.size w0 W → Calls Tryd.prog 21 #[.int .u32 x] W fun e w' => e = .returned (.tuple #[.agg #[.int .i64 12, .int .i64 ra, .int .i64 rb, .int .i64 rc, .int .i64 imm], .bool true]) ∧ Below W.heap.size W w') := fun W hW => hG W (bnext B0.out.bel hW)
  obtain ⟨-, rfl | ⟨b, off, rfl, hcw⟩⟩ := hw
  · omega
  have xi := cell_later' (hcw i hin) B0.out.bel
  rw [hx] at xi
  have q1 : decide ((i : Int) < 0) = false := by simp
  have q2 : decide (n ≤ i) = false := by simp [hin]
  clear hG hcw hx
  obtain ⟨x0, -, -, x22, -, -⟩ := cell_st B0.out
  rw [he] at x22
  rw [hi] at x0
  go_upto_region 6 with (go_at_call 21; refine (HG.out _ (Below.refl _ _)).mono ?_; rintro e w1 ⟨rfl, hb1⟩; have HB1 : Hid (Below w0.heap.size w0 w1) := hb1)
  have B1 : Hid (Boxed w (w1.alloc (.cells #[.int .i64 12, .int .i64 ra, .int .i64 rb, .int .i64 rc, .int .i64 imm] 54)) w.heap.size (w.heap.size + 1) C C s) := (B0.out.later HB1.out).later ((Below.refl _ _).alloc (Nat.le_refl _) _)
  have I1 : Hid (InsAt (w1.alloc (.cells #[.int .i64 12, .int .i64 ra, .int .i64 rb, .int .i64 rc, .int .i64 imm] 54)) w1.heap.size 12 ra rb rc imm) := InsAt.new _ _ _ _ _ _ _
  have L1 : Hid (w.heap.size + 1 < w1.heap.size) := by have h1 := B0.out.hb; have h2 := HB1.out.size; have h3 := B0.out.hb.2.2.2.2; show _ < _; omega
  clear x0 x22 hb1 HB1 HG B0 xi q1 q2
  generalize w1.alloc (.cells #[.int .i64 12, .int .i64 ra, .int .i64 rb, .int .i64 rc, .int .i64 imm] 54) = w2 at B1 I1 ⊢
  have KD : Hid (∀ W, Calls Tryd.prog 22 #[.agg #[.int .i64 12, .int .i64 ra, .int .i64 rb, .int .i64 rc, .int .i64 imm]] W fun e w' => e = .returned (.int .i64 1) ∧ Below W.heap.size W w') := fun W => by have h := rkind_any 12 ra rb rc imm W (by omega) (by omega); rwa [show kindZ 12 = 1 from by decide] at h
  obtain ⟨y0, y1, y2, y3, y4⟩ := id I1.out
  obtain ⟨x0, xr, -⟩ := cell_st B1.out
  rw [hi] at x0
  have xa := xr ra ha
  have xa' : w2.cell? ⟨w.heap.size, ra + 1, none⟩ = some (.int .u32 (s.r ra)) := by rw [Nat.add_comm]; exact xa
  have xb := xr rb hb
  have xb' : w2.cell? ⟨w.heap.size, rb + 1, none⟩ = some (.int .u32 (s.r rb)) := by rw [Nat.add_comm]; exact xb
  have ha' : (ra : Int) < 16 := by omega
  have hb' : (rb : Int) < 16 := by omega
  clear xr
  go_upto_region 11 with (go_at_call 22; refine (KD.out _).mono ?_; rintro e w3 ⟨rfl, hb3⟩)
  have B3 : Hid (Boxed w w3 w.heap.size (w.heap.size + 1) C C s) := B1.out.later hb3
  have I3 : Hid (InsAt w3 w1.heap.size 12 ra rb rc imm) := I1.out.later hb3
  have z0 := cell_later' x0 hb3
  clear y0 y1 y2 y3 y4 x0 xa xa' xb xb' hb3 KD B1 I1
  obtain ⟨y0, y1, y2, y3, y4⟩ := id I3.out
  obtain ⟨I0, I1⟩ := hI
  have hi' : (i : Int) < 1000 := by omega
  obtain ⟨q0, q1⟩ := hs.1.2 rb
  obtain ⟨wh, ewh⟩ : ∃ v, whereZ s rb imm = v := ⟨_, rfl⟩
  have MD : Hid (∀ W, Calls Tryd.prog 23 #[.int .i64 (s.r rb + imm), .int .i64 4294967296] W fun e w' => e = .returned (.int .i64 wh) ∧ w' = W) := fun W => by
    have h := mod_any (s.r rb + imm) 4294967296 W (by omega) (by omega)
    rwa [← ewh]
  have hwh : 0 ≤ wh ∧ wh < 4294967296 := by rw [← ewh]; unfold whereZ; omega
  have EW : Hid (IntKind.u32.wrap wh = wh) := by show _ = _; simp [IntKind.wrap, IntKind.bits, IntKind.signed]; omega
  have EWH : Hid (whereZ s rb imm = wh) := ewh
  have hw0 : 0 ≤ whereZ s rb imm ∧ whereZ s rb imm < 4294967296 := by unfold whereZ; omega
  have hm2 : s.mn ≤ 2000 := hs.2.2.1.2.1
  have hwt := hs.2.2.2.1
  have e9 := EW.out
  go_upto_region 24 with (go_at_call 23; refine (MD.out _).mono ?_; rintro e w9 ⟨rfl, hw9⟩; obtain rfl := hw9.symm)
  clear MD e9 q0 q1
  obtain ⟨-, -, x18, -⟩ := cell_st B3.out
  obtain ⟨ba, bc, ma, mc, ia, ic, oa, oc, ⟨-, x19, -⟩, -, hd, -⟩ := list_st B3.out
  have SV : Hid (∀ W, Below w3.heap.size w3 W → Calls Tryd.prog 25 #[.agg #[.int .i64 s.wt, .slice ma s.mn mc], .int .u32 wh, .int .u32 (s.r ra), .bool true] W fun e w' => e = .returned (.tuple #[.agg #[.int .i64 s.wt, .slice ma s.mn mc], .bool false]) ∧ Below W.heap.size W w') := fun W hW => by
    have h := rsave_no s.wt (whereZ s rb imm) (s.r ra) true ma s.mn mc s.mf W hm2 hd.1.1 hwt hw0.1 hw0.2 (hd.2.later hW) hok
    rw [EWH.out] at h
    exact h
  clear hd hwt
  go_upto_region 31 with (go_at_call 25; refine (SV.out _ (Below.refl _ _)).mono ?_; rintro e w4 ⟨rfl, hb4⟩)
  have B5 : Hid (Boxed w (w4.alloc (.cells #[.int .i64 s.wt, .slice ma s.mn mc] 35)) w.heap.size (w.heap.size + 1) C C s) := (B3.out.later hb4).later ((Below.refl _ _).alloc (Nat.le_refl _) _)
  have I5 : Hid (InsAt (w4.alloc (.cells #[.int .i64 s.wt, .slice ma s.mn mc] 35)) w1.heap.size 12 ra rb rc imm) := (I3.out.later hb4).later ((Below.refl _ _).alloc (Nat.le_refl _) _)
  clear x18 x19 SV hb4 y0 y1 y2 y3 y4 z0 B3 I3
  generalize w4.alloc (.cells #[.int .i64 s.wt, .slice ma s.mn mc] 35) = w5 at B5 I5 ⊢
  go_wp2_with (first
    | (go_at_call 20; refine (rend_st B5.out.st 4).mono ?_; rintro e w9 ⟨C9, rfl, h9, v9, b9⟩)
    | ((with_reducible show wpList _ _ _ (Oper.mk _ (Op.load _ _) _ _ _ _ :: _) _ _); refine wpList_load_if (by rfl) 37 (.tmp 3) rfl w.heap.size 0 rfl C.toList _ (at_range B5.out.at_) Tryd.underlying37 rfl (st_info B5.out.st).2 ?_)
    | ((with_reducible show wpList _ _ _ (Oper.mk _ (Op.store _ _ _) _ _ _ _ :: _) _ _); refine wpList_store_room (w := w) rfl (.tmp 4) (.tmp 156) rfl (w.heap.size + 1) C9 rfl rfl h9 (there_later B5.out.room b9) ?_))
  have TT := Told.call B5.out b9 h9 v9
  exact bodyPost_ret (v := .agg C9) (results_st rfl _ (w.heap.size + 1) (by first | rfl | simp) TT.st _ TT.at_) rfl TT.post
set_option maxRecDepth 100000 in
set_option maxHeartbeats 1000000 in
theorem rstep_14_yes {w : World} {C : Array Value} {s : St} (h : IsSt w (.agg C) s) (hs : Small s) (he : s.en = false) (a : Option Addr) (n c : Nat) (f : Nat → Int) (i : Nat) (x : Int) (hn : n ≤ 1000) (hw : RowK .u32 w a n f) (hi : s.at_ = i) (hin : i < n) (hx : f i = x) (ra rb rc : Nat) (imm : Int) (ha : ra < 16) (hb : rb < 16) (hc : rc < 16) (hI : -8388608 ≤ imm ∧ imm ≤ 8388607) (hok : saveB s.mn (whereZ s rb imm) false s.wt = true)
    (hG : ∀ W, Below w.heap.size w W → Calls Tryd.prog 21 #[.int .u32 x] W fun e w' => e = .returned (.tuple #[.agg #[.int .i64 14, .int .i64 ra, .int .i64 rb, .int .i64 rc, .int .i64 imm], .bool true]) ∧ Below W.heap.size W w') :
    Calls Tryd.prog 13 #[.slice a n c, .agg C] w (StPost w C (opZ 14 ra rb rc imm s)) := by
  have B0 : Hid (Boxed w ((w.alloc (.cells C 37)).alloc (.cells noSt 37)) w.heap.size (w.heap.size + 1) C C s) := Boxed.new h _ _
  clear h
  go_enter Tryd.func13, Tryd.ntmps13
  go_upto_region 1 with fail
  rw [noSt_def]
  generalize (w.alloc (.cells C 37)).alloc (.cells noSt 37) = w0 at B0 ⊢
  have HG : Hid (∀ W, Below w0.heap.size w0 W → Calls Tryd.prog 21 #[.int .u32 x] W fun e w' => e = .returned (.tuple #[.agg #[.int .i64 14, .int .i64 ra, .int .i64 rb, .int .i64 rc, .int .i64 imm], .bool true]) ∧ Below W.heap.size W w') := fun W hW => hG W (bnext B0.out.bel hW)
  obtain ⟨-, rfl | ⟨b, off, rfl, hcw⟩⟩ := hw
  · omega
  have xi := cell_later' (hcw i hin) B0.out.bel
  rw [hx] at xi
  have q1 : decide ((i : Int) < 0) = false := by simp
  have q2 : decide (n ≤ i) = false := by simp [hin]
  clear hG hcw hx
  obtain ⟨x0, -, -, x22, -, -⟩ := cell_st B0.out
  rw [he] at x22
  rw [hi] at x0
  go_upto_region 6 with (go_at_call 21; refine (HG.out _ (Below.refl _ _)).mono ?_; rintro e w1 ⟨rfl, hb1⟩; have HB1 : Hid (Below w0.heap.size w0 w1) := hb1)
  have B1 : Hid (Boxed w (w1.alloc (.cells #[.int .i64 14, .int .i64 ra, .int .i64 rb, .int .i64 rc, .int .i64 imm] 54)) w.heap.size (w.heap.size + 1) C C s) := (B0.out.later HB1.out).later ((Below.refl _ _).alloc (Nat.le_refl _) _)
  have I1 : Hid (InsAt (w1.alloc (.cells #[.int .i64 14, .int .i64 ra, .int .i64 rb, .int .i64 rc, .int .i64 imm] 54)) w1.heap.size 14 ra rb rc imm) := InsAt.new _ _ _ _ _ _ _
  have L1 : Hid (w.heap.size + 1 < w1.heap.size) := by have h1 := B0.out.hb; have h2 := HB1.out.size; have h3 := B0.out.hb.2.2.2.2; show _ < _; omega
  clear x0 x22 hb1 HB1 HG B0 xi q1 q2
  generalize w1.alloc (.cells #[.int .i64 14, .int .i64 ra, .int .i64 rb, .int .i64 rc, .int .i64 imm] 54) = w2 at B1 I1 ⊢
  have KD : Hid (∀ W, Calls Tryd.prog 22 #[.agg #[.int .i64 14, .int .i64 ra, .int .i64 rb, .int .i64 rc, .int .i64 imm]] W fun e w' => e = .returned (.int .i64 1) ∧ Below W.heap.size W w') := fun W => by have h := rkind_any 14 ra rb rc imm W (by omega) (by omega); rwa [show kindZ 14 = 1 from by decide] at h
  obtain ⟨y0, y1, y2, y3, y4⟩ := id I1.out
  obtain ⟨x0, xr, -⟩ := cell_st B1.out
  rw [hi] at x0
  have xa := xr ra ha
  have xa' : w2.cell? ⟨w.heap.size, ra + 1, none⟩ = some (.int .u32 (s.r ra)) := by rw [Nat.add_comm]; exact xa
  have xb := xr rb hb
  have xb' : w2.cell? ⟨w.heap.size, rb + 1, none⟩ = some (.int .u32 (s.r rb)) := by rw [Nat.add_comm]; exact xb
  have ha' : (ra : Int) < 16 := by omega
  have hb' : (rb : Int) < 16 := by omega
  clear xr
  go_upto_region 11 with (go_at_call 22; refine (KD.out _).mono ?_; rintro e w3 ⟨rfl, hb3⟩)
  have B3 : Hid (Boxed w w3 w.heap.size (w.heap.size + 1) C C s) := B1.out.later hb3
  have I3 : Hid (InsAt w3 w1.heap.size 14 ra rb rc imm) := I1.out.later hb3
  have z0 := cell_later' x0 hb3
  clear y0 y1 y2 y3 y4 x0 xa xa' xb xb' hb3 KD B1 I1
  obtain ⟨y0, y1, y2, y3, y4⟩ := id I3.out
  obtain ⟨I0, I1⟩ := hI
  have hi' : (i : Int) < 1000 := by omega
  obtain ⟨q0, q1⟩ := hs.1.2 rb
  obtain ⟨wh, ewh⟩ : ∃ v, whereZ s rb imm = v := ⟨_, rfl⟩
  have MD : Hid (∀ W, Calls Tryd.prog 23 #[.int .i64 (s.r rb + imm), .int .i64 4294967296] W fun e w' => e = .returned (.int .i64 wh) ∧ w' = W) := fun W => by
    have h := mod_any (s.r rb + imm) 4294967296 W (by omega) (by omega)
    rwa [← ewh]
  have hwh : 0 ≤ wh ∧ wh < 4294967296 := by rw [← ewh]; unfold whereZ; omega
  have EW : Hid (IntKind.u32.wrap wh = wh) := by show _ = _; simp [IntKind.wrap, IntKind.bits, IntKind.signed]; omega
  have EWH : Hid (whereZ s rb imm = wh) := ewh
  have hw0 : 0 ≤ whereZ s rb imm ∧ whereZ s rb imm < 4294967296 := by unfold whereZ; omega
  have hm2 : s.mn ≤ 2000 := hs.2.2.1.2.1
  have hwt := hs.2.2.2.1
  have e9 := EW.out
  go_upto_region 24 with (go_at_call 23; refine (MD.out _).mono ?_; rintro e w9 ⟨rfl, hw9⟩; obtain rfl := hw9.symm)
  clear MD e9 q0 q1
  obtain ⟨-, -, x18, -⟩ := cell_st B3.out
  obtain ⟨ba, bc, ma, mc, ia, ic, oa, oc, ⟨-, x19, -⟩, -, hd, -⟩ := list_st B3.out
  have SV : Hid (∀ W, Below w3.heap.size w3 W → Calls Tryd.prog 25 #[.agg #[.int .i64 s.wt, .slice ma s.mn mc], .int .u32 wh, .int .u32 (s.r ra), .bool false] W fun e w' => ∃ g cap', e = .returned (.tuple #[.agg #[.int .i64 s.wt, .slice (some ⟨g, 0, none⟩) s.mn cap'], .bool true]) ∧ W.heap.size ≤ g ∧ s.mn ≤ cap' ∧ RowB w' g s.mn (savedF s.mf wh (s.r ra) false) ∧ Below W.heap.size W w') := fun W hW => by
    have h := rsave_any s.wt (whereZ s rb imm) (s.r ra) false ma s.mn mc s.mf W hm2 hd.1.1 hwt hw0.1 hw0.2 (hs.1.2 ra).1 (hs.1.2 ra).2 (hd.2.later hW) hok
    rw [EWH.out] at h
    exact h
  have SF : Hid (∀ j, 0 ≤ savedF s.mf wh (s.r ra) false j ∧ savedF s.mf wh (s.r ra) false j < 256) := savedF_bdR hd.2.1 _ _ _
  clear hd hwt
  go_upto_region 31 with (go_at_call 25; refine (SV.out _ (Below.refl _ _)).mono ?_; rintro e w4 ⟨g4, c4, rfl, hg4, hc4, hR4, hb4⟩)
  have B5 : Hid (Boxed w (w4.alloc (.cells #[.int .i64 s.wt, .slice (some ⟨g4, 0, none⟩) s.mn c4] 35)) w.heap.size (w.heap.size + 1) C C s) := (B3.out.later hb4).later ((Below.refl _ _).alloc (Nat.le_refl _) _)
  have I5 : Hid (InsAt (w4.alloc (.cells #[.int .i64 s.wt, .slice (some ⟨g4, 0, none⟩) s.mn c4] 35)) w1.heap.size 14 ra rb rc imm) := (I3.out.later hb4).later ((Below.refl _ _).alloc (Nat.le_refl _) _)
  have m0 : (w4.alloc (.cells #[.int .i64 s.wt, .slice (some ⟨g4, 0, none⟩) s.mn c4] 35)).cell? ⟨w4.heap.size, 0, none⟩ = some (.int .i64 s.wt) := new_cell' w4 _ _ 0 _ rfl
  have m1 : (w4.alloc (.cells #[.int .i64 s.wt, .slice (some ⟨g4, 0, none⟩) s.mn c4] 35)).cell? ⟨w4.heap.size, 1, none⟩ = some (.slice (some ⟨g4, 0, none⟩) s.mn c4) := new_cell' w4 _ _ 1 _ rfl
  have R5 : Hid (Bytes (w4.alloc (.cells #[.int .i64 s.wt, .slice (some ⟨g4, 0, none⟩) s.mn c4] 35)) (some ⟨g4, 0, none⟩) s.mn (savedF s.mf wh (s.r ra) false)) := ⟨SF.out, .inr ⟨g4, 0, rfl, fun j hj => by rw [Nat.zero_add]; exact (hR4.later ((Below.refl _ _).alloc (Nat.le_refl _) _)).1 j hj⟩⟩
  have RF : Hid ((∀ q, (w4.alloc (.cells #[.int .i64 s.wt, .slice (some ⟨g4, 0, none⟩) s.mn c4] 35)).frozen? ⟨g4, q, none⟩ = false) ∧ g4 < (w4.alloc (.cells #[.int .i64 s.wt, .slice (some ⟨g4, 0, none⟩) s.mn c4] 35)).heap.size) := (hR4.later ((Below.refl _ _).alloc (Nat.le_refl _) _)).2
  have G4 : Hid (w.heap.size + 1 < g4) := by have h1 := B3.out.hb; show _ < _; omega
  have HC4 : Hid (s.mn ≤ c4) := hc4
  clear x18 x19 SV hb4 hg4 hc4 hR4 y0 y1 y2 y3 y4 z0 B3 I3 SF
  generalize w4.alloc (.cells #[.int .i64 s.wt, .slice (some ⟨g4, 0, none⟩) s.mn c4] 35) = w5 at B5 I5 m0 m1 R5 RF ⊢
  generalize w4.heap.size = g5 at m0 m1 ⊢
  obtain ⟨-, -, x18, -⟩ := cell_st B5.out
  obtain ⟨_, _, _, _, _, _, _, _, ⟨-, x19, -⟩, -⟩ := list_st B5.out
  have f18 : w5.frozen? ⟨w.heap.size, 18, none⟩ = false := B5.out.fz 18
  have f19 : w5.frozen? ⟨w.heap.size, 19, none⟩ = false := B5.out.fz 19
  have hn5 : g4 ≠ w.heap.size := by have := G4.out; omega
  go_upto_region 34 with fail
  have B6 : Hid (Boxed w (w5.setCell ⟨w.heap.size, 18, none⟩ (.int .i64 s.wt)) w.heap.size (w.heap.size + 1) C (C.setIfInBounds 18 (.int .i64 s.wt)) s) := B5.out.put 18 (by omega) _ (fun g _ => off_int _ _ _) (put_wtR B5.out.st s.wt)
  have B7 : Hid (Boxed w ((w5.setCell ⟨w.heap.size, 18, none⟩ (.int .i64 s.wt)).setCell ⟨w.heap.size, 19, none⟩ (.slice (some ⟨g4, 0, none⟩) s.mn c4)) w.heap.size (w.heap.size + 1) C ((C.setIfInBounds 18 (.int .i64 s.wt)).setIfInBounds 19 (.slice (some ⟨g4, 0, none⟩) s.mn c4)) { s with mf := savedF s.mf wh (s.r ra) false }) :=
    B6.out.putMem g4 s.mn c4 (by have := G4.out; omega) (by have := G4.out; omega) (by have := G4.out; omega) (by simpa using RF.out.2) (fun q => by simpa using RF.out.1 q) (put_mem B6.out.st _ _ c4 _ ⟨⟨HC4.out, fun e => by cases e⟩, R5.out.set (fun b off e => by cases e; exact hn5) _ _⟩)
  have I7 : Hid (InsAt ((w5.setCell ⟨w.heap.size, 18, none⟩ (.int .i64 s.wt)).setCell ⟨w.heap.size, 19, none⟩ (.slice (some ⟨g4, 0, none⟩) s.mn c4)) w1.heap.size 14 ra rb rc imm) := (I5.out.far (by have := L1.out; omega) _ _).far (by have := L1.out; omega) _ _
  clear x18 x19 f18 f19 m0 m1 R5 RF HC4 hn5 B5 B6 I5
  generalize (w5.setCell ⟨w.heap.size, 18, none⟩ (.int .i64 s.wt)).setCell ⟨w.heap.size, 19, none⟩ (.slice (some ⟨g4, 0, none⟩) s.mn c4) = w7 at B7 I7 ⊢
  generalize (C.setIfInBounds 18 (.int .i64 s.wt)).setIfInBounds 19 (.slice (some ⟨g4, 0, none⟩) s.mn c4) = C7 at B7
  obtain ⟨y0, y1, y2, y3, y4⟩ := id I7.out
  go_upto_region 47 with fail
  have u1 := (cell_st B7.out).2.1 0 (by omega)
  have u0 := (cell_st B7.out).1
  have g1 : w7.frozen? ⟨w.heap.size, 1, none⟩ = false := B7.out.fz 1
  have g0 : w7.frozen? ⟨w.heap.size, 0, none⟩ = false := B7.out.fz 0
  go_upto_region 49 with fail
  have Bp : Hid (Boxed w (w7.setCell ⟨w.heap.size, 1, none⟩ (.int .u32 0)) w.heap.size (w.heap.size + 1) C (C7.setIfInBounds 1 (.int .u32 0)) ({ { s with mf := savedF s.mf wh (s.r ra) false } with r := fun j => if j = 0 then 0 else ({ s with mf := savedF s.mf wh (s.r ra) false } : St).r j })) := B7.out.put 1 (by omega) _ (fun g _ => off_int _ _ _) (put_reg B7.out.st 0 (by omega) 0)
  have Bq : Hid (Boxed w ((w7.setCell ⟨w.heap.size, 1, none⟩ (.int .u32 0)).setCell ⟨w.heap.size, 0, none⟩ (.int .i64 ((i : Int) + 1))) w.heap.size (w.heap.size + 1) C ((C7.setIfInBounds 1 (.int .u32 0)).setIfInBounds 0 (.int .i64 ((i : Int) + 1))) ({ ({ { s with mf := savedF s.mf wh (s.r ra) false } with r := fun j => if j = 0 then 0 else ({ s with mf := savedF s.mf wh (s.r ra) false } : St).r j } : St) with at_ := (i : Int) + 1 })) := Bp.out.put 0 (by omega) _ (fun g _ => off_int _ _ _) (st_at Bp.out.st _)
  clear u1 u0 g1 g0 Bp
  generalize (w7.setCell ⟨w.heap.size, 1, none⟩ (.int .u32 0)).setCell ⟨w.heap.size, 0, none⟩ (.int .i64 ((i : Int) + 1)) = wq at Bq ⊢
  generalize (C7.setIfInBounds 1 (.int .u32 0)).setIfInBounds 0 (.int .i64 ((i : Int) + 1)) = Cq at Bq
  have ES : { ({ { s with mf := savedF s.mf wh (s.r ra) false } with r := fun j => if j = 0 then 0 else ({ s with mf := savedF s.mf wh (s.r ra) false } : St).r j } : St) with at_ := (i : Int) + 1 } = opZ 14 ra rb rc imm s := by
    have ewh := EWH.out; have hok2 := hok; rw [ewh] at hok2; simp only []; rw [zero_r hs.1.1]; simp [opZ, hi, ewh, hok2]
  rw [ES] at Bq
  have TT : Hid (Told w (wq.setCells (w.heap.size + 1) 0 Cq.toList) (w.heap.size + 1) C Cq (opZ 14 ra rb rc imm s)) := Told.same Bq.out
  go_wp2_with (first
    | ((with_reducible show wpList _ _ _ (Oper.mk _ (Op.load _ _) _ _ _ _ :: _) _ _); refine wpList_load_if (by rfl) 37 (.tmp 3) rfl w.heap.size 0 rfl Cq.toList _ (at_range Bq.out.at_) Tryd.underlying37 rfl (st_info Bq.out.st).2 ?_)
    | ((with_reducible show wpList _ _ _ (Oper.mk _ (Op.store _ _ _) _ _ _ _ :: _) _ _); refine wpList_store_room (w := w) rfl (.tmp 4) (.tmp 258) rfl (w.heap.size + 1) Cq rfl rfl Bq.out.st Bq.out.room ?_))
  exact bodyPost_ret (v := .agg Cq) (results_st rfl _ (w.heap.size + 1) (by first | rfl | simp) TT.out.st _ TT.out.at_) rfl TT.out.post
set_option maxRecDepth 100000 in
set_option maxHeartbeats 1000000 in
theorem rstep_14_no {w : World} {C : Array Value} {s : St} (h : IsSt w (.agg C) s) (hs : Small s) (he : s.en = false) (a : Option Addr) (n c : Nat) (f : Nat → Int) (i : Nat) (x : Int) (hn : n ≤ 1000) (hw : RowK .u32 w a n f) (hi : s.at_ = i) (hin : i < n) (hx : f i = x) (ra rb rc : Nat) (imm : Int) (ha : ra < 16) (hb : rb < 16) (hc : rc < 16) (hI : -8388608 ≤ imm ∧ imm ≤ 8388607) (hok : saveB s.mn (whereZ s rb imm) false s.wt = false)
    (hG : ∀ W, Below w.heap.size w W → Calls Tryd.prog 21 #[.int .u32 x] W fun e w' => e = .returned (.tuple #[.agg #[.int .i64 14, .int .i64 ra, .int .i64 rb, .int .i64 rc, .int .i64 imm], .bool true]) ∧ Below W.heap.size W w') :
    Calls Tryd.prog 13 #[.slice a n c, .agg C] w (StPost w C (opZ 14 ra rb rc imm s)) := by
  rw [show opZ 14 ra rb rc imm s = s.stop 4 from by simp [opZ, hok]]
  have B0 : Hid (Boxed w ((w.alloc (.cells C 37)).alloc (.cells noSt 37)) w.heap.size (w.heap.size + 1) C C s) := Boxed.new h _ _
  clear h
  go_enter Tryd.func13, Tryd.ntmps13
  go_upto_region 1 with fail
  rw [noSt_def]
  generalize (w.alloc (.cells C 37)).alloc (.cells noSt 37) = w0 at B0 ⊢
  have HG : Hid (∀ W, Below w0.heap.size w0 W → Calls Tryd.prog 21 #[.int .u32 x] W fun e w' => e = .returned (.tuple #[.agg #[.int .i64 14, .int .i64 ra, .int .i64 rb, .int .i64 rc, .int .i64 imm], .bool true]) ∧ Below W.heap.size W w') := fun W hW => hG W (bnext B0.out.bel hW)
  obtain ⟨-, rfl | ⟨b, off, rfl, hcw⟩⟩ := hw
  · omega
  have xi := cell_later' (hcw i hin) B0.out.bel
  rw [hx] at xi
  have q1 : decide ((i : Int) < 0) = false := by simp
  have q2 : decide (n ≤ i) = false := by simp [hin]
  clear hG hcw hx
  obtain ⟨x0, -, -, x22, -, -⟩ := cell_st B0.out
  rw [he] at x22
  rw [hi] at x0
  go_upto_region 6 with (go_at_call 21; refine (HG.out _ (Below.refl _ _)).mono ?_; rintro e w1 ⟨rfl, hb1⟩; have HB1 : Hid (Below w0.heap.size w0 w1) := hb1)
  have B1 : Hid (Boxed w (w1.alloc (.cells #[.int .i64 14, .int .i64 ra, .int .i64 rb, .int .i64 rc, .int .i64 imm] 54)) w.heap.size (w.heap.size + 1) C C s) := (B0.out.later HB1.out).later ((Below.refl _ _).alloc (Nat.le_refl _) _)
  have I1 : Hid (InsAt (w1.alloc (.cells #[.int .i64 14, .int .i64 ra, .int .i64 rb, .int .i64 rc, .int .i64 imm] 54)) w1.heap.size 14 ra rb rc imm) := InsAt.new _ _ _ _ _ _ _
  have L1 : Hid (w.heap.size + 1 < w1.heap.size) := by have h1 := B0.out.hb; have h2 := HB1.out.size; have h3 := B0.out.hb.2.2.2.2; show _ < _; omega
  clear x0 x22 hb1 HB1 HG B0 xi q1 q2
  generalize w1.alloc (.cells #[.int .i64 14, .int .i64 ra, .int .i64 rb, .int .i64 rc, .int .i64 imm] 54) = w2 at B1 I1 ⊢
  have KD : Hid (∀ W, Calls Tryd.prog 22 #[.agg #[.int .i64 14, .int .i64 ra, .int .i64 rb, .int .i64 rc, .int .i64 imm]] W fun e w' => e = .returned (.int .i64 1) ∧ Below W.heap.size W w') := fun W => by have h := rkind_any 14 ra rb rc imm W (by omega) (by omega); rwa [show kindZ 14 = 1 from by decide] at h
  obtain ⟨y0, y1, y2, y3, y4⟩ := id I1.out
  obtain ⟨x0, xr, -⟩ := cell_st B1.out
  rw [hi] at x0
  have xa := xr ra ha
  have xa' : w2.cell? ⟨w.heap.size, ra + 1, none⟩ = some (.int .u32 (s.r ra)) := by rw [Nat.add_comm]; exact xa
  have xb := xr rb hb
  have xb' : w2.cell? ⟨w.heap.size, rb + 1, none⟩ = some (.int .u32 (s.r rb)) := by rw [Nat.add_comm]; exact xb
  have ha' : (ra : Int) < 16 := by omega
  have hb' : (rb : Int) < 16 := by omega
  clear xr
  go_upto_region 11 with (go_at_call 22; refine (KD.out _).mono ?_; rintro e w3 ⟨rfl, hb3⟩)
  have B3 : Hid (Boxed w w3 w.heap.size (w.heap.size + 1) C C s) := B1.out.later hb3
  have I3 : Hid (InsAt w3 w1.heap.size 14 ra rb rc imm) := I1.out.later hb3
  have z0 := cell_later' x0 hb3
  clear y0 y1 y2 y3 y4 x0 xa xa' xb xb' hb3 KD B1 I1
  obtain ⟨y0, y1, y2, y3, y4⟩ := id I3.out
  obtain ⟨I0, I1⟩ := hI
  have hi' : (i : Int) < 1000 := by omega
  obtain ⟨q0, q1⟩ := hs.1.2 rb
  obtain ⟨wh, ewh⟩ : ∃ v, whereZ s rb imm = v := ⟨_, rfl⟩
  have MD : Hid (∀ W, Calls Tryd.prog 23 #[.int .i64 (s.r rb + imm), .int .i64 4294967296] W fun e w' => e = .returned (.int .i64 wh) ∧ w' = W) := fun W => by
    have h := mod_any (s.r rb + imm) 4294967296 W (by omega) (by omega)
    rwa [← ewh]
  have hwh : 0 ≤ wh ∧ wh < 4294967296 := by rw [← ewh]; unfold whereZ; omega
  have EW : Hid (IntKind.u32.wrap wh = wh) := by show _ = _; simp [IntKind.wrap, IntKind.bits, IntKind.signed]; omega
  have EWH : Hid (whereZ s rb imm = wh) := ewh
  have hw0 : 0 ≤ whereZ s rb imm ∧ whereZ s rb imm < 4294967296 := by unfold whereZ; omega
  have hm2 : s.mn ≤ 2000 := hs.2.2.1.2.1
  have hwt := hs.2.2.2.1
  have e9 := EW.out
  go_upto_region 24 with (go_at_call 23; refine (MD.out _).mono ?_; rintro e w9 ⟨rfl, hw9⟩; obtain rfl := hw9.symm)
  clear MD e9 q0 q1
  obtain ⟨-, -, x18, -⟩ := cell_st B3.out
  obtain ⟨ba, bc, ma, mc, ia, ic, oa, oc, ⟨-, x19, -⟩, -, hd, -⟩ := list_st B3.out
  have SV : Hid (∀ W, Below w3.heap.size w3 W → Calls Tryd.prog 25 #[.agg #[.int .i64 s.wt, .slice ma s.mn mc], .int .u32 wh, .int .u32 (s.r ra), .bool false] W fun e w' => e = .returned (.tuple #[.agg #[.int .i64 s.wt, .slice ma s.mn mc], .bool false]) ∧ Below W.heap.size W w') := fun W hW => by
    have h := rsave_no s.wt (whereZ s rb imm) (s.r ra) false ma s.mn mc s.mf W hm2 hd.1.1 hwt hw0.1 hw0.2 (hd.2.later hW) hok
    rw [EWH.out] at h
    exact h
  clear hd hwt
  go_upto_region 31 with (go_at_call 25; refine (SV.out _ (Below.refl _ _)).mono ?_; rintro e w4 ⟨rfl, hb4⟩)
  have B5 : Hid (Boxed w (w4.alloc (.cells #[.int .i64 s.wt, .slice ma s.mn mc] 35)) w.heap.size (w.heap.size + 1) C C s) := (B3.out.later hb4).later ((Below.refl _ _).alloc (Nat.le_refl _) _)
  have I5 : Hid (InsAt (w4.alloc (.cells #[.int .i64 s.wt, .slice ma s.mn mc] 35)) w1.heap.size 14 ra rb rc imm) := (I3.out.later hb4).later ((Below.refl _ _).alloc (Nat.le_refl _) _)
  clear x18 x19 SV hb4 y0 y1 y2 y3 y4 z0 B3 I3
  generalize w4.alloc (.cells #[.int .i64 s.wt, .slice ma s.mn mc] 35) = w5 at B5 I5 ⊢
  go_wp2_with (first
    | (go_at_call 20; refine (rend_st B5.out.st 4).mono ?_; rintro e w9 ⟨C9, rfl, h9, v9, b9⟩)
    | ((with_reducible show wpList _ _ _ (Oper.mk _ (Op.load _ _) _ _ _ _ :: _) _ _); refine wpList_load_if (by rfl) 37 (.tmp 3) rfl w.heap.size 0 rfl C.toList _ (at_range B5.out.at_) Tryd.underlying37 rfl (st_info B5.out.st).2 ?_)
    | ((with_reducible show wpList _ _ _ (Oper.mk _ (Op.store _ _ _) _ _ _ _ :: _) _ _); refine wpList_store_room (w := w) rfl (.tmp 4) (.tmp 156) rfl (w.heap.size + 1) C9 rfl rfl h9 (there_later B5.out.room b9) ?_))
  have TT := Told.call B5.out b9 h9 v9
  exact bodyPost_ret (v := .agg C9) (results_st rfl _ (w.heap.size + 1) (by first | rfl | simp) TT.st _ TT.at_) rfl TT.post
end Go.Proofs.YtnpejnjigaalfaaDoor
