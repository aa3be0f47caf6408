/- Answers that the document fixes. -/
import Derived.Test.YtnejpldbokodaaaGreatDoorChkObj
namespace Go.Proofs.YtnejpldbokodaaaGreatDoor
open Go.ChangeShapes Go.WideShapes Go.ChangeAt Go.RowKit Go.Shelf
set_option linter.unusedVariables false
set_option linter.unusedSimpArgs false
def fA : FuncM := ⟨⟨#[102]⟩, 1, [352321536], []⟩
def gA' : FuncM := ⟨⟨#[102]⟩, 1, [318767104], []⟩
def dA : DataM := ⟨⟨#[100]⟩, 4, 4, false, 4, [], []⟩
theorem one_get {x y : Int} {k : Nat} (h : ([x] : List Int)[k]? = some y) : k = 0 ∧ y = x := by
  cases k with
  | zero => simp at h; exact ⟨rfl, h.symm⟩
  | succ k => simp at h
theorem fA_e : fnE fA = 0 := by
  refine fnE_ok ⟨.inl rfl, by decide⟩ (fun x hx => ?_) ⟨fun i r hi => by simp [fA] at hi, fun k x hk hx h => ?_⟩ (fun k x hk hx h => ?_) (fun x hx => ?_)
  · simp [fA] at hx; subst hx; decide
  · obtain ⟨-, rfl⟩ := one_get hx; exact absurd h (by decide)
  · obtain ⟨-, rfl⟩ := one_get hx; exact absurd h (by decide)
  · obtain ⟨-, rfl⟩ := one_get hx; exact .inr (by decide)
theorem gA_e : fnE gA' = 7 := by
  refine fnE_inside ⟨.inl rfl, by decide⟩ (fun x hx => ?_) ⟨fun i r hi => by simp [gA'] at hi, fun k x hk hx h => ?_⟩ (fun h => ?_)
  · simp [gA'] at hx; subst hx; decide
  · obtain ⟨-, rfl⟩ := one_get hx; exact absurd h (by decide)
  · have := h 0 318767104 (by decide) rfl (by decide) rfl
    exact absurd this (by decide)
theorem dA_ok : rdataOk dA := ⟨by decide, by decide, by decide, fun _ => ⟨rfl, rfl, rfl⟩, fun i r hi => by simp [dA] at hi⟩
def oA : ObjM := ⟨[fA], [dA], []⟩
def oB : ObjM := ⟨[fA, fA], [], []⟩
theorem fA_fok : funcOk fA := ⟨by decide, by decide, ⟨by decide, fun x hx => by simp [fA] at hx; subst hx; decide⟩, ⟨by decide, fun r hr => by simp [fA] at hr⟩⟩
theorem dA_dok : dataOk dA := ⟨by decide, by decide, by decide, by decide, ⟨by decide, fun x hx => by simp [dA] at hx⟩, ⟨by decide, fun r hr => by simp [dA] at hr⟩⟩
theorem oA_e : objE oA = 0 := objE_ok ⟨⟨by decide, fun x hx => by simp [oA] at hx; subst hx; exact fA_fok⟩, ⟨by decide, fun x hx => by simp [oA] at hx; subst hx; exact dA_dok⟩, ⟨by decide, fun x hx => by simp [oA] at hx⟩⟩
  (firstE_all fun x hx => by simp [oA] at hx; subst hx; exact fA_e) (fun x hx => by simp [oA] at hx; subst hx; exact dA_ok) ⟨by simp [namesL, oA, fA, dA], fun x hx => by simp [oA] at hx⟩
theorem oB_e : objE oB = 4 := objE_names ⟨⟨by decide, fun x hx => by simp [oB] at hx; subst hx; exact fA_fok⟩, ⟨by decide, fun x hx => by simp [oB] at hx⟩, ⟨by decide, fun x hx => by simp [oB] at hx⟩⟩
  (firstE_all fun x hx => by simp [oB] at hx; subst hx; exact fA_e) (fun x hx => by simp [oB] at hx) fun h => by have := h.1; simp [namesL, oB] at this
abbrev fCs (b : Nat) : Array Value := #[.string ⟨#[102]⟩, .int .i64 1, .slice (some ⟨b, 0, none⟩) 1 1, .slice none 0 0]
abbrev dCs : Array Value := #[.string ⟨#[100]⟩, .int .i64 4, .int .i64 4, .bool false, .int .i64 4, .slice none 0 0, .slice none 0 0]
theorem words_one1 {X : World} {b : Nat} {x : Int} (h : X.cell? ⟨b, 0, none⟩ = some (.int .u32 x)) (h0 : 0 ≤ x) (h1 : x < 4294967296) : IsWords (fun _ => True) X (.slice (some ⟨b, 0, none⟩) 1 1) [x] :=
  ⟨⟨_, _, rfl, ⟨⟨Nat.le_refl _, fun e => by cases e⟩, by decide⟩, fun _ _ => trivial, .inr ⟨b, 0, rfl, fun i y hi => by
    obtain ⟨rfl, rfl⟩ := one_get hi
    exact h⟩⟩, fun y hy => by simp at hy; subst hy; exact ⟨h0, h1⟩⟩
theorem fA_v {X : World} {b : Nat} (h : X.cell? ⟨b, 0, none⟩ = some (.int .u32 352321536)) : FuncV (fun _ => True) X (.agg (fCs b)) fA := ⟨_, _, rfl, words_one1 h (by decide) (by decide), LstA.nil, by decide⟩
theorem gA_v {X : World} {b : Nat} (h : X.cell? ⟨b, 0, none⟩ = some (.int .u32 318767104)) : FuncV (fun _ => True) X (.agg (fCs b)) gA' := ⟨_, _, rfl, words_one1 h (by decide) (by decide), LstA.nil, by decide⟩
theorem dA_v (X : World) : DataV (fun _ => True) X (.agg dCs) dA := ⟨_, _, rfl, ⟨LstA.nil, fun _ h => by cases h⟩, LstA.nil, by decide⟩
theorem nil_b (X : World) : IsBytes (fun _ => True) X (.slice none 0 0) [] := ⟨LstA.nil, fun _ h => by cases h⟩
theorem oA_v {X : World} {b p q : Nat} (h : X.cell? ⟨b, 0, none⟩ = some (.int .u32 352321536)) (hp : XAt X p (fCs b).toList) (hq : XAt X q dCs.toList) :
    IsObj (fun _ => True) X (.agg #[.slice (some ⟨p, 0, none⟩) 1 1, .slice (some ⟨q, 0, none⟩) 1 1, .slice none 0 0]) oA := by
  refine ⟨_, _, _, rfl, ⟨_, _, rfl, ⟨⟨Nat.le_refl _, fun e => by cases e⟩, by decide⟩, fun _ _ => trivial, .inr ⟨p, 0, rfl, fun i y hi => ?_⟩⟩, ⟨_, _, rfl, ⟨⟨Nat.le_refl _, fun e => by cases e⟩, by decide⟩, fun _ _ => trivial, .inr ⟨q, 0, rfl, fun i y hi => ?_⟩⟩, LstA.nil⟩
  · cases i with
    | zero => simp [oA] at hi; subst hi; exact ⟨_, _, hp.1 0 _ rfl, hp.1 1 _ rfl, hp.1 2 _ rfl, hp.1 3 _ rfl, words_one1 h (by decide) (by decide), LstA.nil, by decide⟩
    | succ i => simp [oA] at hi
  · cases i with
    | zero => simp [oA] at hi; subst hi; exact ⟨_, _, hq.1 0 _ rfl, hq.1 1 _ rfl, hq.1 2 _ rfl, hq.1 3 _ rfl, hq.1 4 _ rfl, hq.1 5 _ rfl, hq.1 6 _ rfl, nil_b X, LstA.nil, by decide⟩
    | succ i => simp [oA] at hi
theorem oB_v {X : World} {b p : Nat} (h : X.cell? ⟨b, 0, none⟩ = some (.int .u32 352321536)) (hp : XAt X p ((fCs b).toList ++ (fCs b).toList)) :
    IsObj (fun _ => True) X (.agg #[.slice (some ⟨p, 0, none⟩) 2 2, .slice none 0 0, .slice none 0 0]) oB := by
  refine ⟨_, _, _, rfl, ⟨_, _, rfl, ⟨⟨Nat.le_refl _, fun e => by cases e⟩, by decide⟩, fun _ _ => trivial, .inr ⟨p, 0, rfl, fun i y hi => ?_⟩⟩, LstA.nil, LstA.nil⟩
  cases i with
  | zero => simp [oB] at hi; subst hi; exact ⟨_, _, hp.1 0 _ rfl, hp.1 1 _ rfl, hp.1 2 _ rfl, hp.1 3 _ rfl, words_one1 h (by decide) (by decide), LstA.nil, by decide⟩
  | succ i =>
    cases i with
    | zero => simp [oB] at hi; subst hi; exact ⟨_, _, hp.1 4 _ rfl, hp.1 5 _ rfl, hp.1 6 _ rfl, hp.1 7 _ rfl, words_one1 h (by decide) (by decide), LstA.nil, by decide⟩
    | succ i => simp [oB] at hi
theorem two_at (X : World) (c1 c2 : Array Value) (t1 t2 : TypeId) : XAt ((X.alloc (.cells c1 t1)).alloc (.cells c2 t2)) X.heap.size c1.toList ∧ XAt ((X.alloc (.cells c1 t1)).alloc (.cells c2 t2)) (X.heap.size + 1) c2.toList ∧ Below X.heap.size X ((X.alloc (.cells c1 t1)).alloc (.cells c2 t2)) := by
  have h := XAt.new (X.alloc (.cells c1 t1)) c2 t2
  rw [World.size_alloc] at h
  exact ⟨(XAt.new X c1 t1).later (by simp) (keep_alloc8 (Below.refl _ _) _), h, keep_alloc8 (keep_alloc8 (Below.refl _ _) _) _⟩
set_option maxRecDepth 100000 in
set_option maxHeartbeats 4000000 in
theorem awake10 (w : World) (hT : Tab w) : Calls Tryz.prog 7 #[] w fun e w' => e = .returned (.bool true) ∧ Below w.heap.size w w' := by
  obtain ⟨w5, e5⟩ : ∃ w5, w5 = ((((w.alloc (.cells #[.int .u32 352321536] 41)).alloc (.cells (fCs w.heap.size) 25)).alloc (.cells #[.int .u32 318767104] 41)).alloc (.cells (fCs (w.heap.size + 1 + 1)) 25)).alloc (.cells dCs 48) := ⟨_, rfl⟩
  have hs : w5.heap.size = w.heap.size + 5 := by rw [e5]; simp
  have B5 : Hid (Below w.heap.size w w5) := by rw [e5]; exact keep_alloc8 (keep_alloc8 (keep_alloc8 (keep_alloc8 (keep_alloc8 (Below.refl _ _) _) _) _) _) _
  have a0 := new_cell' w #[.int .u32 352321536] 41 0 _ rfl
  have a1 := XAt.new (w.alloc (.cells #[.int .u32 352321536] 41)) (fCs w.heap.size) 25
  have a2 := new_cell' ((w.alloc (.cells #[.int .u32 352321536] 41)).alloc (.cells (fCs w.heap.size) 25)) #[.int .u32 318767104] 41 0 _ rfl
  have a3 := XAt.new (((w.alloc (.cells #[.int .u32 352321536] 41)).alloc (.cells (fCs w.heap.size) 25)).alloc (.cells #[.int .u32 318767104] 41)) (fCs (w.heap.size + 1 + 1)) 25
  have a4 := XAt.new ((((w.alloc (.cells #[.int .u32 352321536] 41)).alloc (.cells (fCs w.heap.size) 25)).alloc (.cells #[.int .u32 318767104] 41)).alloc (.cells (fCs (w.heap.size + 1 + 1)) 25)) dCs 48
  simp only [World.size_alloc] at a1 a2 a3 a4
  have c0 : Hid (w5.cell? ⟨w.heap.size, 0, none⟩ = some (.int .u32 352321536)) := by rw [e5]; exact cell_any a0 (keep_alloc8 (keep_alloc8 (keep_alloc8 (keep_alloc8 (Below.refl _ _) _) _) _) _)
  have X1 : Hid (XAt w5 (w.heap.size + 1) (fCs w.heap.size).toList) := by rw [e5]; exact a1.later (by simp) (keep_alloc8 (keep_alloc8 (keep_alloc8 (Below.refl _ _) _) _) _)
  have c2 : Hid (w5.cell? ⟨w.heap.size + 1 + 1, 0, none⟩ = some (.int .u32 318767104)) := by rw [e5]; exact cell_any a2 (keep_alloc8 (keep_alloc8 (Below.refl _ _) _) _)
  have X3 : Hid (XAt w5 (w.heap.size + 1 + 1 + 1) (fCs (w.heap.size + 1 + 1)).toList) := by rw [e5]; exact a3.later (by simp) (keep_alloc8 (Below.refl _ _) _)
  have X4 : Hid (XAt w5 (w.heap.size + 1 + 1 + 1 + 1) dCs.toList) := by rw [e5]; exact a4
  clear a0 a1 a2 a3 a4
  have T5 : Hid (Tab w5) := hT.later B5.out
  have hF : ∀ X, Below w5.heap.size w5 X → Calls Tryz.prog 8 #[.agg (fCs w.heap.size)] X fun e w' => e = .returned (.int .i64 0) ∧ Below X.heap.size X w' := fun X hX => by
    have h := fun_any (fA_v (cell_any c0.out hX)) (by decide) (by decide) (T5.out.later hX)
    rwa [fA_e] at h
  have hG : ∀ X, Below w5.heap.size w5 X → Calls Tryz.prog 8 #[.agg (fCs (w.heap.size + 1 + 1))] X fun e w' => e = .returned (.int .i64 7) ∧ Below X.heap.size X w' := fun X hX => by
    have h := fun_any (gA_v (cell_any c2.out hX)) (by decide) (by decide) (T5.out.later hX)
    rwa [gA_e] at h
  have hD : ∀ X, Calls Tryz.prog 17 #[.agg dCs] X fun e w' => e = .returned (.int .i64 0) ∧ Below X.heap.size X w' := fun X => by
    have h := data_any (dA_v X)
    rwa [if_pos dA_ok] at h
  have hO : ∀ X p q, Below w5.heap.size w5 X → XAt X p (fCs w.heap.size).toList → XAt X q dCs.toList → Calls Tryz.prog 11 #[.agg #[.slice (some ⟨p, 0, none⟩) 1 1, .slice (some ⟨q, 0, none⟩) 1 1, .slice none 0 0]] X fun e w' => e = .returned (.int .i64 0) ∧ Below X.heap.size X w' := fun X p q hX hp hq => by
    have h := obj_any (oA_v (cell_any c0.out hX) hp hq) (T5.out.later hX)
    rwa [oA_e] at h
  have hP : ∀ X p, Below w5.heap.size w5 X → XAt X p ((fCs w.heap.size).toList ++ (fCs w.heap.size).toList) → Calls Tryz.prog 11 #[.agg #[.slice (some ⟨p, 0, none⟩) 2 2, .slice none 0 0, .slice none 0 0]] X fun e w' => e = .returned (.int .i64 4) ∧ Below X.heap.size X w' := fun X p hX hp => by
    have h := obj_any (oB_v (cell_any c0.out hX) hp) (T5.out.later hX)
    rwa [oB_e] at h
  have HF : Hid (∀ X, Below w5.heap.size w5 X → Calls Tryz.prog 8 #[.agg (fCs w.heap.size)] X fun e w' => e = .returned (.int .i64 0) ∧ Below X.heap.size X w') := hF
  have HG : Hid (∀ X, Below w5.heap.size w5 X → Calls Tryz.prog 8 #[.agg (fCs (w.heap.size + 1 + 1))] X fun e w' => e = .returned (.int .i64 7) ∧ Below X.heap.size X w') := hG
  have HD : Hid (∀ X, Calls Tryz.prog 17 #[.agg dCs] X fun e w' => e = .returned (.int .i64 0) ∧ Below X.heap.size X w') := hD
  have HO : Hid (∀ X p q, Below w5.heap.size w5 X → XAt X p (fCs w.heap.size).toList → XAt X q dCs.toList → Calls Tryz.prog 11 #[.agg #[.slice (some ⟨p, 0, none⟩) 1 1, .slice (some ⟨q, 0, none⟩) 1 1, .slice none 0 0]] X fun e w' => e = .returned (.int .i64 0) ∧ Below X.heap.size X w') := hO
  have HP : Hid (∀ X p, Below w5.heap.size w5 X → XAt X p ((fCs w.heap.size).toList ++ (fCs w.heap.size).toList) → Calls Tryz.prog 11 #[.agg #[.slice (some ⟨p, 0, none⟩) 2 2, .slice none 0 0, .slice none 0 0]] X fun e w' => e = .returned (.int .i64 4) ∧ Below X.heap.size X w') := hP
  have HS : Hid (w.heap.size + 5 = w5.heap.size) := hs.symm
  clear hF hG hD hO hP hT
  go_enter Tryz.func7, Tryz.ntmps7
  go_upto_region 4 with fail
  rw [← e5]
  clear e5 hs
  have f0 := X1.out.1 0 _ rfl
  have f1 := X1.out.1 1 _ rfl
  have f2 := X1.out.1 2 _ rfl
  have f3 := X1.out.1 3 _ rfl
  go_wp2_with (first
    | (have q := K9; go_at_call 11; refine (HP.out _ _ (bnext K9.out (keep_alloc8 (Below.refl _ _) _)) (XAt.new _ _ _)).mono ?_; rintro e w10 ⟨rfl, b10⟩; have K10 := Hid.mk0 (bnext (bnext K9.out (keep_alloc8 (Below.refl _ _) _)) b10))
    | (go_at_call 11; refine (HO.out _ _ _ (bnext K8.out (two_at _ _ _ _ _).2.2) (two_at _ _ _ _ _).1 (two_at _ _ _ _ _).2.1).mono ?_; rintro e w9 ⟨rfl, b9⟩; have K9 := Hid.mk0 (bnext (bnext K8.out (two_at _ _ _ _ _).2.2) b9); clear f0 f1 f2 f3; have f0 := (X1.out.later (by have := HS.out; omega) K9.out).1 0 _ rfl; have f1 := (X1.out.later (by have := HS.out; omega) K9.out).1 1 _ rfl; have f2 := (X1.out.later (by have := HS.out; omega) K9.out).1 2 _ rfl; have f3 := (X1.out.later (by have := HS.out; omega) K9.out).1 3 _ rfl; clear b9 d0 d1 d2 d3 d4 d5 d6)
    | (go_at_call 17; refine (HD.out _).mono ?_; rintro e w8 ⟨rfl, b8⟩; have K8 := Hid.mk0 (bnext K7.out b8); have z8 : w.heap.size + 1 + 1 + 1 + 1 < w8.heap.size := (by have := HS.out; have := K8.out.size; omega); have z8' : w.heap.size + 1 < w8.heap.size := (by omega); have f0 := (X1.out.later (by have := HS.out; omega) K8.out).1 0 _ rfl; have f1 := (X1.out.later (by have := HS.out; omega) K8.out).1 1 _ rfl; have f2 := (X1.out.later (by have := HS.out; omega) K8.out).1 2 _ rfl; have f3 := (X1.out.later (by have := HS.out; omega) K8.out).1 3 _ rfl; clear d0 d1 d2 d3 d4 d5 d6; have d0 := (X4.out.later (by have := HS.out; omega) K8.out).1 0 _ rfl; have d1 := (X4.out.later (by have := HS.out; omega) K8.out).1 1 _ rfl; have d2 := (X4.out.later (by have := HS.out; omega) K8.out).1 2 _ rfl; have d3 := (X4.out.later (by have := HS.out; omega) K8.out).1 3 _ rfl; have d4 := (X4.out.later (by have := HS.out; omega) K8.out).1 4 _ rfl; have d5 := (X4.out.later (by have := HS.out; omega) K8.out).1 5 _ rfl; have d6 := (X4.out.later (by have := HS.out; omega) K8.out).1 6 _ rfl; clear b8)
    | (have q := K6; go_at_call 8; refine (HG.out _ K6.out).mono ?_; rintro e w7 ⟨rfl, b7⟩; have K7 := Hid.mk0 (bnext K6.out b7); have d0 := (X4.out.later (by have := HS.out; omega) K7.out).1 0 _ rfl; have d1 := (X4.out.later (by have := HS.out; omega) K7.out).1 1 _ rfl; have d2 := (X4.out.later (by have := HS.out; omega) K7.out).1 2 _ rfl; have d3 := (X4.out.later (by have := HS.out; omega) K7.out).1 3 _ rfl; have d4 := (X4.out.later (by have := HS.out; omega) K7.out).1 4 _ rfl; have d5 := (X4.out.later (by have := HS.out; omega) K7.out).1 5 _ rfl; have d6 := (X4.out.later (by have := HS.out; omega) K7.out).1 6 _ rfl; clear b7 g0 g1 g2 g3)
    | (go_at_call 8; refine (HF.out _ (Below.refl _ _)).mono ?_; rintro e w6 ⟨rfl, b6⟩; have K6 := Hid.mk0 b6; have g0 := (X3.out.later (by have := HS.out; omega) K6.out).1 0 _ rfl; have g1 := (X3.out.later (by have := HS.out; omega) K6.out).1 1 _ rfl; have g2 := (X3.out.later (by have := HS.out; omega) K6.out).1 2 _ rfl; have g3 := (X3.out.later (by have := HS.out; omega) K6.out).1 3 _ rfl; clear b6 f0 f1 f2 f3))
  go_ret
  exact ⟨rfl, bnext B5.out K10.out⟩
end Go.Proofs.YtnejpldbokodaaaGreatDoor
