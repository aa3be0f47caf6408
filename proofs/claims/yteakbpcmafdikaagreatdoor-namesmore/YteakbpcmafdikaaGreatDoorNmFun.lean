/- What is told of a function: zeros, and the first error. What check.Function answers. -/
import Derived.Test.YteakbpcmafdikaaGreatDoorNmTk
import Derived.Test.YteakbpcmafdikaaGreatDoorNmFn
namespace Go.Proofs.YteakbpcmafdikaaGreatDoor
open Go.ChangeShapes Go.WideShapes Go.ChangeAt Go.RowKit Go.Shelf
set_option linter.unusedVariables false
set_option linter.unusedSimpArgs false
theorem RowAt.apart {O : Nat → Prop} {w w' : World} {g n : Nat} {f : Nat → Int} (h : RowAt w g n f) (ha : Apart O w w') (hg : ¬ O g) : RowAt w' g n f := fun i hi => by
  obtain ⟨h0, h1, h2, h3, h4⟩ := h i hi
  exact ⟨ha.cell h0 hg, ha.cell h1 hg, ha.cell h2 hg, ha.cell h3 hg, ha.cell h4 hg⟩
theorem HasAt.apart {O : Nat → Prop} {w w' : World} {h n : Nat} {L : List RelM} (H : HasAt w h n L) (ha : Apart O w w') (hg : ¬ O h) : HasAt w' h n L :=
  ⟨fun i hi => ha.cell (H.1 i hi) hg, fun i => (World.frozen?_of_block (a := ⟨h, i, none⟩) (ha.block h H.2.2 hg)).trans (H.2.1 i), Nat.lt_of_lt_of_le H.2.2 ha.size⟩
theorem tab_apart {B D : Nat} {w w' : World} (h : Tab w) (ha : Apart (Win B D) w w') (hB : 0 < B) : Tab w' := fun k hk => by
  obtain ⟨h0, h1, h2⟩ := h k hk
  have hn : ¬ Win B D 0 := fun h => by have := h.1; omega
  exact ⟨ha.cell h0 hn, ha.cell h1 hn, ha.cell h2 hn⟩
theorem apart_next {B D : Nat} {w w1 w2 : World} (h : Apart (Win B D) w w1) (k : Apart (Win B D) w1 w2) : Apart (Win B D) w w2 := h.trans k fun _ h => .inl h
theorem apart_step {B D : Nat} {w w1 w2 : World} (h : Apart (Win B D) w w1) (k : Below w1.heap.size w1 w2) : Apart (Win B D) w w2 := apart_next h (Apart.of_below k)
/-- All cells are as they were. -/
def KC (w w' : World) : Prop := ∀ p v, w.cell? p = some v → w'.cell? p = some v
theorem KC.of_below {w w' : World} (h : Below w.heap.size w w') : KC w w' := fun p v hc => cell_any hc h
theorem KC.refl (w : World) : KC w w := fun _ _ h => h
theorem KC.trans {w w1 w2 : World} (h : KC w w1) (k : KC w1 w2) : KC w w2 := fun p v hc => k p v (h p v hc)
theorem KC.apart {B D : Nat} {w0 w w' : World} (h : KC w0 w) (hB : w0.heap.size ≤ B) (ha : Apart (Win B D) w w') : KC w0 w' := fun p v hc =>
  ha.cell (h p v hc) fun hw => by have := World.block_lt_of_cell? w0 p hc; have := hw.1; omega
section
variable {A : Nat → Prop} {w w' : World} {v : Value} {b o : Nat}
theorem IsBytes.kc {l : Bs} (h : IsBytes A w v l) (k : KC w w') : IsBytes A w' v l := ⟨h.1.map (fun _ h => h) fun b o x _ _ hc => k _ _ hc, h.2⟩
theorem IsWords.kc {l : List Int} (h : IsWords A w v l) (k : KC w w') : IsWords A w' v l := ⟨h.1.map (fun _ h => h) fun b o x _ _ hc => k _ _ hc, h.2⟩
theorem RelAt.kc {r : RelM} (h : RelAt w b o r) (k : KC w w') : RelAt w' b o r := ⟨k _ _ h.1, k _ _ h.2.1, k _ _ h.2.2.1, k _ _ h.2.2.2.1, h.2.2.2.2⟩
theorem IsRels.kc {l : List RelM} (h : IsRels A w v l) (k : KC w w') : IsRels A w' v l := LstA.map h (fun _ h => h) fun b o x _ _ hc => hc.kc k
theorem FuncAt.kc {f : FuncM} (h : FuncAt A w b o f) (k : KC w w') : FuncAt A w' b o f := by
  obtain ⟨vc, vr, h1, h2, h3, h4, h5, h6, h7⟩ := h
  exact ⟨vc, vr, k _ _ h1, k _ _ h2, k _ _ h3, k _ _ h4, h5.kc k, h6.kc k, h7⟩
theorem DataAt.kc {d : DataM} (h : DataAt A w b o d) (k : KC w w') : DataAt A w' b o d := by
  obtain ⟨vb, vr, h1, h2, h3, h4, h5, h6, h7, h8, h9, h10⟩ := h
  exact ⟨vb, vr, k _ _ h1, k _ _ h2, k _ _ h3, k _ _ h4, k _ _ h5, k _ _ h6, k _ _ h7, h8.kc k, h9.kc k, h10⟩
theorem NoteAt.kc {x : NoteM} (h : NoteAt w b o x) (k : KC w w') : NoteAt w' b o x := ⟨k _ _ h.1, k _ _ h.2.1, h.2.2⟩
theorem IsFuncs.kc {l : List FuncM} (h : IsFuncs A w v l) (k : KC w w') : IsFuncs A w' v l := LstA.map h (fun _ h => h) fun b o x _ _ hc => hc.kc k
theorem IsDatas.kc {l : List DataM} (h : IsDatas A w v l) (k : KC w w') : IsDatas A w' v l := LstA.map h (fun _ h => h) fun b o x _ _ hc => hc.kc k
theorem IsNotes.kc {l : List NoteM} (h : IsNotes A w v l) (k : KC w w') : IsNotes A w' v l := LstA.map h (fun _ h => h) fun b o x _ _ hc => hc.kc k
theorem IsObj.kc {p : ObjM} (h : IsObj A w v p) (k : KC w w') : IsObj A w' v p := by
  obtain ⟨vf, vd, vn, e, h1, h2, h3⟩ := h
  exact ⟨vf, vd, vn, e, h1.kc k, h2.kc k, h3.kc k⟩
end
/-- The value that holds a function, its box, and what lies below B. -/
structure FnAt (B fb : Nat) (f : FuncM) (vc vr : Value) (w : World) : Prop where
  box : XAt w fb [.string f.name, .int .i64 f.bind, vc, vr]
  src : ∃ (A : Nat → Prop) (w0 : World), w0.heap.size ≤ B ∧ IsWords A w0 vc f.code ∧ IsRels A w0 vr f.rels ∧ KC w0 w
  tab : Tab w
theorem FnAt.words {B fb : Nat} {f : FuncM} {vc vr : Value} {w : World} (h : FnAt B fb f vc vr w) : IsWords (fun _ => True) w vc f.code := by
  obtain ⟨A, w0, -, h1, -, k⟩ := h.src
  exact (h1.kc k).wide fun _ _ => trivial
theorem FnAt.rels {B fb : Nat} {f : FuncM} {vc vr : Value} {w : World} (h : FnAt B fb f vc vr w) : IsRels (fun _ => True) w vr f.rels := by
  obtain ⟨A, w0, -, -, h1, k⟩ := h.src
  exact (h1.kc k).wide fun _ _ => trivial
theorem FnAt.apart {B D fb : Nat} {f : FuncM} {vc vr : Value} {w w' : World} (h : FnAt B fb f vc vr w) (ha : Apart (Win B D) w w') (hb : fb < B) (hl : B ≤ w.heap.size) : FnAt B fb f vc vr w' :=
  ⟨h.box.apart (by omega) ha (fun h => by have := h.1; omega), by obtain ⟨A, w0, h0, h1, h2, k⟩ := h.src; exact ⟨A, w0, h0, h1, h2, k.apart h0 ha⟩, tab_apart h.tab ha (by omega)⟩
theorem need_t (x : Int) (w : World) : Calls Tryz.prog 68 #[.bool true, .int .i64 x] w fun e w' => e = .returned (.int .i64 0) ∧ w' = w := need_any true x w
theorem need_f (x : Int) (w : World) : Calls Tryz.prog 68 #[.bool false, .int .i64 x] w fun e w' => e = .returned (.int .i64 x) ∧ w' = w := need_any false x w
/-- Words that aren't all instructions': which one is first is known ahead of the call. -/
theorem all_bad {v : Value} {l : List Int} {n g : Nat} {w : World} (h : Calls Tryz.prog 111 #[v] w fun e w' => ((codesOk l ∧ e = .returned (.tuple #[.slice (some ⟨g, 0, none⟩) n n, .int .i64 (-1)]) ∧ RowAt w' g n (gF l) ∧ g < w'.heap.size) ∨ (¬ codesOk l ∧ ∃ k : Nat, e = .returned (.tuple #[.slice none 0 0, .int .i64 k]))) ∧ Below w.heap.size w w') (hl : ¬ codesOk l) :
    Calls Tryz.prog 111 #[v] w fun e w' => (∃ k : Nat, e = .returned (.tuple #[.slice none 0 0, .int .i64 k])) ∧ Below w.heap.size w w' := h.mono fun e w' h => ⟨(h.1.resolve_left fun q => hl q.1).2, h.2⟩
set_option maxRecDepth 100000 in
set_option maxHeartbeats 8000000 in
theorem tells_fn {w : World} {B fb : Nat} {f : FuncM} {vc vr : Value} (hB : B ≤ w.heap.size) (hfb : fb < B) (hF : FnAt B fb f vc vr w) (hm : f.code.length ≤ 5000) (hrm : f.rels.length ≤ 100000) :
    Tells Tryz.prog 109 #[.pointer (some ⟨fb, 0, none⟩)] (fnE f) B w := by
  intro l J Jx W hW hJ hJx hY0 hYx h0
  obtain ⟨ca, cc, rfl, -, -, -⟩ := LstA.open hF.words.1
  obtain ⟨ra, rc, rfl, -, -, -⟩ := LstA.open hF.rels
  have HJ : Hid (∀ X Y, J X → Below X.heap.size X Y → J Y) := hJ
  have Y0 : Hid (∀ W1, J W1 → YieldAt Fence.wide 0 Tryz.prog l #[.int .i64 0] W1 fun e W' => e = .returned (.bool true) ∧ J W' ∧ Apart (Win B W.heap.size) W1 W') := hY0
  have YX : Hid (∀ x W1, x ≠ 0 → J W1 → YieldAt Fence.wide 0 Tryz.prog l #[.int .i64 x] W1 fun e W' => e = .returned (.bool false) ∧ Jx x W') := hYx
  have J0 : Hid (J W) := h0
  have hBW : B ≤ W.heap.size := Nat.le_trans hB hW.size
  have F0 : Hid (FnAt B fb f (.slice ca f.code.length cc) (.slice ra f.rels.length rc) W) := hF.apart (Apart.of_below (O := Win B B) hW) hfb hB
  have KF : Hid (∀ X, Apart (Win B W.heap.size) W X → FnAt B fb f (.slice ca f.code.length cc) (.slice ra f.rels.length rc) X) := fun X hX => F0.out.apart hX hfb hBW
  obtain ⟨c1, I1⟩ := bool_of (bindOk f.bind)
  have C1 : Hid (∀ W, Calls Tryz.prog 110 #[.int .i64 f.bind] W fun e w' => e = .returned (.bool c1) ∧ w' = W) := fun W => (bound_any f.bind W).mono fun e w' h => ⟨says_is h.1 I1.out, h.2⟩
  obtain ⟨n, en⟩ : ∃ n, f.code.length = n := ⟨_, rfl⟩
  have EN : Hid (f.code.length = n ∧ n ≤ 5000) := ⟨en, by omega⟩
  have hn' : (n : Int) ≤ 5000 := by omega
  rw [en] at F0 KF
  have y1 := F0.out.box.1 1 _ rfl
  have y2 := F0.out.box.1 2 _ rfl
  clear hJ hY0 hYx h0 hF en hW hm F0
  refine callsIn_of_wp Tryz.func109 rfl trivial ?_ rfl
  simp only [Tryz.ntmps109, List.size_toArray, List.length_cons, List.length_nil, Nat.reduceAdd, Nat.reduceSub, Array.replicate_succ, Array.replicate_zero, List.push_toArray, List.append_toArray, List.nil_append, List.cons_append]
  cases c1
  · have E : Hid (fnE f = 4) := fnE_bind fun h => by have := I1.out.2 h.1; cases this
    obtain ⟨fn, tmps, assign, body, hy, hR⟩ := YX.out 4 W (by decide) J0.out
    gi_wp2_with (first | (refine ⟨trivial, rfl, ?_⟩; gi_at_call 110; refine (callsIn_wide.2 (C1.out _)).mono ?_; rintro e wn ⟨rfl, hwn⟩; obtain rfl := hwn.symm) | (refine ⟨trivial, rfl, ?_⟩; gi_at_call 68; refine (callsIn_wide.2 (need_f _ _)).mono ?_; rintro e wn ⟨rfl, hwn⟩; obtain rfl := hwn.symm))
    refine ⟨rfl, hR.mono ?_⟩
    rintro e W' ⟨rfl, hx⟩
    gi_wp2
    exact bodyPost_ret (results_none rfl _ _ _) rfl ⟨⟨_, rfl⟩, .inr ⟨by rw [E.out]; decide, by rw [E.out]; exact hx⟩⟩
  by_cases h0 : n = 0
  · subst h0
    have E : Hid (fnE f = 4) := fnE_bind fun h => h.2 (List.eq_nil_of_length_eq_zero EN.out.1)
    obtain ⟨fn, tmps, assign, body, hy, hR⟩ := YX.out 4 W (by decide) J0.out
    gi_wp2_with (first | (refine ⟨trivial, rfl, ?_⟩; gi_at_call 110; refine (callsIn_wide.2 (C1.out _)).mono ?_; rintro e wn ⟨rfl, hwn⟩; obtain rfl := hwn.symm) | (refine ⟨trivial, rfl, ?_⟩; gi_at_call 68; refine (callsIn_wide.2 (need_f _ _)).mono ?_; rintro e wn ⟨rfl, hwn⟩; obtain rfl := hwn.symm))
    refine ⟨rfl, hR.mono ?_⟩
    rintro e W' ⟨rfl, hx⟩
    gi_wp2
    exact bodyPost_ret (results_none rfl _ _ _) rfl ⟨⟨_, rfl⟩, .inr ⟨by rw [E.out]; decide, by rw [E.out]; exact hx⟩⟩
  have hpos : 0 < (n : Int) := by omega
  have hposN : 0 < n := by omega
  have P1 : Hid (bindOk f.bind ∧ f.code ≠ []) := ⟨I1.out.1 rfl, fun h => by have := EN.out.1; rw [h] at this; simp at this; omega⟩
  clear h0
  obtain ⟨fn, tmps, assign, body, hy, hR⟩ := Y0.out W J0.out
  gi_wp2_with (first | (refine ⟨trivial, rfl, ?_⟩; gi_at_call 110; refine (callsIn_wide.2 (C1.out _)).mono ?_; rintro e wn ⟨rfl, hwn⟩; obtain rfl := hwn.symm) | (refine ⟨trivial, rfl, ?_⟩; gi_at_call 68; refine (callsIn_wide.2 (need_t _ _)).mono ?_; rintro e wn ⟨rfl, hwn⟩; obtain rfl := hwn.symm))
  refine ⟨rfl, hR.mono ?_⟩
  rintro e v1 ⟨rfl, hj, ha⟩
  have Jv1 : Hid (J v1) := hj
  have Av1 : Hid (Apart (Win B W.heap.size) W v1) := ha
  clear hj ha hy hR y1 y2
  have z2 := (KF.out _ Av1.out).box.1 2 _ rfl
  have CA : Hid (Calls Tryz.prog 111 #[.slice ca n cc] v1 fun e w' => ((codesOk f.code ∧ e = .returned (.tuple #[.slice (some ⟨v1.heap.size, 0, none⟩) n n, .int .i64 (-1)]) ∧ RowAt w' v1.heap.size n (gF f.code) ∧ v1.heap.size < w'.heap.size) ∨ (¬ codesOk f.code ∧ ∃ k : Nat, e = .returned (.tuple #[.slice none 0 0, .int .i64 k]))) ∧ Below v1.heap.size v1 w') := by
    have h := all_words (KF.out _ Av1.out).words P1.out.2 (by have := EN.out; omega) (KF.out _ Av1.out).tab
    rwa [EN.out.1] at h
  by_cases hck : codesOk f.code
  rotate_left
  · have E : Hid (fnE f = 3) := fnE_code P1.out hck
    have CK' : Hid (Calls Tryz.prog 111 #[.slice ca n cc] v1 fun e w' => (∃ k : Nat, e = .returned (.tuple #[.slice none 0 0, .int .i64 k])) ∧ Below v1.heap.size v1 w') := all_bad CA.out hck
    clear CA hck
    gi_wp2_with (first | (refine ⟨trivial, rfl, ?_⟩; gi_at_call 111; refine (callsIn_wide.2 (CK'.out)).mono ?_; rintro e v2 ⟨⟨k, rfl⟩, hb2⟩; obtain ⟨fn, tmps, assign, body, hy, hR⟩ := YX.out 3 v2 (by decide) (HJ.out _ _ Jv1.out hb2)) | (refine ⟨trivial, rfl, ?_⟩; gi_at_call 68; refine (callsIn_wide.2 (need_f _ _)).mono ?_; rintro e wn ⟨rfl, hwn⟩; obtain rfl := hwn.symm))
    refine ⟨rfl, hR.mono ?_⟩
    rintro e W' ⟨rfl, hx⟩
    gi_wp2
    exact bodyPost_ret (results_none rfl _ _ _) rfl ⟨⟨_, rfl⟩, .inr ⟨by rw [E.out]; decide, by rw [E.out]; exact hx⟩⟩
  · have P2 : Hid (codesOk f.code) := hck
    have CG : Hid (Calls Tryz.prog 111 #[.slice ca n cc] v1 fun e w' => e = .returned (.tuple #[.slice (some ⟨v1.heap.size, 0, none⟩) n n, .int .i64 (-1)]) ∧ (RowAt w' v1.heap.size n (gF f.code) ∧ v1.heap.size < w'.heap.size) ∧ Below v1.heap.size v1 w') := CA.out.mono fun e w' h => ⟨(h.1.resolve_right fun q => q.1 P2.out).2.1, (h.1.resolve_right fun q => q.1 P2.out).2.2, h.2⟩
    clear CA hck
    gi_wp2_with (first | (refine ⟨trivial, rfl, ?_⟩; gi_at_call 111; refine (callsIn_wide.2 (CG.out)).mono ?_; rintro e v2 ⟨rfl, hr2, hb2⟩; have Jv2 := Hid.mk0 (HJ.out _ _ Jv1.out hb2); have Av2 := Hid.mk0 (apart_step Av1.out hb2); have R2 := Hid.mk0 hr2; clear hr2 hb2 z2; obtain ⟨fn, tmps, assign, body, hy, hR⟩ := Y0.out v2 Jv2.out) | (refine ⟨trivial, rfl, ?_⟩; gi_at_call 68; refine (callsIn_wide.2 (need_t _ _)).mono ?_; rintro e wn ⟨rfl, hwn⟩; obtain rfl := hwn.symm))
    refine ⟨rfl, hR.mono ?_⟩
    rintro e v3 ⟨rfl, hj, ha⟩
    have Jv3 : Hid (J v3) := hj
    have Av3 : Hid (Apart (Win B W.heap.size) W v3) := apart_next Av2.out ha
    have hg : Hid (¬ Win B W.heap.size v1.heap.size) := fun h => by have := h.2; have := Av1.out.size; omega
    have R3 : Hid (RowAt v3 v1.heap.size n (gF f.code)) := R2.out.1.apart ha hg.out
    clear hj ha hy hR R2 Av2 Jv2 CG
    generalize v1.heap.size = g at R3 hg ⊢
    have z3 := (KF.out _ Av3.out).box.1 3 _ rfl
    have CR : Hid (Calls Tryz.prog 112 #[.slice (some ⟨g, 0, none⟩) n n, .slice ra f.rels.length rc] v3 fun e w' => ((relsUpto f.code f.rels f.rels.length ∧ e = .returned (.tuple #[.slice (some ⟨v3.heap.size, 0, none⟩) n n, .bool true]) ∧ HasAt w' v3.heap.size n f.rels) ∨ (¬ relsUpto f.code f.rels f.rels.length ∧ e = .returned (.tuple #[.slice none 0 0, .bool false]))) ∧ Below v3.heap.size v3 w') := by
      have h := relocated_any g (l := f.code) (by rw [EN.out.1]; exact R3.out) (by have := EN.out; omega) (KF.out _ Av3.out).rels hrm
      rwa [EN.out.1] at h
    by_cases hrl : relsUpto f.code f.rels f.rels.length
    rotate_left
    · have E : Hid (fnE f = 4) := fnE_rels P1.out P2.out fun h => hrl h.1
      have CK : Hid (Calls Tryz.prog 112 #[.slice (some ⟨g, 0, none⟩) n n, .slice ra f.rels.length rc] v3 fun e w' => e = .returned (.tuple #[.slice none 0 0, .bool false]) ∧ Below v3.heap.size v3 w') := CR.out.mono fun e w' h => ⟨(h.1.resolve_left fun q => hrl q.1).2, h.2⟩
      clear CR hrl
      gi_wp2_with (first | (refine ⟨trivial, rfl, ?_⟩; gi_at_call 112; refine (callsIn_wide.2 (CK.out)).mono ?_; rintro e v4 ⟨rfl, hb4⟩; obtain ⟨fn, tmps, assign, body, hy, hR⟩ := YX.out 4 v4 (by decide) (HJ.out _ _ Jv3.out hb4)))
      refine ⟨trivial, ?_⟩
      gi_wp2_with (first | (refine ⟨trivial, rfl, ?_⟩; gi_at_call 68; refine (callsIn_wide.2 (need_f _ _)).mono ?_; rintro e wn ⟨rfl, hwn⟩; obtain rfl := hwn.symm))
      refine ⟨rfl, hR.mono ?_⟩
      rintro e W' ⟨rfl, hx⟩
      gi_wp2
      exact bodyPost_ret (results_none rfl _ _ _) rfl ⟨⟨_, rfl⟩, .inr ⟨by rw [E.out]; decide, by rw [E.out]; exact hx⟩⟩
    · have P3 : Hid (relsUpto f.code f.rels f.rels.length) := hrl
      have CG : Hid (Calls Tryz.prog 112 #[.slice (some ⟨g, 0, none⟩) n n, .slice ra f.rels.length rc] v3 fun e w' => e = .returned (.tuple #[.slice (some ⟨v3.heap.size, 0, none⟩) n n, .bool true]) ∧ HasAt w' v3.heap.size n f.rels ∧ Below v3.heap.size v3 w') := CR.out.mono fun e w' h => ⟨(h.1.resolve_right fun q => q.1 P3.out).2.1, (h.1.resolve_right fun q => q.1 P3.out).2.2, h.2⟩
      have hh : Hid (¬ Win B W.heap.size v3.heap.size) := fun h => by have := h.2; have := Av3.out.size; omega
      clear CR hrl
      obtain ⟨c4, I4⟩ := bool_of (resolvedUpto f.code f.rels n)
      have CS : Hid (∀ X, RowAt X g n (gF f.code) → HasAt X v3.heap.size n f.rels → Calls Tryz.prog 113 #[.slice (some ⟨g, 0, none⟩) n n, .slice (some ⟨v3.heap.size, 0, none⟩) n n] X fun e w' => e = .returned (.bool c4) ∧ Below X.heap.size X w') := fun X h1 h2 => by
        have h := resolved_any (l := f.code) (rels := f.rels) g v3.heap.size (by rw [EN.out.1]; exact h1) (by have := EN.out; omega) (by rw [EN.out.1]; exact h2)
        rw [EN.out.1] at h
        exact h.mono fun e w' h => ⟨says_is h.1 I4.out, h.2⟩
      cases c4
      · have E : Hid (fnE f = 4) := fnE_rels P1.out P2.out fun h => by have := I4.out.2 (by rw [← EN.out.1]; exact h.2); cases this
        gi_wp2_with (first | (refine ⟨trivial, rfl, ?_⟩; gi_at_call 113; refine (callsIn_wide.2 (CS.out _ R4.out H4.out)).mono ?_; rintro e v5 ⟨rfl, hb5⟩; have Jv5 := Hid.mk0 (HJ.out _ _ Jv4.out hb5); have Av5 := Hid.mk0 (apart_step Av4.out hb5); have H5 := Hid.mk0 (H4.out.later hb5); have R5 := Hid.mk0 (R4.out.later hb5); clear hb5; obtain ⟨fn, tmps, assign, body, hy, hR⟩ := YX.out 4 v5 (by decide) Jv5.out) | (refine ⟨trivial, rfl, ?_⟩; gi_at_call 112; refine (callsIn_wide.2 (CG.out)).mono ?_; rintro e v4 ⟨rfl, hh4, hb4⟩; have Jv4 := Hid.mk0 (HJ.out _ _ Jv3.out hb4); have Av4 := Hid.mk0 (apart_step Av3.out hb4); have H4 := Hid.mk0 hh4; have R4 := Hid.mk0 (R3.out.later hb4); clear hh4 hb4 z3) | (refine ⟨trivial, rfl, ?_⟩; gi_at_call 68; refine (callsIn_wide.2 (need_f _ _)).mono ?_; rintro e wn ⟨rfl, hwn⟩; obtain rfl := hwn.symm))
        refine ⟨rfl, hR.mono ?_⟩
        rintro e W' ⟨rfl, hx⟩
        gi_wp2
        exact bodyPost_ret (results_none rfl _ _ _) rfl ⟨⟨_, rfl⟩, .inr ⟨by rw [E.out]; decide, by rw [E.out]; exact hx⟩⟩
      have P4 : Hid (relsUpto f.code f.rels f.rels.length ∧ resolvedUpto f.code f.rels f.code.length) := ⟨P3.out, by rw [EN.out.1]; exact I4.out.1 (by first | rfl | trivial)⟩
      gi_wp2_with (first | (refine ⟨trivial, rfl, ?_⟩; gi_at_call 113; refine (callsIn_wide.2 (CS.out _ R4.out H4.out)).mono ?_; rintro e v5 ⟨rfl, hb5⟩; have Jv5 := Hid.mk0 (HJ.out _ _ Jv4.out hb5); have Av5 := Hid.mk0 (apart_step Av4.out hb5); have H5 := Hid.mk0 (H4.out.later hb5); have R5 := Hid.mk0 (R4.out.later hb5); clear hb5; obtain ⟨fn, tmps, assign, body, hy, hR⟩ := Y0.out v5 Jv5.out) | (refine ⟨trivial, rfl, ?_⟩; gi_at_call 112; refine (callsIn_wide.2 (CG.out)).mono ?_; rintro e v4 ⟨rfl, hh4, hb4⟩; have Jv4 := Hid.mk0 (HJ.out _ _ Jv3.out hb4); have Av4 := Hid.mk0 (apart_step Av3.out hb4); have H4 := Hid.mk0 hh4; have R4 := Hid.mk0 (R3.out.later hb4); clear hh4 hb4 z3) | (refine ⟨trivial, rfl, ?_⟩; gi_at_call 68; refine (callsIn_wide.2 (need_t _ _)).mono ?_; rintro e wn ⟨rfl, hwn⟩; obtain rfl := hwn.symm))
      refine ⟨rfl, hR.mono ?_⟩
      rintro e v6 ⟨rfl, hj, ha⟩
      have Jv6 : Hid (J v6) := hj
      have Av6 : Hid (Apart (Win B W.heap.size) W v6) := apart_next Av5.out ha
      have R6 : Hid (RowAt v6 g n (gF f.code)) := R5.out.apart ha hg.out
      have H6 : Hid (HasAt v6 v3.heap.size n f.rels) := H5.out.apart ha hh.out
      clear hj ha hy hR R4 H4 R5 H5 Av4 Jv4 Av5 Jv5 CG CS R3
      generalize v3.heap.size = hb at H6 hh ⊢
      obtain ⟨c6, I6⟩ := bool_of (insideUpto f.code f.rels n)
      have CI : Hid (Calls Tryz.prog 114 #[.slice (some ⟨g, 0, none⟩) n n, .slice (some ⟨hb, 0, none⟩) n n] v6 fun e w' => e = .returned (.bool c6) ∧ Below v6.heap.size v6 w') := by
        have h := inside_any (l := f.code) (rels := f.rels) g hb (by rw [EN.out.1]; exact R6.out) (by have := EN.out; omega) P2.out (by rw [EN.out.1]; exact H6.out)
        rw [EN.out.1] at h
        exact h.mono fun e w' h => ⟨says_is h.1 I6.out, h.2⟩
      cases c6
      · have E : Hid (fnE f = 7) := fnE_inside P1.out P2.out P4.out fun h => by have := I6.out.2 (by rw [← EN.out.1]; exact h); cases this
        gi_wp2_with (first | (refine ⟨trivial, rfl, ?_⟩; gi_at_call 114; refine (callsIn_wide.2 (CI.out)).mono ?_; rintro e v7 ⟨rfl, hb7⟩; have Jv7 := Hid.mk0 (HJ.out _ _ Jv6.out hb7); have Av7 := Hid.mk0 (apart_step Av6.out hb7); have R7 := Hid.mk0 (R6.out.later hb7); clear hb7; obtain ⟨fn, tmps, assign, body, hy, hR⟩ := YX.out 7 v7 (by decide) Jv7.out) | (refine ⟨trivial, rfl, ?_⟩; gi_at_call 68; refine (callsIn_wide.2 (need_f _ _)).mono ?_; rintro e wn ⟨rfl, hwn⟩; obtain rfl := hwn.symm))
        refine ⟨rfl, hR.mono ?_⟩
        rintro e W' ⟨rfl, hx⟩
        gi_wp2
        exact bodyPost_ret (results_none rfl _ _ _) rfl ⟨⟨_, rfl⟩, .inr ⟨by rw [E.out]; decide, by rw [E.out]; exact hx⟩⟩
      have P6 : Hid (insideUpto f.code f.rels f.code.length) := by unfold Hid; rw [EN.out.1]; exact I6.out.1 (by first | rfl | trivial)
      gi_wp2_with (first | (refine ⟨trivial, rfl, ?_⟩; gi_at_call 114; refine (callsIn_wide.2 (CI.out)).mono ?_; rintro e v7 ⟨rfl, hb7⟩; have Jv7 := Hid.mk0 (HJ.out _ _ Jv6.out hb7); have Av7 := Hid.mk0 (apart_step Av6.out hb7); have R7 := Hid.mk0 (R6.out.later hb7); clear hb7; obtain ⟨fn, tmps, assign, body, hy, hR⟩ := Y0.out v7 Jv7.out) | (refine ⟨trivial, rfl, ?_⟩; gi_at_call 68; refine (callsIn_wide.2 (need_t _ _)).mono ?_; rintro e wn ⟨rfl, hwn⟩; obtain rfl := hwn.symm))
      refine ⟨rfl, hR.mono ?_⟩
      rintro e v8 ⟨rfl, hj, ha⟩
      have Jv8 : Hid (J v8) := hj
      have Av8 : Hid (Apart (Win B W.heap.size) W v8) := apart_next Av7.out ha
      have R8 : Hid (RowAt v8 g n (gF f.code)) := R7.out.apart ha hg.out
      clear hj ha hy hR R6 H6 R7 Av7 Jv7 CI
      obtain ⟨m, rfl⟩ : ∃ m, n = m + 1 := ⟨n - 1, by omega⟩
      have hx : Hid (f.code[m]? = some (gF f.code m)) := gF_get (by rw [EN.out.1]; omega)
      obtain ⟨d0, d1, d2, d3, d4⟩ := R8.out m (by omega)
      have ob := gO_bd (P2.out _ (List.mem_of_getElem? hx.out))
      obtain ⟨K, eK⟩ : ∃ K, K = decide (kindZ (gO (gF f.code m)) ≠ 3 ∧ kindZ (gO (gF f.code m)) ≠ 5) := ⟨_, rfl⟩
      have FL : Hid (∀ W, Calls Tryz.prog 115 #[.agg #[.int .i64 (gO (gF f.code m)), .int .i64 (gA (gF f.code m)), .int .i64 (gB (gF f.code m)), .int .i64 (gC (gF f.code m)), .int .i64 (gI (gF f.code m))]] W fun e w' => e = .returned (.bool K) ∧ Below W.heap.size W w') := fun W => by rw [eK]; exact falls10 _ _ _ _ _ W ob.1 ob.2
      have LK : Hid (lastOk f.code ↔ K = false) := by
        unfold Hid lastOk
        rw [EN.out.1, Nat.add_sub_cancel, hx.out, eK]
        simp only [Option.some.injEq, forall_eq', decide_eq_false_iff_not]
        omega
      clear eK ob
      generalize gO (gF f.code m) = vO at d0 FL
      generalize gA (gF f.code m) = vA at d1 FL
      generalize gB (gF f.code m) = vB at d2 FL
      generalize gC (gF f.code m) = vC at d3 FL
      generalize gI (gF f.code m) = vI at d4 FL
      cases K
      · have E : Hid (fnE f = 0) := fnE_ok P1.out P2.out P4.out P6.out (LK.out.2 rfl)
        gi_wp2_with (first | (refine ⟨trivial, rfl, ?_⟩; gi_at_call 115; refine (callsIn_wide.2 (FL.out _)).mono ?_; rintro e v9 ⟨rfl, hb9⟩; obtain ⟨fn, tmps, assign, body, hy, hR⟩ := Y0.out v9 (HJ.out _ _ Jv8.out hb9)) | (refine ⟨trivial, rfl, ?_⟩; gi_at_call 68; refine (callsIn_wide.2 (need_t _ _)).mono ?_; rintro e wn ⟨rfl, hwn⟩; obtain rfl := hwn.symm))
        refine ⟨rfl, hR.mono ?_⟩
        rintro e W' ⟨rfl, hj, ha⟩
        gi_wp2
        go_end0
        exact ⟨⟨_, rfl⟩, .inl ⟨E.out, hj⟩⟩
      · have E : Hid (fnE f = 4) := fnE_last P1.out P2.out P4.out P6.out fun h => by have := LK.out.1 h; cases this
        gi_wp2_with (first | (refine ⟨trivial, rfl, ?_⟩; gi_at_call 115; refine (callsIn_wide.2 (FL.out _)).mono ?_; rintro e v9 ⟨rfl, hb9⟩; obtain ⟨fn, tmps, assign, body, hy, hR⟩ := YX.out 4 v9 (by decide) (HJ.out _ _ Jv8.out hb9)) | (refine ⟨trivial, rfl, ?_⟩; gi_at_call 68; refine (callsIn_wide.2 (need_f _ _)).mono ?_; rintro e wn ⟨rfl, hwn⟩; obtain rfl := hwn.symm))
        refine ⟨rfl, hR.mono ?_⟩
        rintro e W' ⟨rfl, hx⟩
        gi_wp2
        go_end0
        exact ⟨⟨_, rfl⟩, .inr ⟨by rw [E.out]; decide, by rw [E.out]; exact hx⟩⟩
open Go.ChangeShapes Go.WideShapes Go.ChangeAt Go.RowKit Go.Shelf
set_option linter.unusedVariables false
set_option linter.unusedSimpArgs false
set_option maxRecDepth 100000 in
theorem offun_any (xn : ByteArray) (xb : Int) (vc vr : Value) (h1 : ∃ a n c, vc = .slice a n c) (h2 : ∃ a n c, vr = .slice a n c) (w : World) :
    Calls Tryz.prog 84 #[.agg #[.string xn, .int .i64 xb, vc, vr]] w fun e w' => e = .returned (.func (.func 109) #[] #[.pointer (some ⟨w.heap.size, 0, none⟩)]) ∧ w' = w.alloc (.cells #[.string xn, .int .i64 xb, vc, vr] 50) := by
  obtain ⟨a, n, c, rfl⟩ := h1
  obtain ⟨b, m, d, rfl⟩ := h2
  go_enter Tryz.func84, Tryz.ntmps84
  go_wp2
  go_ret
  exact ⟨rfl, rfl⟩
set_option maxRecDepth 100000 in
set_option maxHeartbeats 1000000 in
theorem fun_any {A : Nat → Prop} {w : World} {u : Value} {f : FuncM} (h : FuncV A w u f) (hm : f.code.length ≤ 5000) (hrm : f.rels.length ≤ 100000) (hT : Tab w) :
    Calls Tryz.prog 66 #[u] w fun e w' => e = .returned (.int .i64 (fnE f)) ∧ Below w.heap.size w w' := by
  obtain ⟨vc, vr, rfl, hw, hr, -⟩ := h
  have hw' := hw
  have hr' := hr
  obtain ⟨ca, cc, rfl, -, -, -⟩ := LstA.open hw'.1
  obtain ⟨ra, rc, rfl, -, -, -⟩ := LstA.open hr'
  have OF : Hid (∀ W, Calls Tryz.prog 84 #[.agg #[.string f.name, .int .i64 f.bind, .slice ca f.code.length cc, .slice ra f.rels.length rc]] W fun e w' => e = .returned (.func (.func 109) #[] #[.pointer (some ⟨W.heap.size, 0, none⟩)]) ∧ w' = W.alloc (.cells #[.string f.name, .int .i64 f.bind, .slice ca f.code.length cc, .slice ra f.rels.length rc] 50)) := fun W => offun_any _ _ _ _ ⟨_, _, _, rfl⟩ ⟨_, _, _, rfl⟩ W
  have eg : ∀ args w, (callFunc 109 args).run Tryz.prog w = .ok (.enter 109 args) w := enters_of Tryz.func109 (by kernel_rfl) rfl
  have FI : Hid (∀ W, Below w.heap.size w W → Calls Tryz.prog 55 #[.func (.func 109) #[] #[.pointer (some ⟨W.heap.size, 0, none⟩)]] (W.alloc (.cells #[.string f.name, .int .i64 f.bind, .slice ca f.code.length cc, .slice ra f.rels.length rc] 50)) fun e w' => e = .returned (.int .i64 (fnE f)) ∧ Below W.heap.size W w') := fun W hW => by
    refine (first_told eg (tells_fn (B := (W.alloc (.cells #[.string f.name, .int .i64 f.bind, .slice ca f.code.length cc, .slice ra f.rels.length rc] 50)).heap.size) (fb := W.heap.size) (f := f) (vc := .slice ca f.code.length cc) (vr := .slice ra f.rels.length rc) (by simp) (by simp) ⟨?_, ⟨A, w, by have := hW.size; simp; omega, hw, hr, ?_⟩, ?_⟩ hm hrm)).mono fun e w' h => ⟨h.1, bnext (keep_alloc8 (Below.refl _ _) _) h.2⟩
    · exact (XAt.new W #[.string f.name, .int .i64 f.bind, .slice ca f.code.length cc, .slice ra f.rels.length rc] 50).later (by simp) (keep_alloc8 (Below.refl _ _) _)
    · exact KC.of_below (bnext hW (keep_alloc8 (keep_alloc8 (Below.refl _ _) _) _))
    · exact hT.later (bnext hW (keep_alloc8 (keep_alloc8 (Below.refl _ _) _) _))
  have F1 := FI.out _ (keep_alloc8 (Below.refl _ w) (.cells #[.string f.name, .int .i64 f.bind, .slice ca f.code.length cc, .slice ra f.rels.length rc] 50))
  have O1 := OF.out (w.alloc (.cells #[.string f.name, .int .i64 f.bind, .slice ca f.code.length cc, .slice ra f.rels.length rc] 50))
  rw [World.size_alloc] at F1 O1
  clear FI OF
  generalize fnE f = r at F1 ⊢
  generalize f.code.length = n at *
  generalize f.rels.length = m at *
  have F2 : Hid (Calls Tryz.prog 55 #[.func (.func 109) #[] #[.pointer (some ⟨w.heap.size + 1, 0, none⟩)]] ((w.alloc (.cells #[.string f.name, .int .i64 f.bind, .slice ca n cc, .slice ra m rc] 50)).alloc (.cells #[.string f.name, .int .i64 f.bind, .slice ca n cc, .slice ra m rc] 50)) fun e w' => e = .returned (.int .i64 r) ∧ Below (w.heap.size + 1) (w.alloc (.cells #[.string f.name, .int .i64 f.bind, .slice ca n cc, .slice ra m rc] 50)) w') := F1
  have O2 : Hid (Calls Tryz.prog 84 #[.agg #[.string f.name, .int .i64 f.bind, .slice ca n cc, .slice ra m rc]] (w.alloc (.cells #[.string f.name, .int .i64 f.bind, .slice ca n cc, .slice ra m rc] 50)) fun e w' => e = .returned (.func (.func 109) #[] #[.pointer (some ⟨w.heap.size + 1, 0, none⟩)]) ∧ w' = (w.alloc (.cells #[.string f.name, .int .i64 f.bind, .slice ca n cc, .slice ra m rc] 50)).alloc (.cells #[.string f.name, .int .i64 f.bind, .slice ca n cc, .slice ra m rc] 50)) := O1
  clear hw hr hw' hr' hT F1 O1
  go_enter Tryz.func66, Tryz.ntmps66
  go_wp2_with (first
    | (go_at_call 84; refine O2.out.mono ?_; rintro e w1 ⟨rfl, rfl⟩)
    | (go_at_call 55; refine F2.out.mono ?_; rintro e w2 ⟨rfl, hb2⟩))
  go_ret
  exact ⟨rfl, (keep_alloc8 (Below.refl _ _) _).trans (hb2.mono (by omega))⟩
end Go.Proofs.YteakbpcmafdikaaGreatDoor
