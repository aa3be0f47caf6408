/- May an object be written? As the code has it. -/
import Derived.Test.YteakbpcmafdikaaGreatDoorNmTk
import Derived.Test.YteakbpcmafdikaaGreatDoorObjMay
namespace Go.Proofs.YteakbpcmafdikaaGreatDoor
open Go.ChangeShapes Go.WideShapes Go.ChangeAt Go.RowKit
set_option linter.unusedVariables false
set_option linter.unusedSimpArgs false
theorem bool_of (P : Prop) : ∃ c : Bool, Hid (c = true ↔ P) := by
  by_cases h : P
  · exact ⟨true, iff_yes h⟩
  · exact ⟨false, iff_no h⟩
theorem says_is {e : Ending} {P : Prop} (h : Says e P) {c : Bool} (hc : c = true ↔ P) : e = .returned (.bool c) := by
  obtain ⟨b, rfl, hb⟩ := h
  have : b = c := by rw [Bool.eq_iff_iff, hb, hc]
  rw [this]
/-- The values that hold a relocation, a note, a function, data. -/
def RelV (u : Value) (r : RelM) : Prop := u = .agg #[.int .i64 r.at_, .int .i64 r.kind, .string r.name, .int .i64 r.add] ∧ r.name.size ≤ maxLen
def NoteV (u : Value) (x : NoteM) : Prop := u = .agg #[.string x.name, .int .i64 x.kind] ∧ x.name.size ≤ maxLen
def FuncV (A : Nat → Prop) (w : World) (u : Value) (f : FuncM) : Prop := ∃ vc vr, u = .agg #[.string f.name, .int .i64 f.bind, vc, vr] ∧ IsWords A w vc f.code ∧ IsRels A w vr f.rels ∧ f.name.size ≤ maxLen
def DataV (A : Nat → Prop) (w : World) (u : Value) (d : DataM) : Prop := ∃ vb vr, u = .agg #[.string d.name, .int .i64 d.bind, .int .i64 d.align, .bool d.fixed, .int .i64 d.size, vb, vr] ∧ IsBytes A w vb d.bytes ∧ IsRels A w vr d.rels ∧ d.name.size ≤ maxLen
theorem FuncV.keep {A : Nat → Prop} {w w' : World} {u : Value} {f : FuncM} (h : FuncV A w u f) (hk : Stay A w w') : FuncV A w' u f := by
  obtain ⟨vc, vr, e, h1, h2, h3⟩ := h
  exact ⟨vc, vr, e, h1.keep hk, h2.keep hk, h3⟩
theorem DataV.keep {A : Nat → Prop} {w w' : World} {u : Value} {d : DataM} (h : DataV A w u d) (hk : Stay A w w') : DataV A w' u d := by
  obtain ⟨vc, vr, e, h1, h2, h3⟩ := h
  exact ⟨vc, vr, e, h1.keep hk, h2.keep hk, h3⟩
section
variable {A : Nat → Prop} {w : World} {u v : Value}
set_option maxRecDepth 100000 in
set_option maxHeartbeats 2000000 in
theorem right_rel {r : RelM} (h : RelV u r) : Calls Tryz.prog 123 #[u] w fun e w' => Says e (relOk r) ∧ Below w.heap.size w w' := by
  obtain ⟨rfl, hs⟩ := h
  obtain ⟨xa, xk, xn, xd⟩ := r
  dsimp only at *
  have HS : Hid (xn.size ≤ 9223372036854775807) := by unfold maxLen at hs; unfold Hid; omega
  have UP : Hid (Below w.heap.size w (w.alloc (.cells #[.int .i64 xa, .int .i64 xk, .string xn, .int .i64 xd] 55))) := keep_alloc8 (Below.refl _ _) _
  have X1 : Hid (XAt (w.alloc (.cells #[.int .i64 xa, .int .i64 xk, .string xn, .int .i64 xd] 55)) w.heap.size [.int .i64 xa, .int .i64 xk, .string xn, .int .i64 xd]) := XAt.new _ _ _
  obtain ⟨c1, I1⟩ := bool_of (0 ≤ xa ∧ xa ≤ 65535)
  have C1 : Hid (∀ W, Calls Tryz.prog 124 #[.int .i64 xa, .int .i64 0, .int .i64 65535] W fun e w' => e = .returned (.bool c1) ∧ w' = W) := fun W => by
    have h := within_any xa 0 65535 W
    rwa [show decide (0 ≤ xa ∧ xa ≤ 65535) = c1 from by rw [Bool.eq_iff_iff, I1.out, decide_eq_true_eq]] at h
  obtain ⟨c2, I2⟩ := bool_of (0 ≤ xk ∧ xk ≤ 255)
  have C2 : Hid (∀ W, Calls Tryz.prog 124 #[.int .i64 xk, .int .i64 0, .int .i64 255] W fun e w' => e = .returned (.bool c2) ∧ w' = W) := fun W => by
    have h := within_any xk 0 255 W
    rwa [show decide (0 ≤ xk ∧ xk ≤ 255) = c2 from by rw [Bool.eq_iff_iff, I2.out, decide_eq_true_eq]] at h
  obtain ⟨c3, I3⟩ := bool_of (namedB xn = true)
  have C3 : Hid (∀ W, Calls Tryz.prog 120 #[.string xn] W fun e w' => e = .returned (.bool c3) ∧ Below W.heap.size W w') := fun W => by
    have h := named_any xn W HS.out
    rwa [show namedB xn = c3 from by rw [Bool.eq_iff_iff, I3.out]] at h
  obtain ⟨c4, I4⟩ := bool_of (-1048576 ≤ xd ∧ xd ≤ 1048576)
  have C4 : Hid (∀ W, Calls Tryz.prog 143 #[.int .i64 xd] W fun e w' => e = .returned (.bool c4) ∧ w' = W) := fun W => by
    have h := rightadd_any xd W
    rwa [show decide (-1048576 ≤ xd ∧ xd ≤ 1048576) = c4 from by rw [Bool.eq_iff_iff, I4.out, decide_eq_true_eq]] at h
  go_enter Tryz.func123, Tryz.ntmps123
  go_upto_region 1 with fail
  generalize w.alloc (.cells #[.int .i64 xa, .int .i64 xk, .string xn, .int .i64 xd] 55) = w0 at UP X1 ⊢
  have hX : Hid (w.heap.size < w0.heap.size) := X1.out.lt (by simp)
  have B0 : Hid (Below w0.heap.size w0 w0) := Below.refl _ _
  have y0 := X1.out.1 0 _ rfl
  have y1 := X1.out.1 1 _ rfl
  have y2 := X1.out.1 2 _ rfl
  have y3 := X1.out.1 3 _ rfl
  cases c1
  · go_wp2_with (first
        | (go_at_call 124; refine (C1.out _).mono ?_; rintro e w1 ⟨rfl, rfl⟩; have m1 := Hid.mk0 True.intro))
    go_ret
    exact ⟨⟨_, rfl, iff_no fun h => by have q := I1.out.mpr (h.1); cases q⟩, bnext UP.out B0.out⟩
  cases c2
  · go_wp2_with (first
        | (have q := m1; go_at_call 124; refine (C2.out _).mono ?_; rintro e w2 ⟨rfl, rfl⟩; have m2 := Hid.mk0 True.intro)
        | (go_at_call 124; refine (C1.out _).mono ?_; rintro e w1 ⟨rfl, rfl⟩; have m1 := Hid.mk0 True.intro))
    go_ret
    exact ⟨⟨_, rfl, iff_no fun h => by have q := I2.out.mpr (h.2.1); cases q⟩, bnext UP.out B0.out⟩
  cases c3
  · go_wp2_with (first
        | (go_at_call 120; refine (C3.out _).mono ?_; rintro e w3 ⟨rfl, b3⟩; have B3 := Hid.mk0 (bnext B0.out b3); have y0 := (X1.out.later hX.out B3.out).1 0 _ rfl; have y1 := (X1.out.later hX.out B3.out).1 1 _ rfl; have y2 := (X1.out.later hX.out B3.out).1 2 _ rfl; have y3 := (X1.out.later hX.out B3.out).1 3 _ rfl)
        | (have q := m1; go_at_call 124; refine (C2.out _).mono ?_; rintro e w2 ⟨rfl, rfl⟩; have m2 := Hid.mk0 True.intro)
        | (go_at_call 124; refine (C1.out _).mono ?_; rintro e w1 ⟨rfl, rfl⟩; have m1 := Hid.mk0 True.intro))
    go_ret
    exact ⟨⟨_, rfl, iff_no fun h => by have q := I3.out.mpr (h.2.2.1); cases q⟩, bnext UP.out B3.out⟩
  cases c4
  · go_wp2_with (first
        | (go_at_call 143; refine (C4.out _).mono ?_; rintro e w4 ⟨rfl, rfl⟩; have m4 := Hid.mk0 True.intro)
        | (go_at_call 120; refine (C3.out _).mono ?_; rintro e w3 ⟨rfl, b3⟩; have B3 := Hid.mk0 (bnext B0.out b3); have y0 := (X1.out.later hX.out B3.out).1 0 _ rfl; have y1 := (X1.out.later hX.out B3.out).1 1 _ rfl; have y2 := (X1.out.later hX.out B3.out).1 2 _ rfl; have y3 := (X1.out.later hX.out B3.out).1 3 _ rfl)
        | (have q := m1; go_at_call 124; refine (C2.out _).mono ?_; rintro e w2 ⟨rfl, rfl⟩; have m2 := Hid.mk0 True.intro)
        | (go_at_call 124; refine (C1.out _).mono ?_; rintro e w1 ⟨rfl, rfl⟩; have m1 := Hid.mk0 True.intro))
    go_ret
    exact ⟨⟨_, rfl, iff_no fun h => by have q := I4.out.mpr (h.2.2.2); cases q⟩, bnext UP.out B3.out⟩
  go_wp2_with (first
    | (go_at_call 143; refine (C4.out _).mono ?_; rintro e w4 ⟨rfl, rfl⟩; have m4 := Hid.mk0 True.intro)
    | (go_at_call 120; refine (C3.out _).mono ?_; rintro e w3 ⟨rfl, b3⟩; have B3 := Hid.mk0 (bnext B0.out b3); have y0 := (X1.out.later hX.out B3.out).1 0 _ rfl; have y1 := (X1.out.later hX.out B3.out).1 1 _ rfl; have y2 := (X1.out.later hX.out B3.out).1 2 _ rfl; have y3 := (X1.out.later hX.out B3.out).1 3 _ rfl)
    | (have q := m1; go_at_call 124; refine (C2.out _).mono ?_; rintro e w2 ⟨rfl, rfl⟩; have m2 := Hid.mk0 True.intro)
    | (go_at_call 124; refine (C1.out _).mono ?_; rintro e w1 ⟨rfl, rfl⟩; have m1 := Hid.mk0 True.intro))
  go_ret
  refine ⟨⟨_, rfl, iff_yes ?_⟩, bnext UP.out B3.out⟩
  exact ⟨I1.out.mp (by first | rfl | trivial), I2.out.mp (by first | rfl | trivial), I3.out.mp (by first | rfl | trivial), I4.out.mp (by first | rfl | trivial)⟩
set_option maxRecDepth 100000 in
set_option maxHeartbeats 2000000 in
theorem right_note {x : NoteM} (h : NoteV u x) : Calls Tryz.prog 101 #[u] w fun e w' => Says e (noteOk x) ∧ Below w.heap.size w w' := by
  obtain ⟨rfl, hs⟩ := h
  obtain ⟨xn, xk⟩ := x
  dsimp only at *
  have HS : Hid (xn.size ≤ 9223372036854775807) := by unfold maxLen at hs; unfold Hid; omega
  have UP : Hid (Below w.heap.size w (w.alloc (.cells #[.string xn, .int .i64 xk] 87))) := keep_alloc8 (Below.refl _ _) _
  have X1 : Hid (XAt (w.alloc (.cells #[.string xn, .int .i64 xk] 87)) w.heap.size [.string xn, .int .i64 xk]) := XAt.new _ _ _
  obtain ⟨c1, I1⟩ := bool_of (namedB xn = true)
  have C1 : Hid (∀ W, Calls Tryz.prog 120 #[.string xn] W fun e w' => e = .returned (.bool c1) ∧ Below W.heap.size W w') := fun W => by
    have h := named_any xn W HS.out
    rwa [show namedB xn = c1 from by rw [Bool.eq_iff_iff, I1.out]] at h
  obtain ⟨c2, I2⟩ := bool_of (0 ≤ xk ∧ xk ≤ 255)
  have C2 : Hid (∀ W, Calls Tryz.prog 124 #[.int .i64 xk, .int .i64 0, .int .i64 255] W fun e w' => e = .returned (.bool c2) ∧ w' = W) := fun W => by
    have h := within_any xk 0 255 W
    rwa [show decide (0 ≤ xk ∧ xk ≤ 255) = c2 from by rw [Bool.eq_iff_iff, I2.out, decide_eq_true_eq]] at h
  go_enter Tryz.func101, Tryz.ntmps101
  go_upto_region 1 with fail
  generalize w.alloc (.cells #[.string xn, .int .i64 xk] 87) = w0 at UP X1 ⊢
  have hX : Hid (w.heap.size < w0.heap.size) := X1.out.lt (by simp)
  have B0 : Hid (Below w0.heap.size w0 w0) := Below.refl _ _
  have y0 := X1.out.1 0 _ rfl
  have y1 := X1.out.1 1 _ rfl
  cases c1
  · go_wp2_with (first
        | (go_at_call 120; refine (C1.out _).mono ?_; rintro e w1 ⟨rfl, b1⟩; have B1 := Hid.mk0 (bnext B0.out b1); have y0 := (X1.out.later hX.out B1.out).1 0 _ rfl; have y1 := (X1.out.later hX.out B1.out).1 1 _ rfl))
    go_ret
    exact ⟨⟨_, rfl, iff_no fun h => by have q := I1.out.mpr (h.1); cases q⟩, bnext UP.out B1.out⟩
  cases c2
  · go_wp2_with (first
        | (go_at_call 124; refine (C2.out _).mono ?_; rintro e w2 ⟨rfl, rfl⟩; have m2 := Hid.mk0 True.intro)
        | (go_at_call 120; refine (C1.out _).mono ?_; rintro e w1 ⟨rfl, b1⟩; have B1 := Hid.mk0 (bnext B0.out b1); have y0 := (X1.out.later hX.out B1.out).1 0 _ rfl; have y1 := (X1.out.later hX.out B1.out).1 1 _ rfl))
    go_ret
    exact ⟨⟨_, rfl, iff_no fun h => by have q := I2.out.mpr (h.2); cases q⟩, bnext UP.out B1.out⟩
  go_wp2_with (first
    | (go_at_call 124; refine (C2.out _).mono ?_; rintro e w2 ⟨rfl, rfl⟩; have m2 := Hid.mk0 True.intro)
    | (go_at_call 120; refine (C1.out _).mono ?_; rintro e w1 ⟨rfl, b1⟩; have B1 := Hid.mk0 (bnext B0.out b1); have y0 := (X1.out.later hX.out B1.out).1 0 _ rfl; have y1 := (X1.out.later hX.out B1.out).1 1 _ rfl))
  go_ret
  refine ⟨⟨_, rfl, iff_yes ?_⟩, bnext UP.out B1.out⟩
  exact ⟨I1.out.mp (by first | rfl | trivial), I2.out.mp (by first | rfl | trivial)⟩
set_option maxRecDepth 100000 in
set_option maxHeartbeats 2000000 in
theorem few_rels {l : List RelM} (h : IsRels A w v l) :
    Calls Tryz.prog 122 #[v, .func (.func 123) #[] #[]] w fun e w' => Says e (l.length ≤ 64 ∧ ∀ x ∈ l, relOk x) ∧ Below w.heap.size w w' := by
  obtain ⟨a, c, rfl, lm, -, lx⟩ := LstA.open h
  obtain ⟨n, en⟩ : ∃ n, l.length = n := ⟨_, rfl⟩
  rw [en] at lm lx ⊢
  have LX : Hid (∀ k, k < n → ∃ b off x, a = some ⟨b, off, none⟩ ∧ A b ∧ l[k]? = some x ∧ RelAt w b (off + k * 4) x) := lx
  have HN : Hid (l.length = n) := en
  have hn : (n : Int) ≤ 9223372036854775807 := by unfold maxLen at lm; omega
  clear h lx en lm
  by_cases h64 : n ≤ 64
  rotate_left
  · have g64 : (64 : Int) < n := by omega
    go_enter Tryz.func122, Tryz.ntmps122
    go_wp2
    go_ret
    exact ⟨⟨_, rfl, iff_no fun e => h64 e.1⟩, Below.refl _ _⟩
  have g64 : (n : Int) ≤ 64 := by omega
  have H64 : Hid (n ≤ 64) := h64
  clear h64
  go_enter Tryz.func122, Tryz.ntmps122
  go_wp2
  go_loopw [12] (fun i wr => ∃ k : Nat, k ≤ n ∧ i = .int .i64 k ∧ (∀ j y, j < k → l[j]? = some y → relOk y) ∧ Below w.heap.size w wr) (fun i _ => n - (intOf i).toNat)
  case atStart => exact ⟨0, Nat.zero_le _, rfl, (fun j y hj => by omega), Below.refl _ _⟩
  case round =>
    obtain ⟨k, hk, rfl, hs, hbel⟩ := hrel
    have HB : Hid (Below w.heap.size w wr) := hbel
    have HS : Hid (∀ j y, j < k → l[j]? = some y → relOk y) := hs
    clear hbel hs
    by_cases hlt : k < n
    · have hlt' : (k : Int) < n := by omega
      obtain ⟨q, off, ⟨xa, xk, xn, xd⟩, rfl, -, hx, x0, x1, x2, x3, hsz⟩ := LX.out k hlt
      dsimp only at x0 x1 x2 x3 hsz
      have HX : Hid (l[k]? = some ⟨xa, xk, xn, xd⟩) := hx
      have RT : Hid (∀ W, Below wr.heap.size wr W → Calls Tryz.prog 123 #[.agg #[.int .i64 xa, .int .i64 xk, .string xn, .int .i64 xd]] W fun e w' => Says e (relOk ⟨xa, xk, xn, xd⟩) ∧ Below W.heap.size W w') := fun W hW => right_rel ⟨rfl, hsz⟩
      replace x0 := cell_any x0 HB.out
      replace x1 := cell_any x1 HB.out
      replace x2 := cell_any x2 HB.out
      replace x3 := cell_any x3 HB.out
      clear hx
      go_upto_region 6 with fail
      have B2 : Hid (Below wr.heap.size wr (wr.alloc (.cells #[.int .i64 xa, .int .i64 xk, .string xn, .int .i64 xd] 55))) := keep_alloc8 (Below.refl _ _) _
      have X3 : Hid (XAt (wr.alloc (.cells #[.int .i64 xa, .int .i64 xk, .string xn, .int .i64 xd] 55)) wr.heap.size [.int .i64 xa, .int .i64 xk, .string xn, .int .i64 xd]) := XAt.new _ _ _
      generalize wr.alloc (.cells #[.int .i64 xa, .int .i64 xk, .string xn, .int .i64 xd] 55) = w2 at B2 X3 ⊢
      clear x0 x1 x2 x3
      have x0 := X3.out.1 0 _ rfl
      have x1 := X3.out.1 1 _ rfl
      have x2 := X3.out.1 2 _ rfl
      have x3 := X3.out.1 3 _ rfl
      by_cases ok : relOk ⟨xa, xk, xn, xd⟩
      · have OK := Hid.mk0 ok
        clear ok
        go_wp2_with (go_at_call 123; refine (RT.out _ B2.out).mono ?_; rintro e w3 ⟨hsay, b3⟩; obtain rfl := hsay.yes' OK.out; clear hsay)
        go_roundw
        case rel => exact ⟨k + 1, by omega, by go_num, upto_next HS.out HX.out OK.out, bnext HB.out (bnext B2.out b3)⟩
        case measure => simp [intOf]; omega
      · have OK := Hid.mk0 ok
        clear ok
        go_wp2_with (go_at_call 123; refine (RT.out _ B2.out).mono ?_; rintro e w3 ⟨hsay, b3⟩; obtain rfl := hsay.no' OK.out; clear hsay)
        go_ret
        exact ⟨⟨_, rfl, iff_no fun e => not_all HX.out OK.out e.2⟩, bnext HB.out (bnext B2.out b3)⟩
    · obtain rfl : k = n := by omega
      go_wp2
      go_ret
      exact ⟨⟨_, rfl, iff_yes ⟨H64.out, upto_all (by rw [HN.out]; exact HS.out)⟩⟩, HB.out⟩
set_option maxRecDepth 100000 in
set_option maxHeartbeats 2000000 in
theorem few_notes {l : List NoteM} (h : IsNotes A w v l) :
    Calls Tryz.prog 100 #[v, .func (.func 101) #[] #[]] w fun e w' => Says e (l.length ≤ 64 ∧ ∀ x ∈ l, noteOk x) ∧ Below w.heap.size w w' := by
  obtain ⟨a, c, rfl, lm, -, lx⟩ := LstA.open h
  obtain ⟨n, en⟩ : ∃ n, l.length = n := ⟨_, rfl⟩
  rw [en] at lm lx ⊢
  have LX : Hid (∀ k, k < n → ∃ b off x, a = some ⟨b, off, none⟩ ∧ A b ∧ l[k]? = some x ∧ NoteAt w b (off + k * 2) x) := lx
  have HN : Hid (l.length = n) := en
  have hn : (n : Int) ≤ 9223372036854775807 := by unfold maxLen at lm; omega
  clear h lx en lm
  by_cases h64 : n ≤ 64
  rotate_left
  · have g64 : (64 : Int) < n := by omega
    go_enter Tryz.func100, Tryz.ntmps100
    go_wp2
    go_ret
    exact ⟨⟨_, rfl, iff_no fun e => h64 e.1⟩, Below.refl _ _⟩
  have g64 : (n : Int) ≤ 64 := by omega
  have H64 : Hid (n ≤ 64) := h64
  clear h64
  go_enter Tryz.func100, Tryz.ntmps100
  go_wp2
  go_loopw [12] (fun i wr => ∃ k : Nat, k ≤ n ∧ i = .int .i64 k ∧ (∀ j y, j < k → l[j]? = some y → noteOk y) ∧ Below w.heap.size w wr) (fun i _ => n - (intOf i).toNat)
  case atStart => exact ⟨0, Nat.zero_le _, rfl, (fun j y hj => by omega), Below.refl _ _⟩
  case round =>
    obtain ⟨k, hk, rfl, hs, hbel⟩ := hrel
    have HB : Hid (Below w.heap.size w wr) := hbel
    have HS : Hid (∀ j y, j < k → l[j]? = some y → noteOk y) := hs
    clear hbel hs
    by_cases hlt : k < n
    · have hlt' : (k : Int) < n := by omega
      obtain ⟨q, off, ⟨xn, xk⟩, rfl, -, hx, x0, x1, hsz⟩ := LX.out k hlt
      dsimp only at x0 x1 hsz
      have HX : Hid (l[k]? = some ⟨xn, xk⟩) := hx
      have RT : Hid (∀ W, Below wr.heap.size wr W → Calls Tryz.prog 101 #[.agg #[.string xn, .int .i64 xk]] W fun e w' => Says e (noteOk ⟨xn, xk⟩) ∧ Below W.heap.size W w') := fun W hW => right_note ⟨rfl, hsz⟩
      replace x0 := cell_any x0 HB.out
      replace x1 := cell_any x1 HB.out
      clear hx
      go_upto_region 6 with fail
      have B2 : Hid (Below wr.heap.size wr (wr.alloc (.cells #[.string xn, .int .i64 xk] 87))) := keep_alloc8 (Below.refl _ _) _
      have X3 : Hid (XAt (wr.alloc (.cells #[.string xn, .int .i64 xk] 87)) wr.heap.size [.string xn, .int .i64 xk]) := XAt.new _ _ _
      generalize wr.alloc (.cells #[.string xn, .int .i64 xk] 87) = w2 at B2 X3 ⊢
      clear x0 x1
      have x0 := X3.out.1 0 _ rfl
      have x1 := X3.out.1 1 _ rfl
      by_cases ok : noteOk ⟨xn, xk⟩
      · have OK := Hid.mk0 ok
        clear ok
        go_wp2_with (go_at_call 101; refine (RT.out _ B2.out).mono ?_; rintro e w3 ⟨hsay, b3⟩; obtain rfl := hsay.yes' OK.out; clear hsay)
        go_roundw
        case rel => exact ⟨k + 1, by omega, by go_num, upto_next HS.out HX.out OK.out, bnext HB.out (bnext B2.out b3)⟩
        case measure => simp [intOf]; omega
      · have OK := Hid.mk0 ok
        clear ok
        go_wp2_with (go_at_call 101; refine (RT.out _ B2.out).mono ?_; rintro e w3 ⟨hsay, b3⟩; obtain rfl := hsay.no' OK.out; clear hsay)
        go_ret
        exact ⟨⟨_, rfl, iff_no fun e => not_all HX.out OK.out e.2⟩, bnext HB.out (bnext B2.out b3)⟩
    · obtain rfl : k = n := by omega
      go_wp2
      go_ret
      exact ⟨⟨_, rfl, iff_yes ⟨H64.out, upto_all (by rw [HN.out]; exact HS.out)⟩⟩, HB.out⟩
set_option maxRecDepth 100000 in
set_option maxHeartbeats 2000000 in
theorem right_func {f : FuncM} (h : FuncV A w u f) : Calls Tryz.prog 97 #[u] w fun e w' => Says e (funcOk f) ∧ Below w.heap.size w w' := by
  obtain ⟨vc, vr, rfl, hc, hr, hs⟩ := h
  obtain ⟨xn, xb, xc, xr⟩ := f
  dsimp only at *
  have HS : Hid (xn.size ≤ 9223372036854775807) := by unfold maxLen at hs; unfold Hid; omega
  have HC := Hid.mk0 hc
  have HR := Hid.mk0 hr
  obtain ⟨ca, cc, rfl, -, -, -⟩ := LstA.open (id hc.1)
  obtain ⟨ra, rc, rfl, -, -, -⟩ := LstA.open (id hr)
  clear hc hr
  have UP : Hid (Below w.heap.size w (w.alloc (.cells #[.string xn, .int .i64 xb, .slice ca xc.length cc, .slice ra xr.length rc] 50))) := keep_alloc8 (Below.refl _ _) _
  have X1 : Hid (XAt (w.alloc (.cells #[.string xn, .int .i64 xb, .slice ca xc.length cc, .slice ra xr.length rc] 50)) w.heap.size [.string xn, .int .i64 xb, .slice ca xc.length cc, .slice ra xr.length rc]) := XAt.new _ _ _
  obtain ⟨c1, I1⟩ := bool_of (namedB xn = true)
  have C1 : Hid (∀ W, Calls Tryz.prog 120 #[.string xn] W fun e w' => e = .returned (.bool c1) ∧ Below W.heap.size W w') := fun W => by
    have h := named_any xn W HS.out
    rwa [show namedB xn = c1 from by rw [Bool.eq_iff_iff, I1.out]] at h
  obtain ⟨c2, I2⟩ := bool_of (1 ≤ xb ∧ xb ≤ 255)
  have C2 : Hid (∀ W, Calls Tryz.prog 121 #[.int .i64 xb] W fun e w' => e = .returned (.bool c2) ∧ w' = W) := fun W => by
    have h := rightbind_any xb W
    rwa [show decide (1 ≤ xb ∧ xb ≤ 255) = c2 from by rw [Bool.eq_iff_iff, I2.out, decide_eq_true_eq]] at h
  obtain ⟨c4, I4⟩ := bool_of (xr.length ≤ 64 ∧ ∀ r ∈ xr, relOk r)
  have C4 : Hid (∀ W, Below w.heap.size w W → Calls Tryz.prog 122 #[.slice ra xr.length rc, .func (.func 123) #[] #[]] W fun e w' => e = .returned (.bool c4) ∧ Below W.heap.size W w') := fun W hW => (few_rels (HR.out.keep (Stay.of_below hW))).mono fun e w' h => ⟨says_is h.1 I4.out, h.2⟩
  go_enter Tryz.func97, Tryz.ntmps97
  go_upto_region 1 with fail
  generalize w.alloc (.cells #[.string xn, .int .i64 xb, .slice ca xc.length cc, .slice ra xr.length rc] 50) = w0 at UP X1 ⊢
  have hX : Hid (w.heap.size < w0.heap.size) := X1.out.lt (by simp)
  have B0 : Hid (Below w0.heap.size w0 w0) := Below.refl _ _
  have y0 := X1.out.1 0 _ rfl
  have y1 := X1.out.1 1 _ rfl
  have y2 := X1.out.1 2 _ rfl
  have y3 := X1.out.1 3 _ rfl
  cases c1
  · go_wp2_with (first
        | (go_at_call 120; refine (C1.out _).mono ?_; rintro e w1 ⟨rfl, b1⟩; have B1 := Hid.mk0 (bnext B0.out b1); have y0 := (X1.out.later hX.out B1.out).1 0 _ rfl; have y1 := (X1.out.later hX.out B1.out).1 1 _ rfl; have y2 := (X1.out.later hX.out B1.out).1 2 _ rfl; have y3 := (X1.out.later hX.out B1.out).1 3 _ rfl))
    go_ret
    exact ⟨⟨_, rfl, iff_no fun h => by have q := I1.out.mpr (h.1); cases q⟩, bnext UP.out B1.out⟩
  cases c2
  · go_wp2_with (first
        | (go_at_call 121; refine (C2.out _).mono ?_; rintro e w2 ⟨rfl, rfl⟩; have m2 := Hid.mk0 True.intro)
        | (go_at_call 120; refine (C1.out _).mono ?_; rintro e w1 ⟨rfl, b1⟩; have B1 := Hid.mk0 (bnext B0.out b1); have y0 := (X1.out.later hX.out B1.out).1 0 _ rfl; have y1 := (X1.out.later hX.out B1.out).1 1 _ rfl; have y2 := (X1.out.later hX.out B1.out).1 2 _ rfl; have y3 := (X1.out.later hX.out B1.out).1 3 _ rfl))
    go_ret
    exact ⟨⟨_, rfl, iff_no fun h => by have q := I2.out.mpr (h.2.1); cases q⟩, bnext UP.out B1.out⟩
  by_cases q3 : xc.length ≤ 2000
  rotate_left
  · have f3 : decide ((xc.length : Int) ≤ 2000) = false := decide_eq_false (by omega)
    have g3 : (2000 : Int) < xc.length := by omega
    go_wp2_with (first
        | (go_at_call 121; refine (C2.out _).mono ?_; rintro e w2 ⟨rfl, rfl⟩; have m2 := Hid.mk0 True.intro)
        | (go_at_call 120; refine (C1.out _).mono ?_; rintro e w1 ⟨rfl, b1⟩; have B1 := Hid.mk0 (bnext B0.out b1); have y0 := (X1.out.later hX.out B1.out).1 0 _ rfl; have y1 := (X1.out.later hX.out B1.out).1 1 _ rfl; have y2 := (X1.out.later hX.out B1.out).1 2 _ rfl; have y3 := (X1.out.later hX.out B1.out).1 3 _ rfl))
    go_ret
    exact ⟨⟨_, rfl, iff_no fun h => q3 (h.2.2.1.1)⟩, bnext UP.out B1.out⟩
  have g3 : (xc.length : Int) ≤ 2000 := by omega
  cases c4
  · go_wp2_with (first
        | (go_at_call 122; refine (C4.out _ (bnext UP.out B1.out)).mono ?_; rintro e w4 ⟨rfl, b4⟩; have B4 := Hid.mk0 (bnext B1.out b4); have y0 := (X1.out.later hX.out B4.out).1 0 _ rfl; have y1 := (X1.out.later hX.out B4.out).1 1 _ rfl; have y2 := (X1.out.later hX.out B4.out).1 2 _ rfl; have y3 := (X1.out.later hX.out B4.out).1 3 _ rfl)
        | (go_at_call 121; refine (C2.out _).mono ?_; rintro e w2 ⟨rfl, rfl⟩; have m2 := Hid.mk0 True.intro)
        | (go_at_call 120; refine (C1.out _).mono ?_; rintro e w1 ⟨rfl, b1⟩; have B1 := Hid.mk0 (bnext B0.out b1); have y0 := (X1.out.later hX.out B1.out).1 0 _ rfl; have y1 := (X1.out.later hX.out B1.out).1 1 _ rfl; have y2 := (X1.out.later hX.out B1.out).1 2 _ rfl; have y3 := (X1.out.later hX.out B1.out).1 3 _ rfl))
    go_ret
    exact ⟨⟨_, rfl, iff_no fun h => by have q := I4.out.mpr (h.2.2.2); cases q⟩, bnext UP.out B4.out⟩
  go_wp2_with (first
    | (go_at_call 122; refine (C4.out _ (bnext UP.out B1.out)).mono ?_; rintro e w4 ⟨rfl, b4⟩; have B4 := Hid.mk0 (bnext B1.out b4); have y0 := (X1.out.later hX.out B4.out).1 0 _ rfl; have y1 := (X1.out.later hX.out B4.out).1 1 _ rfl; have y2 := (X1.out.later hX.out B4.out).1 2 _ rfl; have y3 := (X1.out.later hX.out B4.out).1 3 _ rfl)
    | (go_at_call 121; refine (C2.out _).mono ?_; rintro e w2 ⟨rfl, rfl⟩; have m2 := Hid.mk0 True.intro)
    | (go_at_call 120; refine (C1.out _).mono ?_; rintro e w1 ⟨rfl, b1⟩; have B1 := Hid.mk0 (bnext B0.out b1); have y0 := (X1.out.later hX.out B1.out).1 0 _ rfl; have y1 := (X1.out.later hX.out B1.out).1 1 _ rfl; have y2 := (X1.out.later hX.out B1.out).1 2 _ rfl; have y3 := (X1.out.later hX.out B1.out).1 3 _ rfl))
  go_ret
  refine ⟨⟨_, rfl, iff_yes ?_⟩, bnext UP.out B4.out⟩
  exact ⟨I1.out.mp (by first | rfl | trivial), I2.out.mp (by first | rfl | trivial), ⟨q3, HC.out.2⟩, I4.out.mp (by first | rfl | trivial)⟩
set_option maxRecDepth 100000 in
set_option maxHeartbeats 2000000 in
theorem right_data {d : DataM} (h : DataV A w u d) : Calls Tryz.prog 99 #[u] w fun e w' => Says e (dataOk d) ∧ Below w.heap.size w w' := by
  obtain ⟨vc, vr, rfl, hc, hr, hs⟩ := h
  obtain ⟨xn, xb, xa, xf, xz, xc, xr⟩ := d
  dsimp only at *
  have HS : Hid (xn.size ≤ 9223372036854775807) := by unfold maxLen at hs; unfold Hid; omega
  have HC := Hid.mk0 hc
  have HR := Hid.mk0 hr
  obtain ⟨ca, cc, rfl, -, -, -⟩ := LstA.open (id hc.1)
  obtain ⟨ra, rc, rfl, -, -, -⟩ := LstA.open (id hr)
  clear hc hr
  have UP : Hid (Below w.heap.size w (w.alloc (.cells #[.string xn, .int .i64 xb, .int .i64 xa, .bool xf, .int .i64 xz, .slice ca xc.length cc, .slice ra xr.length rc] 52))) := keep_alloc8 (Below.refl _ _) _
  have X1 : Hid (XAt (w.alloc (.cells #[.string xn, .int .i64 xb, .int .i64 xa, .bool xf, .int .i64 xz, .slice ca xc.length cc, .slice ra xr.length rc] 52)) w.heap.size [.string xn, .int .i64 xb, .int .i64 xa, .bool xf, .int .i64 xz, .slice ca xc.length cc, .slice ra xr.length rc]) := XAt.new _ _ _
  obtain ⟨c1, I1⟩ := bool_of (namedB xn = true)
  have C1 : Hid (∀ W, Calls Tryz.prog 120 #[.string xn] W fun e w' => e = .returned (.bool c1) ∧ Below W.heap.size W w') := fun W => by
    have h := named_any xn W HS.out
    rwa [show namedB xn = c1 from by rw [Bool.eq_iff_iff, I1.out]] at h
  obtain ⟨c2, I2⟩ := bool_of (1 ≤ xb ∧ xb ≤ 255)
  have C2 : Hid (∀ W, Calls Tryz.prog 121 #[.int .i64 xb] W fun e w' => e = .returned (.bool c2) ∧ w' = W) := fun W => by
    have h := rightbind_any xb W
    rwa [show decide (1 ≤ xb ∧ xb ≤ 255) = c2 from by rw [Bool.eq_iff_iff, I2.out, decide_eq_true_eq]] at h
  obtain ⟨c3, I3⟩ := bool_of (0 ≤ xa ∧ xa ≤ 255)
  have C3 : Hid (∀ W, Calls Tryz.prog 124 #[.int .i64 xa, .int .i64 0, .int .i64 255] W fun e w' => e = .returned (.bool c3) ∧ w' = W) := fun W => by
    have h := within_any xa 0 255 W
    rwa [show decide (0 ≤ xa ∧ xa ≤ 255) = c3 from by rw [Bool.eq_iff_iff, I3.out, decide_eq_true_eq]] at h
  obtain ⟨c4, I4⟩ := bool_of (0 ≤ xz ∧ xz ≤ 65535)
  have C4 : Hid (∀ W, Calls Tryz.prog 124 #[.int .i64 xz, .int .i64 0, .int .i64 65535] W fun e w' => e = .returned (.bool c4) ∧ w' = W) := fun W => by
    have h := within_any xz 0 65535 W
    rwa [show decide (0 ≤ xz ∧ xz ≤ 65535) = c4 from by rw [Bool.eq_iff_iff, I4.out, decide_eq_true_eq]] at h
  obtain ⟨c6, I6⟩ := bool_of (xr.length ≤ 64 ∧ ∀ r ∈ xr, relOk r)
  have C6 : Hid (∀ W, Below w.heap.size w W → Calls Tryz.prog 122 #[.slice ra xr.length rc, .func (.func 123) #[] #[]] W fun e w' => e = .returned (.bool c6) ∧ Below W.heap.size W w') := fun W hW => (few_rels (HR.out.keep (Stay.of_below hW))).mono fun e w' h => ⟨says_is h.1 I6.out, h.2⟩
  go_enter Tryz.func99, Tryz.ntmps99
  go_upto_region 1 with fail
  generalize w.alloc (.cells #[.string xn, .int .i64 xb, .int .i64 xa, .bool xf, .int .i64 xz, .slice ca xc.length cc, .slice ra xr.length rc] 52) = w0 at UP X1 ⊢
  have hX : Hid (w.heap.size < w0.heap.size) := X1.out.lt (by simp)
  have B0 : Hid (Below w0.heap.size w0 w0) := Below.refl _ _
  have y0 := X1.out.1 0 _ rfl
  have y1 := X1.out.1 1 _ rfl
  have y2 := X1.out.1 2 _ rfl
  have y3 := X1.out.1 3 _ rfl
  have y4 := X1.out.1 4 _ rfl
  have y5 := X1.out.1 5 _ rfl
  have y6 := X1.out.1 6 _ rfl
  cases c1
  · go_wp2_with (first
        | (go_at_call 120; refine (C1.out _).mono ?_; rintro e w1 ⟨rfl, b1⟩; have B1 := Hid.mk0 (bnext B0.out b1); have y0 := (X1.out.later hX.out B1.out).1 0 _ rfl; have y1 := (X1.out.later hX.out B1.out).1 1 _ rfl; have y2 := (X1.out.later hX.out B1.out).1 2 _ rfl; have y3 := (X1.out.later hX.out B1.out).1 3 _ rfl; have y4 := (X1.out.later hX.out B1.out).1 4 _ rfl; have y5 := (X1.out.later hX.out B1.out).1 5 _ rfl; have y6 := (X1.out.later hX.out B1.out).1 6 _ rfl))
    go_ret
    exact ⟨⟨_, rfl, iff_no fun h => by have q := I1.out.mpr (h.1); cases q⟩, bnext UP.out B1.out⟩
  cases c2
  · go_wp2_with (first
        | (go_at_call 121; refine (C2.out _).mono ?_; rintro e w2 ⟨rfl, rfl⟩; have m2 := Hid.mk0 True.intro)
        | (go_at_call 120; refine (C1.out _).mono ?_; rintro e w1 ⟨rfl, b1⟩; have B1 := Hid.mk0 (bnext B0.out b1); have y0 := (X1.out.later hX.out B1.out).1 0 _ rfl; have y1 := (X1.out.later hX.out B1.out).1 1 _ rfl; have y2 := (X1.out.later hX.out B1.out).1 2 _ rfl; have y3 := (X1.out.later hX.out B1.out).1 3 _ rfl; have y4 := (X1.out.later hX.out B1.out).1 4 _ rfl; have y5 := (X1.out.later hX.out B1.out).1 5 _ rfl; have y6 := (X1.out.later hX.out B1.out).1 6 _ rfl))
    go_ret
    exact ⟨⟨_, rfl, iff_no fun h => by have q := I2.out.mpr (h.2.1); cases q⟩, bnext UP.out B1.out⟩
  cases c3
  · go_wp2_with (first
        | (go_at_call 124; refine (C3.out _).mono ?_; rintro e w3 ⟨rfl, rfl⟩; have m3 := Hid.mk0 True.intro)
        | (go_at_call 121; refine (C2.out _).mono ?_; rintro e w2 ⟨rfl, rfl⟩; have m2 := Hid.mk0 True.intro)
        | (go_at_call 120; refine (C1.out _).mono ?_; rintro e w1 ⟨rfl, b1⟩; have B1 := Hid.mk0 (bnext B0.out b1); have y0 := (X1.out.later hX.out B1.out).1 0 _ rfl; have y1 := (X1.out.later hX.out B1.out).1 1 _ rfl; have y2 := (X1.out.later hX.out B1.out).1 2 _ rfl; have y3 := (X1.out.later hX.out B1.out).1 3 _ rfl; have y4 := (X1.out.later hX.out B1.out).1 4 _ rfl; have y5 := (X1.out.later hX.out B1.out).1 5 _ rfl; have y6 := (X1.out.later hX.out B1.out).1 6 _ rfl))
    go_ret
    exact ⟨⟨_, rfl, iff_no fun h => by have q := I3.out.mpr (h.2.2.1); cases q⟩, bnext UP.out B1.out⟩
  cases c4
  · go_wp2_with (first
        | (have q := m3; go_at_call 124; refine (C4.out _).mono ?_; rintro e w4 ⟨rfl, rfl⟩; have m4 := Hid.mk0 True.intro)
        | (go_at_call 124; refine (C3.out _).mono ?_; rintro e w3 ⟨rfl, rfl⟩; have m3 := Hid.mk0 True.intro)
        | (go_at_call 121; refine (C2.out _).mono ?_; rintro e w2 ⟨rfl, rfl⟩; have m2 := Hid.mk0 True.intro)
        | (go_at_call 120; refine (C1.out _).mono ?_; rintro e w1 ⟨rfl, b1⟩; have B1 := Hid.mk0 (bnext B0.out b1); have y0 := (X1.out.later hX.out B1.out).1 0 _ rfl; have y1 := (X1.out.later hX.out B1.out).1 1 _ rfl; have y2 := (X1.out.later hX.out B1.out).1 2 _ rfl; have y3 := (X1.out.later hX.out B1.out).1 3 _ rfl; have y4 := (X1.out.later hX.out B1.out).1 4 _ rfl; have y5 := (X1.out.later hX.out B1.out).1 5 _ rfl; have y6 := (X1.out.later hX.out B1.out).1 6 _ rfl))
    go_ret
    exact ⟨⟨_, rfl, iff_no fun h => by have q := I4.out.mpr (h.2.2.2.1); cases q⟩, bnext UP.out B1.out⟩
  by_cases q5 : xc.length ≤ 4096
  rotate_left
  · have f5 : decide ((xc.length : Int) ≤ 4096) = false := decide_eq_false (by omega)
    have g5 : (4096 : Int) < xc.length := by omega
    go_wp2_with (first
        | (have q := m3; go_at_call 124; refine (C4.out _).mono ?_; rintro e w4 ⟨rfl, rfl⟩; have m4 := Hid.mk0 True.intro)
        | (go_at_call 124; refine (C3.out _).mono ?_; rintro e w3 ⟨rfl, rfl⟩; have m3 := Hid.mk0 True.intro)
        | (go_at_call 121; refine (C2.out _).mono ?_; rintro e w2 ⟨rfl, rfl⟩; have m2 := Hid.mk0 True.intro)
        | (go_at_call 120; refine (C1.out _).mono ?_; rintro e w1 ⟨rfl, b1⟩; have B1 := Hid.mk0 (bnext B0.out b1); have y0 := (X1.out.later hX.out B1.out).1 0 _ rfl; have y1 := (X1.out.later hX.out B1.out).1 1 _ rfl; have y2 := (X1.out.later hX.out B1.out).1 2 _ rfl; have y3 := (X1.out.later hX.out B1.out).1 3 _ rfl; have y4 := (X1.out.later hX.out B1.out).1 4 _ rfl; have y5 := (X1.out.later hX.out B1.out).1 5 _ rfl; have y6 := (X1.out.later hX.out B1.out).1 6 _ rfl))
    go_ret
    exact ⟨⟨_, rfl, iff_no fun h => q5 (h.2.2.2.2.1.1)⟩, bnext UP.out B1.out⟩
  have g5 : (xc.length : Int) ≤ 4096 := by omega
  cases c6
  · go_wp2_with (first
        | (go_at_call 122; refine (C6.out _ (bnext UP.out B1.out)).mono ?_; rintro e w6 ⟨rfl, b6⟩; have B6 := Hid.mk0 (bnext B1.out b6); have y0 := (X1.out.later hX.out B6.out).1 0 _ rfl; have y1 := (X1.out.later hX.out B6.out).1 1 _ rfl; have y2 := (X1.out.later hX.out B6.out).1 2 _ rfl; have y3 := (X1.out.later hX.out B6.out).1 3 _ rfl; have y4 := (X1.out.later hX.out B6.out).1 4 _ rfl; have y5 := (X1.out.later hX.out B6.out).1 5 _ rfl; have y6 := (X1.out.later hX.out B6.out).1 6 _ rfl)
        | (have q := m3; go_at_call 124; refine (C4.out _).mono ?_; rintro e w4 ⟨rfl, rfl⟩; have m4 := Hid.mk0 True.intro)
        | (go_at_call 124; refine (C3.out _).mono ?_; rintro e w3 ⟨rfl, rfl⟩; have m3 := Hid.mk0 True.intro)
        | (go_at_call 121; refine (C2.out _).mono ?_; rintro e w2 ⟨rfl, rfl⟩; have m2 := Hid.mk0 True.intro)
        | (go_at_call 120; refine (C1.out _).mono ?_; rintro e w1 ⟨rfl, b1⟩; have B1 := Hid.mk0 (bnext B0.out b1); have y0 := (X1.out.later hX.out B1.out).1 0 _ rfl; have y1 := (X1.out.later hX.out B1.out).1 1 _ rfl; have y2 := (X1.out.later hX.out B1.out).1 2 _ rfl; have y3 := (X1.out.later hX.out B1.out).1 3 _ rfl; have y4 := (X1.out.later hX.out B1.out).1 4 _ rfl; have y5 := (X1.out.later hX.out B1.out).1 5 _ rfl; have y6 := (X1.out.later hX.out B1.out).1 6 _ rfl))
    go_ret
    exact ⟨⟨_, rfl, iff_no fun h => by have q := I6.out.mpr (h.2.2.2.2.2); cases q⟩, bnext UP.out B6.out⟩
  go_wp2_with (first
    | (go_at_call 122; refine (C6.out _ (bnext UP.out B1.out)).mono ?_; rintro e w6 ⟨rfl, b6⟩; have B6 := Hid.mk0 (bnext B1.out b6); have y0 := (X1.out.later hX.out B6.out).1 0 _ rfl; have y1 := (X1.out.later hX.out B6.out).1 1 _ rfl; have y2 := (X1.out.later hX.out B6.out).1 2 _ rfl; have y3 := (X1.out.later hX.out B6.out).1 3 _ rfl; have y4 := (X1.out.later hX.out B6.out).1 4 _ rfl; have y5 := (X1.out.later hX.out B6.out).1 5 _ rfl; have y6 := (X1.out.later hX.out B6.out).1 6 _ rfl)
    | (have q := m3; go_at_call 124; refine (C4.out _).mono ?_; rintro e w4 ⟨rfl, rfl⟩; have m4 := Hid.mk0 True.intro)
    | (go_at_call 124; refine (C3.out _).mono ?_; rintro e w3 ⟨rfl, rfl⟩; have m3 := Hid.mk0 True.intro)
    | (go_at_call 121; refine (C2.out _).mono ?_; rintro e w2 ⟨rfl, rfl⟩; have m2 := Hid.mk0 True.intro)
    | (go_at_call 120; refine (C1.out _).mono ?_; rintro e w1 ⟨rfl, b1⟩; have B1 := Hid.mk0 (bnext B0.out b1); have y0 := (X1.out.later hX.out B1.out).1 0 _ rfl; have y1 := (X1.out.later hX.out B1.out).1 1 _ rfl; have y2 := (X1.out.later hX.out B1.out).1 2 _ rfl; have y3 := (X1.out.later hX.out B1.out).1 3 _ rfl; have y4 := (X1.out.later hX.out B1.out).1 4 _ rfl; have y5 := (X1.out.later hX.out B1.out).1 5 _ rfl; have y6 := (X1.out.later hX.out B1.out).1 6 _ rfl))
  go_ret
  refine ⟨⟨_, rfl, iff_yes ?_⟩, bnext UP.out B6.out⟩
  exact ⟨I1.out.mp (by first | rfl | trivial), I2.out.mp (by first | rfl | trivial), I3.out.mp (by first | rfl | trivial), I4.out.mp (by first | rfl | trivial), ⟨q5, HC.out.2⟩, I6.out.mp (by first | rfl | trivial)⟩
set_option maxRecDepth 100000 in
set_option maxHeartbeats 2000000 in
theorem few_funcs {l : List FuncM} (h : IsFuncs A w v l) :
    Calls Tryz.prog 96 #[v, .func (.func 97) #[] #[]] w fun e w' => Says e (l.length ≤ 64 ∧ ∀ x ∈ l, funcOk x) ∧ Below w.heap.size w w' := by
  obtain ⟨a, c, rfl, lm, -, lx⟩ := LstA.open h
  obtain ⟨n, en⟩ : ∃ n, l.length = n := ⟨_, rfl⟩
  rw [en] at lm lx ⊢
  have LX : Hid (∀ k, k < n → ∃ b off x, a = some ⟨b, off, none⟩ ∧ A b ∧ l[k]? = some x ∧ FuncAt A w b (off + k * 4) x) := lx
  have HN : Hid (l.length = n) := en
  have hn : (n : Int) ≤ 9223372036854775807 := by unfold maxLen at lm; omega
  clear h lx en lm
  by_cases h64 : n ≤ 64
  rotate_left
  · have g64 : (64 : Int) < n := by omega
    go_enter Tryz.func96, Tryz.ntmps96
    go_wp2
    go_ret
    exact ⟨⟨_, rfl, iff_no fun e => h64 e.1⟩, Below.refl _ _⟩
  have g64 : (n : Int) ≤ 64 := by omega
  have H64 : Hid (n ≤ 64) := h64
  clear h64
  go_enter Tryz.func96, Tryz.ntmps96
  go_wp2
  go_loopw [12] (fun i wr => ∃ k : Nat, k ≤ n ∧ i = .int .i64 k ∧ (∀ j y, j < k → l[j]? = some y → funcOk y) ∧ Below w.heap.size w wr) (fun i _ => n - (intOf i).toNat)
  case atStart => exact ⟨0, Nat.zero_le _, rfl, (fun j y hj => by omega), Below.refl _ _⟩
  case round =>
    obtain ⟨k, hk, rfl, hs, hbel⟩ := hrel
    have HB : Hid (Below w.heap.size w wr) := hbel
    have HS : Hid (∀ j y, j < k → l[j]? = some y → funcOk y) := hs
    clear hbel hs
    by_cases hlt : k < n
    · have hlt' : (k : Int) < n := by omega
      obtain ⟨q, off, ⟨xn, xb, xc, xr⟩, rfl, -, hx, vc, vr, x0, x1, x2, x3, hc, hr, hsz⟩ := LX.out k hlt
      dsimp only at x0 x1 x2 x3 hc hr hsz
      have HX : Hid (l[k]? = some ⟨xn, xb, xc, xr⟩) := hx
      obtain ⟨ca, cc, rfl, -, -, -⟩ := LstA.open (id hc.1)
      obtain ⟨ra, rc, rfl, -, -, -⟩ := LstA.open (id hr)
      have RT : Hid (∀ W, Below wr.heap.size wr W → Calls Tryz.prog 97 #[.agg #[.string xn, .int .i64 xb, .slice ca xc.length cc, .slice ra xr.length rc]] W fun e w' => Says e (funcOk ⟨xn, xb, xc, xr⟩) ∧ Below W.heap.size W w') := fun W hW => right_func (A := A) ⟨_, _, rfl, (hc.keep (Stay.of_below HB.out)).keep (Stay.of_below hW), (hr.keep (Stay.of_below HB.out)).keep (Stay.of_below hW), hsz⟩
      clear hc hr hsz
      replace x0 := cell_any x0 HB.out
      replace x1 := cell_any x1 HB.out
      replace x2 := cell_any x2 HB.out
      replace x3 := cell_any x3 HB.out
      clear hx
      go_upto_region 6 with fail
      have B2 : Hid (Below wr.heap.size wr (wr.alloc (.cells #[.string xn, .int .i64 xb, .slice ca xc.length cc, .slice ra xr.length rc] 50))) := keep_alloc8 (Below.refl _ _) _
      have X3 : Hid (XAt (wr.alloc (.cells #[.string xn, .int .i64 xb, .slice ca xc.length cc, .slice ra xr.length rc] 50)) wr.heap.size [.string xn, .int .i64 xb, .slice ca xc.length cc, .slice ra xr.length rc]) := XAt.new _ _ _
      generalize wr.alloc (.cells #[.string xn, .int .i64 xb, .slice ca xc.length cc, .slice ra xr.length rc] 50) = w2 at B2 X3 ⊢
      clear x0 x1 x2 x3
      have x0 := X3.out.1 0 _ rfl
      have x1 := X3.out.1 1 _ rfl
      have x2 := X3.out.1 2 _ rfl
      have x3 := X3.out.1 3 _ rfl
      by_cases ok : funcOk ⟨xn, xb, xc, xr⟩
      · have OK := Hid.mk0 ok
        clear ok
        go_wp2_with (go_at_call 97; refine (RT.out _ B2.out).mono ?_; rintro e w3 ⟨hsay, b3⟩; obtain rfl := hsay.yes' OK.out; clear hsay)
        go_roundw
        case rel => exact ⟨k + 1, by omega, by go_num, upto_next HS.out HX.out OK.out, bnext HB.out (bnext B2.out b3)⟩
        case measure => simp [intOf]; omega
      · have OK := Hid.mk0 ok
        clear ok
        go_wp2_with (go_at_call 97; refine (RT.out _ B2.out).mono ?_; rintro e w3 ⟨hsay, b3⟩; obtain rfl := hsay.no' OK.out; clear hsay)
        go_ret
        exact ⟨⟨_, rfl, iff_no fun e => not_all HX.out OK.out e.2⟩, bnext HB.out (bnext B2.out b3)⟩
    · obtain rfl : k = n := by omega
      go_wp2
      go_ret
      exact ⟨⟨_, rfl, iff_yes ⟨H64.out, upto_all (by rw [HN.out]; exact HS.out)⟩⟩, HB.out⟩
set_option maxRecDepth 100000 in
set_option maxHeartbeats 2000000 in
theorem few_datas {l : List DataM} (h : IsDatas A w v l) :
    Calls Tryz.prog 98 #[v, .func (.func 99) #[] #[]] w fun e w' => Says e (l.length ≤ 64 ∧ ∀ x ∈ l, dataOk x) ∧ Below w.heap.size w w' := by
  obtain ⟨a, c, rfl, lm, -, lx⟩ := LstA.open h
  obtain ⟨n, en⟩ : ∃ n, l.length = n := ⟨_, rfl⟩
  rw [en] at lm lx ⊢
  have LX : Hid (∀ k, k < n → ∃ b off x, a = some ⟨b, off, none⟩ ∧ A b ∧ l[k]? = some x ∧ DataAt A w b (off + k * 7) x) := lx
  have HN : Hid (l.length = n) := en
  have hn : (n : Int) ≤ 9223372036854775807 := by unfold maxLen at lm; omega
  clear h lx en lm
  by_cases h64 : n ≤ 64
  rotate_left
  · have g64 : (64 : Int) < n := by omega
    go_enter Tryz.func98, Tryz.ntmps98
    go_wp2
    go_ret
    exact ⟨⟨_, rfl, iff_no fun e => h64 e.1⟩, Below.refl _ _⟩
  have g64 : (n : Int) ≤ 64 := by omega
  have H64 : Hid (n ≤ 64) := h64
  clear h64
  go_enter Tryz.func98, Tryz.ntmps98
  go_wp2
  go_loopw [12] (fun i wr => ∃ k : Nat, k ≤ n ∧ i = .int .i64 k ∧ (∀ j y, j < k → l[j]? = some y → dataOk y) ∧ Below w.heap.size w wr) (fun i _ => n - (intOf i).toNat)
  case atStart => exact ⟨0, Nat.zero_le _, rfl, (fun j y hj => by omega), Below.refl _ _⟩
  case round =>
    obtain ⟨k, hk, rfl, hs, hbel⟩ := hrel
    have HB : Hid (Below w.heap.size w wr) := hbel
    have HS : Hid (∀ j y, j < k → l[j]? = some y → dataOk y) := hs
    clear hbel hs
    by_cases hlt : k < n
    · have hlt' : (k : Int) < n := by omega
      obtain ⟨q, off, ⟨xn, xb, xa, xf, xz, xc, xr⟩, rfl, -, hx, vc, vr, x0, x1, x2, x3, x4, x5, x6, hc, hr, hsz⟩ := LX.out k hlt
      dsimp only at x0 x1 x2 x3 x4 x5 x6 hc hr hsz
      have HX : Hid (l[k]? = some ⟨xn, xb, xa, xf, xz, xc, xr⟩) := hx
      obtain ⟨ca, cc, rfl, -, -, -⟩ := LstA.open (id hc.1)
      obtain ⟨ra, rc, rfl, -, -, -⟩ := LstA.open (id hr)
      have RT : Hid (∀ W, Below wr.heap.size wr W → Calls Tryz.prog 99 #[.agg #[.string xn, .int .i64 xb, .int .i64 xa, .bool xf, .int .i64 xz, .slice ca xc.length cc, .slice ra xr.length rc]] W fun e w' => Says e (dataOk ⟨xn, xb, xa, xf, xz, xc, xr⟩) ∧ Below W.heap.size W w') := fun W hW => right_data (A := A) ⟨_, _, rfl, (hc.keep (Stay.of_below HB.out)).keep (Stay.of_below hW), (hr.keep (Stay.of_below HB.out)).keep (Stay.of_below hW), hsz⟩
      clear hc hr hsz
      replace x0 := cell_any x0 HB.out
      replace x1 := cell_any x1 HB.out
      replace x2 := cell_any x2 HB.out
      replace x3 := cell_any x3 HB.out
      replace x4 := cell_any x4 HB.out
      replace x5 := cell_any x5 HB.out
      replace x6 := cell_any x6 HB.out
      clear hx
      go_upto_region 6 with fail
      have B2 : Hid (Below wr.heap.size wr (wr.alloc (.cells #[.string xn, .int .i64 xb, .int .i64 xa, .bool xf, .int .i64 xz, .slice ca xc.length cc, .slice ra xr.length rc] 52))) := keep_alloc8 (Below.refl _ _) _
      have X3 : Hid (XAt (wr.alloc (.cells #[.string xn, .int .i64 xb, .int .i64 xa, .bool xf, .int .i64 xz, .slice ca xc.length cc, .slice ra xr.length rc] 52)) wr.heap.size [.string xn, .int .i64 xb, .int .i64 xa, .bool xf, .int .i64 xz, .slice ca xc.length cc, .slice ra xr.length rc]) := XAt.new _ _ _
      generalize wr.alloc (.cells #[.string xn, .int .i64 xb, .int .i64 xa, .bool xf, .int .i64 xz, .slice ca xc.length cc, .slice ra xr.length rc] 52) = w2 at B2 X3 ⊢
      clear x0 x1 x2 x3 x4 x5 x6
      have x0 := X3.out.1 0 _ rfl
      have x1 := X3.out.1 1 _ rfl
      have x2 := X3.out.1 2 _ rfl
      have x3 := X3.out.1 3 _ rfl
      have x4 := X3.out.1 4 _ rfl
      have x5 := X3.out.1 5 _ rfl
      have x6 := X3.out.1 6 _ rfl
      by_cases ok : dataOk ⟨xn, xb, xa, xf, xz, xc, xr⟩
      · have OK := Hid.mk0 ok
        clear ok
        go_wp2_with (go_at_call 99; refine (RT.out _ B2.out).mono ?_; rintro e w3 ⟨hsay, b3⟩; obtain rfl := hsay.yes' OK.out; clear hsay)
        go_roundw
        case rel => exact ⟨k + 1, by omega, by go_num, upto_next HS.out HX.out OK.out, bnext HB.out (bnext B2.out b3)⟩
        case measure => simp [intOf]; omega
      · have OK := Hid.mk0 ok
        clear ok
        go_wp2_with (go_at_call 99; refine (RT.out _ B2.out).mono ?_; rintro e w3 ⟨hsay, b3⟩; obtain rfl := hsay.no' OK.out; clear hsay)
        go_ret
        exact ⟨⟨_, rfl, iff_no fun e => not_all HX.out OK.out e.2⟩, bnext HB.out (bnext B2.out b3)⟩
    · obtain rfl : k = n := by omega
      go_wp2
      go_ret
      exact ⟨⟨_, rfl, iff_yes ⟨H64.out, upto_all (by rw [HN.out]; exact HS.out)⟩⟩, HB.out⟩
set_option maxRecDepth 100000 in
set_option maxHeartbeats 2000000 in
theorem oright_any {o : ObjM} (h : IsObj A w u o) : Calls Tryz.prog 77 #[u] w fun e w' => Says e (objOk o) ∧ Below w.heap.size w w' := by
  obtain ⟨vf, vd, vn, rfl, hf, hd, hn⟩ := h
  have HF := Hid.mk0 hf
  have HD := Hid.mk0 hd
  have HN := Hid.mk0 hn
  obtain ⟨fa, fc, rfl, -, -, -⟩ := LstA.open (id hf)
  obtain ⟨da, dc, rfl, -, -, -⟩ := LstA.open (id hd)
  obtain ⟨na, nc, rfl, -, -, -⟩ := LstA.open (id hn)
  clear hf hd hn
  have UP : Hid (Below w.heap.size w (w.alloc (.cells #[.slice fa o.funcs.length fc, .slice da o.datas.length dc, .slice na o.notes.length nc] 46))) := keep_alloc8 (Below.refl _ _) _
  have X1 : Hid (XAt (w.alloc (.cells #[.slice fa o.funcs.length fc, .slice da o.datas.length dc, .slice na o.notes.length nc] 46)) w.heap.size [.slice fa o.funcs.length fc, .slice da o.datas.length dc, .slice na o.notes.length nc]) := XAt.new _ _ _
  obtain ⟨c1, I1⟩ := bool_of (o.funcs.length ≤ 64 ∧ ∀ x ∈ o.funcs, funcOk x)
  have C1 : Hid (∀ W, Below w.heap.size w W → Calls Tryz.prog 96 #[.slice fa o.funcs.length fc, .func (.func 97) #[] #[]] W fun e w' => e = .returned (.bool c1) ∧ Below W.heap.size W w') := fun W hW => (few_funcs (HF.out.keep (Stay.of_below hW))).mono fun e w' h => ⟨says_is h.1 I1.out, h.2⟩
  obtain ⟨c2, I2⟩ := bool_of (o.datas.length ≤ 64 ∧ ∀ x ∈ o.datas, dataOk x)
  have C2 : Hid (∀ W, Below w.heap.size w W → Calls Tryz.prog 98 #[.slice da o.datas.length dc, .func (.func 99) #[] #[]] W fun e w' => e = .returned (.bool c2) ∧ Below W.heap.size W w') := fun W hW => (few_datas (HD.out.keep (Stay.of_below hW))).mono fun e w' h => ⟨says_is h.1 I2.out, h.2⟩
  obtain ⟨c3, I3⟩ := bool_of (o.notes.length ≤ 64 ∧ ∀ x ∈ o.notes, noteOk x)
  have C3 : Hid (∀ W, Below w.heap.size w W → Calls Tryz.prog 100 #[.slice na o.notes.length nc, .func (.func 101) #[] #[]] W fun e w' => e = .returned (.bool c3) ∧ Below W.heap.size W w') := fun W hW => (few_notes (HN.out.keep (Stay.of_below hW))).mono fun e w' h => ⟨says_is h.1 I3.out, h.2⟩
  go_enter Tryz.func77, Tryz.ntmps77
  go_upto_region 1 with fail
  generalize w.alloc (.cells #[.slice fa o.funcs.length fc, .slice da o.datas.length dc, .slice na o.notes.length nc] 46) = w0 at UP X1 ⊢
  have hX : Hid (w.heap.size < w0.heap.size) := X1.out.lt (by simp)
  have B0 : Hid (Below w0.heap.size w0 w0) := Below.refl _ _
  have y0 := X1.out.1 0 _ rfl
  have y1 := X1.out.1 1 _ rfl
  have y2 := X1.out.1 2 _ rfl
  cases c1
  · go_wp2_with (first
        | (go_at_call 96; refine (C1.out _ (bnext UP.out B0.out)).mono ?_; rintro e w1 ⟨rfl, b1⟩; have B1 := Hid.mk0 (bnext B0.out b1); have y0 := (X1.out.later hX.out B1.out).1 0 _ rfl; have y1 := (X1.out.later hX.out B1.out).1 1 _ rfl; have y2 := (X1.out.later hX.out B1.out).1 2 _ rfl))
    go_ret
    exact ⟨⟨_, rfl, iff_no fun h => by have q := I1.out.mpr (h.1); cases q⟩, bnext UP.out B1.out⟩
  cases c2
  · go_wp2_with (first
        | (go_at_call 98; refine (C2.out _ (bnext UP.out B1.out)).mono ?_; rintro e w2 ⟨rfl, b2⟩; have B2 := Hid.mk0 (bnext B1.out b2); have y0 := (X1.out.later hX.out B2.out).1 0 _ rfl; have y1 := (X1.out.later hX.out B2.out).1 1 _ rfl; have y2 := (X1.out.later hX.out B2.out).1 2 _ rfl)
        | (go_at_call 96; refine (C1.out _ (bnext UP.out B0.out)).mono ?_; rintro e w1 ⟨rfl, b1⟩; have B1 := Hid.mk0 (bnext B0.out b1); have y0 := (X1.out.later hX.out B1.out).1 0 _ rfl; have y1 := (X1.out.later hX.out B1.out).1 1 _ rfl; have y2 := (X1.out.later hX.out B1.out).1 2 _ rfl))
    go_ret
    exact ⟨⟨_, rfl, iff_no fun h => by have q := I2.out.mpr (h.2.1); cases q⟩, bnext UP.out B2.out⟩
  cases c3
  · go_wp2_with (first
        | (go_at_call 100; refine (C3.out _ (bnext UP.out B2.out)).mono ?_; rintro e w3 ⟨rfl, b3⟩; have B3 := Hid.mk0 (bnext B2.out b3); have y0 := (X1.out.later hX.out B3.out).1 0 _ rfl; have y1 := (X1.out.later hX.out B3.out).1 1 _ rfl; have y2 := (X1.out.later hX.out B3.out).1 2 _ rfl)
        | (go_at_call 98; refine (C2.out _ (bnext UP.out B1.out)).mono ?_; rintro e w2 ⟨rfl, b2⟩; have B2 := Hid.mk0 (bnext B1.out b2); have y0 := (X1.out.later hX.out B2.out).1 0 _ rfl; have y1 := (X1.out.later hX.out B2.out).1 1 _ rfl; have y2 := (X1.out.later hX.out B2.out).1 2 _ rfl)
        | (go_at_call 96; refine (C1.out _ (bnext UP.out B0.out)).mono ?_; rintro e w1 ⟨rfl, b1⟩; have B1 := Hid.mk0 (bnext B0.out b1); have y0 := (X1.out.later hX.out B1.out).1 0 _ rfl; have y1 := (X1.out.later hX.out B1.out).1 1 _ rfl; have y2 := (X1.out.later hX.out B1.out).1 2 _ rfl))
    go_ret
    exact ⟨⟨_, rfl, iff_no fun h => by have q := I3.out.mpr (h.2.2); cases q⟩, bnext UP.out B3.out⟩
  go_wp2_with (first
    | (go_at_call 100; refine (C3.out _ (bnext UP.out B2.out)).mono ?_; rintro e w3 ⟨rfl, b3⟩; have B3 := Hid.mk0 (bnext B2.out b3); have y0 := (X1.out.later hX.out B3.out).1 0 _ rfl; have y1 := (X1.out.later hX.out B3.out).1 1 _ rfl; have y2 := (X1.out.later hX.out B3.out).1 2 _ rfl)
    | (go_at_call 98; refine (C2.out _ (bnext UP.out B1.out)).mono ?_; rintro e w2 ⟨rfl, b2⟩; have B2 := Hid.mk0 (bnext B1.out b2); have y0 := (X1.out.later hX.out B2.out).1 0 _ rfl; have y1 := (X1.out.later hX.out B2.out).1 1 _ rfl; have y2 := (X1.out.later hX.out B2.out).1 2 _ rfl)
    | (go_at_call 96; refine (C1.out _ (bnext UP.out B0.out)).mono ?_; rintro e w1 ⟨rfl, b1⟩; have B1 := Hid.mk0 (bnext B0.out b1); have y0 := (X1.out.later hX.out B1.out).1 0 _ rfl; have y1 := (X1.out.later hX.out B1.out).1 1 _ rfl; have y2 := (X1.out.later hX.out B1.out).1 2 _ rfl))
  go_ret
  refine ⟨⟨_, rfl, iff_yes ?_⟩, bnext UP.out B3.out⟩
  exact ⟨I1.out.mp (by first | rfl | trivial), I2.out.mp (by first | rfl | trivial), I3.out.mp (by first | rfl | trivial)⟩
end
end Go.Proofs.YteakbpcmafdikaaGreatDoor
