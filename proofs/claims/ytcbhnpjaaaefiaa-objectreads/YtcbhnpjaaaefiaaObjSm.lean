/- Are objects alike? As the code has it. -/
import Derived.Test.YtcbhnpjaaaefiaaObjRt1
import Derived.Test.YtcbhnpjaaaefiaaObjSame2
namespace Go.Proofs.Ytcbhnpjaaaefiaa
open Go.ChangeShapes Go.WideShapes Go.ChangeAt Go.RowKit
set_option linter.unusedVariables false
set_option linter.unusedSimpArgs false
section
variable {A A' : Nat → Prop} {w : World} {u u' v v' : Value}
set_option maxRecDepth 100000 in
set_option maxHeartbeats 1000000 in
theorem eq_words {l m : List Int} (h1 : IsWords A w v l) (h2 : IsWords A' w v' m) :
    Calls Try.prog 75 #[v, v'] w fun e w' => Says e (l = m) ∧ Below w.heap.size w w' := by
  obtain ⟨a, c, rfl, lm, -, lx⟩ := LstA.open h1.1
  obtain ⟨b, d, rfl, mm, -, mx⟩ := LstA.open h2.1
  obtain ⟨n, en⟩ : ∃ n, l.length = n := ⟨_, rfl⟩
  rw [en] at lm lx ⊢
  clear h1 h2
  by_cases hlen : m.length = n
  · rw [hlen] at mm mx ⊢
    have LX : Hid (∀ k, k < n → ∃ b off x, a = some ⟨b, off, none⟩ ∧ A b ∧ l[k]? = some x ∧ NumAt .u32 w b (off + k * 1) x) := lx
    have MX : Hid (∀ k, k < n → ∃ c off x, b = some ⟨c, off, none⟩ ∧ A' c ∧ m[k]? = some x ∧ NumAt .u32 w c (off + k * 1) x) := mx
    have HN : Hid (l.length = n ∧ m.length = n ∧ n ≤ maxLen) := ⟨en, hlen, lm⟩
    have hn : (n : Int) ≤ 9223372036854775807 := by unfold maxLen at lm; omega
    clear lx mx en hlen lm mm
    go_enter Try.func75, Try.ntmps75
    go_wp2
    go_loopw [13] (fun i wr => ∃ k : Nat, k ≤ n ∧ i = .int .i64 k ∧ (∀ j, j < k → l[j]? = m[j]?) ∧ Below w.heap.size w wr) (fun i _ => n - (intOf i).toNat)
    case atStart => exact ⟨0, Nat.zero_le _, rfl, (fun j hj => by omega), Below.refl _ _⟩
    case round =>
      obtain ⟨k, hk, rfl, hs, hbel⟩ := hrel
      have HB : Hid (Below w.heap.size w wr) := hbel
      have HS : Hid (∀ j, j < k → l[j]? = m[j]?) := hs
      clear hbel hs
      by_cases hlt : k < n
      · have hlt' : (k : Int) < n := by omega
        obtain ⟨q, off, x, rfl, -, hx, x0⟩ := LX.out k hlt
        obtain ⟨q', off', y, rfl, -, hy, y0⟩ := MX.out k hlt
        unfold NumAt at x0 y0
        rw [Nat.mul_one] at x0 y0
        have HX : Hid (l[k]? = some x ∧ m[k]? = some y) := ⟨hx, hy⟩
        replace x0 := cell_any x0 HB.out
        replace y0 := cell_any y0 HB.out
        clear hx hy
        by_cases e : x = y
        · skip
          subst e
          go_wp2
          go_quiet (fail)
          go_wp2
          go_roundw
          case rel => exact ⟨k + 1, by omega, by go_num, same_next HS.out HX.out.1 HX.out.2 rfl, below_drewN HB.out _⟩
          case measure => simp [intOf]; omega
        · skip
          have ne : (x != y) = true := by simpa using e
          have E : Hid (¬ x = y) := e
          clear e
          go_wp2
          go_quiet (fail)
          go_wp2
          go_ret
          exact ⟨says_of (iff_no (list_at_ne HX.out.1 HX.out.2 E.out)), below_drewN HB.out _⟩
      · obtain rfl : k = n := by omega
        go_wp2
        go_ret
        exact ⟨says_of (iff_yes (list_upto HN.out.1 HN.out.2.1 HS.out)), HB.out⟩
  · have ne : ((n : Int) != (m.length : Int)) = true := by simp; omega
    have E : Hid (¬ l = m) := list_len_ne (by omega)
    clear lx mx
    go_enter Try.func75, Try.ntmps75
    go_wp2
    go_ret
    exact ⟨says_of (iff_no E.out), Below.refl _ _⟩
set_option maxRecDepth 100000 in
set_option maxHeartbeats 1000000 in
theorem eq_bytes {l m : List Int} (h1 : IsBytes A w v l) (h2 : IsBytes A' w v' m) :
    Calls Try.prog 77 #[v, v'] w fun e w' => Says e (l = m) ∧ Below w.heap.size w w' := by
  obtain ⟨a, c, rfl, lm, -, lx⟩ := LstA.open h1.1
  obtain ⟨b, d, rfl, mm, -, mx⟩ := LstA.open h2.1
  obtain ⟨n, en⟩ : ∃ n, l.length = n := ⟨_, rfl⟩
  rw [en] at lm lx ⊢
  clear h1 h2
  by_cases hlen : m.length = n
  · rw [hlen] at mm mx ⊢
    have LX : Hid (∀ k, k < n → ∃ b off x, a = some ⟨b, off, none⟩ ∧ A b ∧ l[k]? = some x ∧ NumAt .u8 w b (off + k * 1) x) := lx
    have MX : Hid (∀ k, k < n → ∃ c off x, b = some ⟨c, off, none⟩ ∧ A' c ∧ m[k]? = some x ∧ NumAt .u8 w c (off + k * 1) x) := mx
    have HN : Hid (l.length = n ∧ m.length = n ∧ n ≤ maxLen) := ⟨en, hlen, lm⟩
    have hn : (n : Int) ≤ 9223372036854775807 := by unfold maxLen at lm; omega
    clear lx mx en hlen lm mm
    go_enter Try.func77, Try.ntmps77
    go_wp2
    go_loopw [13] (fun i wr => ∃ k : Nat, k ≤ n ∧ i = .int .i64 k ∧ (∀ j, j < k → l[j]? = m[j]?) ∧ Below w.heap.size w wr) (fun i _ => n - (intOf i).toNat)
    case atStart => exact ⟨0, Nat.zero_le _, rfl, (fun j hj => by omega), Below.refl _ _⟩
    case round =>
      obtain ⟨k, hk, rfl, hs, hbel⟩ := hrel
      have HB : Hid (Below w.heap.size w wr) := hbel
      have HS : Hid (∀ j, j < k → l[j]? = m[j]?) := hs
      clear hbel hs
      by_cases hlt : k < n
      · have hlt' : (k : Int) < n := by omega
        obtain ⟨q, off, x, rfl, -, hx, x0⟩ := LX.out k hlt
        obtain ⟨q', off', y, rfl, -, hy, y0⟩ := MX.out k hlt
        unfold NumAt at x0 y0
        rw [Nat.mul_one] at x0 y0
        have HX : Hid (l[k]? = some x ∧ m[k]? = some y) := ⟨hx, hy⟩
        replace x0 := cell_any x0 HB.out
        replace y0 := cell_any y0 HB.out
        clear hx hy
        by_cases e : x = y
        · skip
          subst e
          go_wp2
          go_quiet (fail)
          go_wp2
          go_roundw
          case rel => exact ⟨k + 1, by omega, by go_num, same_next HS.out HX.out.1 HX.out.2 rfl, below_drewN HB.out _⟩
          case measure => simp [intOf]; omega
        · skip
          have ne : (x != y) = true := by simpa using e
          have E : Hid (¬ x = y) := e
          clear e
          go_wp2
          go_quiet (fail)
          go_wp2
          go_ret
          exact ⟨says_of (iff_no (list_at_ne HX.out.1 HX.out.2 E.out)), below_drewN HB.out _⟩
      · obtain rfl : k = n := by omega
        go_wp2
        go_ret
        exact ⟨says_of (iff_yes (list_upto HN.out.1 HN.out.2.1 HS.out)), HB.out⟩
  · have ne : ((n : Int) != (m.length : Int)) = true := by simp; omega
    have E : Hid (¬ l = m) := list_len_ne (by omega)
    clear lx mx
    go_enter Try.func77, Try.ntmps77
    go_wp2
    go_ret
    exact ⟨says_of (iff_no E.out), Below.refl _ _⟩
set_option maxRecDepth 100000 in
set_option maxHeartbeats 1000000 in
theorem eq_rels {l m : List RelM} (h1 : IsRels A w v l) (h2 : IsRels A' w v' m) :
    Calls Try.prog 76 #[v, v'] w fun e w' => Says e (l = m) ∧ Below w.heap.size w w' := by
  obtain ⟨a, c, rfl, lm, -, lx⟩ := LstA.open h1
  obtain ⟨b, d, rfl, mm, -, mx⟩ := LstA.open h2
  obtain ⟨n, en⟩ : ∃ n, l.length = n := ⟨_, rfl⟩
  rw [en] at lm lx ⊢
  clear h1 h2
  by_cases hlen : m.length = n
  · rw [hlen] at mm mx ⊢
    have LX : Hid (∀ k, k < n → ∃ b off x, a = some ⟨b, off, none⟩ ∧ A b ∧ l[k]? = some x ∧ RelAt w b (off + k * 4) x) := lx
    have MX : Hid (∀ k, k < n → ∃ c off x, b = some ⟨c, off, none⟩ ∧ A' c ∧ m[k]? = some x ∧ RelAt w c (off + k * 4) x) := mx
    have HN : Hid (l.length = n ∧ m.length = n ∧ n ≤ maxLen) := ⟨en, hlen, lm⟩
    have hn : (n : Int) ≤ 9223372036854775807 := by unfold maxLen at lm; omega
    clear lx mx en hlen lm mm
    go_enter Try.func76, Try.ntmps76
    go_wp2
    go_loopw [13] (fun i wr => ∃ k : Nat, k ≤ n ∧ i = .int .i64 k ∧ (∀ j, j < k → l[j]? = m[j]?) ∧ Below w.heap.size w wr) (fun i _ => n - (intOf i).toNat)
    case atStart => exact ⟨0, Nat.zero_le _, rfl, (fun j hj => by omega), Below.refl _ _⟩
    case round =>
      obtain ⟨k, hk, rfl, hs, hbel⟩ := hrel
      have HB : Hid (Below w.heap.size w wr) := hbel
      have HS : Hid (∀ j, j < k → l[j]? = m[j]?) := hs
      clear hbel hs
      by_cases hlt : k < n
      · have hlt' : (k : Int) < n := by omega
        obtain ⟨q, off, x, rfl, -, hx, x0, x1, x2, x3, -⟩ := LX.out k hlt
        obtain ⟨q', off', y, rfl, -, hy, y0, y1, y2, y3, -⟩ := MX.out k hlt
        have HX : Hid (l[k]? = some x ∧ m[k]? = some y) := ⟨hx, hy⟩
        replace x0 := cell_any x0 HB.out
        replace x1 := cell_any x1 HB.out
        replace x2 := cell_any x2 HB.out
        replace x3 := cell_any x3 HB.out
        replace y0 := cell_any y0 HB.out
        replace y1 := cell_any y1 HB.out
        replace y2 := cell_any y2 HB.out
        replace y3 := cell_any y3 HB.out
        clear hx hy
        by_cases e : x = y
        · skip
          have ne := neq_rel_is x y false (iff_no (fun h => h e))
          have E : Hid (x = y) := e
          clear e
          go_wp2
          go_quiet (fail)
          go_wp2
          go_roundw
          case rel => exact ⟨k + 1, by omega, by go_num, same_next HS.out HX.out.1 HX.out.2 E.out, below_drewN HB.out _⟩
          case measure => simp [intOf]; omega
        · skip
          have ne := neq_rel_is x y true (iff_yes e)
          have E : Hid (¬ x = y) := e
          clear e
          go_wp2
          go_quiet (fail)
          go_wp2
          go_ret
          exact ⟨says_of (iff_no (list_at_ne HX.out.1 HX.out.2 E.out)), below_drewN HB.out _⟩
      · obtain rfl : k = n := by omega
        go_wp2
        go_ret
        exact ⟨says_of (iff_yes (list_upto HN.out.1 HN.out.2.1 HS.out)), HB.out⟩
  · have ne : ((n : Int) != (m.length : Int)) = true := by simp; omega
    have E : Hid (¬ l = m) := list_len_ne (by omega)
    clear lx mx
    go_enter Try.func76, Try.ntmps76
    go_wp2
    go_ret
    exact ⟨says_of (iff_no E.out), Below.refl _ _⟩
set_option maxRecDepth 100000 in
set_option maxHeartbeats 1000000 in
theorem eq_notes {l m : List NoteM} (h1 : IsNotes A w v l) (h2 : IsNotes A' w v' m) :
    Calls Try.prog 47 #[v, v'] w fun e w' => Says e (l = m) ∧ Below w.heap.size w w' := by
  obtain ⟨a, c, rfl, lm, -, lx⟩ := LstA.open h1
  obtain ⟨b, d, rfl, mm, -, mx⟩ := LstA.open h2
  obtain ⟨n, en⟩ : ∃ n, l.length = n := ⟨_, rfl⟩
  rw [en] at lm lx ⊢
  clear h1 h2
  by_cases hlen : m.length = n
  · rw [hlen] at mm mx ⊢
    have LX : Hid (∀ k, k < n → ∃ b off x, a = some ⟨b, off, none⟩ ∧ A b ∧ l[k]? = some x ∧ NoteAt w b (off + k * 2) x) := lx
    have MX : Hid (∀ k, k < n → ∃ c off x, b = some ⟨c, off, none⟩ ∧ A' c ∧ m[k]? = some x ∧ NoteAt w c (off + k * 2) x) := mx
    have HN : Hid (l.length = n ∧ m.length = n ∧ n ≤ maxLen) := ⟨en, hlen, lm⟩
    have hn : (n : Int) ≤ 9223372036854775807 := by unfold maxLen at lm; omega
    clear lx mx en hlen lm mm
    go_enter Try.func47, Try.ntmps47
    go_wp2
    go_loopw [13] (fun i wr => ∃ k : Nat, k ≤ n ∧ i = .int .i64 k ∧ (∀ j, j < k → l[j]? = m[j]?) ∧ Below w.heap.size w wr) (fun i _ => n - (intOf i).toNat)
    case atStart => exact ⟨0, Nat.zero_le _, rfl, (fun j hj => by omega), Below.refl _ _⟩
    case round =>
      obtain ⟨k, hk, rfl, hs, hbel⟩ := hrel
      have HB : Hid (Below w.heap.size w wr) := hbel
      have HS : Hid (∀ j, j < k → l[j]? = m[j]?) := hs
      clear hbel hs
      by_cases hlt : k < n
      · have hlt' : (k : Int) < n := by omega
        obtain ⟨q, off, x, rfl, -, hx, x0, x1, -⟩ := LX.out k hlt
        obtain ⟨q', off', y, rfl, -, hy, y0, y1, -⟩ := MX.out k hlt
        have HX : Hid (l[k]? = some x ∧ m[k]? = some y) := ⟨hx, hy⟩
        replace x0 := cell_any x0 HB.out
        replace x1 := cell_any x1 HB.out
        replace y0 := cell_any y0 HB.out
        replace y1 := cell_any y1 HB.out
        clear hx hy
        by_cases e : x = y
        · skip
          have ne := neq_note_is x y false (iff_no (fun h => h e))
          have E : Hid (x = y) := e
          clear e
          go_wp2
          go_quiet (fail)
          go_wp2
          go_roundw
          case rel => exact ⟨k + 1, by omega, by go_num, same_next HS.out HX.out.1 HX.out.2 E.out, below_drewN HB.out _⟩
          case measure => simp [intOf]; omega
        · skip
          have ne := neq_note_is x y true (iff_yes e)
          have E : Hid (¬ x = y) := e
          clear e
          go_wp2
          go_quiet (fail)
          go_wp2
          go_ret
          exact ⟨says_of (iff_no (list_at_ne HX.out.1 HX.out.2 E.out)), below_drewN HB.out _⟩
      · obtain rfl : k = n := by omega
        go_wp2
        go_ret
        exact ⟨says_of (iff_yes (list_upto HN.out.1 HN.out.2.1 HS.out)), HB.out⟩
  · have ne : ((n : Int) != (m.length : Int)) = true := by simp; omega
    have E : Hid (¬ l = m) := list_len_ne (by omega)
    clear lx mx
    go_enter Try.func47, Try.ntmps47
    go_wp2
    go_ret
    exact ⟨says_of (iff_no E.out), Below.refl _ _⟩
set_option maxRecDepth 100000 in
set_option maxHeartbeats 2000000 in
theorem same_func {f g : FuncM} (h1 : FuncV A w u f) (h2 : FuncV A' w u' g) : Calls Try.prog 44 #[u, u'] w fun e w' => Says e (f = g) ∧ Below w.heap.size w w' := by
  obtain ⟨vc, vr, rfl, hc, hr, -⟩ := h1
  obtain ⟨uc, ur, rfl, kc, kr, -⟩ := h2
  obtain ⟨xn, xb, xc, xr⟩ := f
  obtain ⟨yn, yb, yc, yr⟩ := g
  dsimp only at *
  have Q3 : Hid (∀ W, Below w.heap.size w W → Calls Try.prog 75 #[vc, uc] W fun e w' => Says e (xc = yc) ∧ Below W.heap.size W w') := fun W hW => eq_words (hc.keep (Stay.of_below hW)) (kc.keep (Stay.of_below hW))
  have Q4 : Hid (∀ W, Below w.heap.size w W → Calls Try.prog 76 #[vr, ur] W fun e w' => Says e (xr = yr) ∧ Below W.heap.size W w') := fun W hW => eq_rels (hr.keep (Stay.of_below hW)) (kr.keep (Stay.of_below hW))
  obtain ⟨ca, cc, rfl, -, -, -⟩ := LstA.open (id hc.1)
  obtain ⟨ra, rc, rfl, -, -, -⟩ := LstA.open (id hr)
  obtain ⟨da, dc, rfl, -, -, -⟩ := LstA.open (id kc.1)
  obtain ⟨sa, sc, rfl, -, -, -⟩ := LstA.open (id kr)
  clear hc hr kc kr
  have UP1 : Hid (Below w.heap.size w (w.alloc (.cells #[.string xn, .int .i64 xb, .slice ca xc.length cc, .slice ra xr.length rc] 49))) := keep_alloc8 (Below.refl _ _) _
  have X1 : Hid (XAt (w.alloc (.cells #[.string xn, .int .i64 xb, .slice ca xc.length cc, .slice ra xr.length rc] 49)) w.heap.size [.string xn, .int .i64 xb, .slice ca xc.length cc, .slice ra xr.length rc]) := XAt.new _ _ _
  go_enter Try.func44, Try.ntmps44
  have X2 : Hid (XAt ((w.alloc (.cells #[.string xn, .int .i64 xb, .slice ca xc.length cc, .slice ra xr.length rc] 49)).alloc (.cells #[.string yn, .int .i64 yb, .slice da yc.length dc, .slice sa yr.length sc] 49)) (w.heap.size + 1) [.string yn, .int .i64 yb, .slice da yc.length dc, .slice sa yr.length sc]) := by
    have h := XAt.new (w.alloc (.cells #[.string xn, .int .i64 xb, .slice ca xc.length cc, .slice ra xr.length rc] 49)) #[.string yn, .int .i64 yb, .slice da yc.length dc, .slice sa yr.length sc] 49
    rwa [show (w.alloc (.cells #[.string xn, .int .i64 xb, .slice ca xc.length cc, .slice ra xr.length rc] 49)).heap.size = w.heap.size + 1 from by simp] at h
  go_upto_region 1 with fail
  have HS1 : Hid ((w.alloc (.cells #[.string xn, .int .i64 xb, .slice ca xc.length cc, .slice ra xr.length rc] 49)).heap.size = w.heap.size + 1) := by unfold Hid; simp
  generalize w.alloc (.cells #[.string xn, .int .i64 xb, .slice ca xc.length cc, .slice ra xr.length rc] 49) = w1 at UP1 X1 X2 HS1 ⊢
  have UP : Hid (Below w.heap.size w (w1.alloc (.cells #[.string yn, .int .i64 yb, .slice da yc.length dc, .slice sa yr.length sc] 49))) := keep_alloc8 UP1.out _
  replace X1 : Hid (XAt (w1.alloc (.cells #[.string yn, .int .i64 yb, .slice da yc.length dc, .slice sa yr.length sc] 49)) w.heap.size [.string xn, .int .i64 xb, .slice ca xc.length cc, .slice ra xr.length rc]) := X1.out.later (by have := HS1.out; omega) (keep_alloc8 (Below.refl _ _) _)
  generalize w1.alloc (.cells #[.string yn, .int .i64 yb, .slice da yc.length dc, .slice sa yr.length sc] 49) = w0 at UP X1 X2 ⊢
  have hX : Hid (w.heap.size < w0.heap.size ∧ w.heap.size + 1 < w0.heap.size) := ⟨X1.out.lt (by simp), X2.out.lt (by simp)⟩
  have B0 : Hid (Below w0.heap.size w0 w0) := Below.refl _ _
  have x0 := X1.out.1 0 _ rfl
  have y0 := X2.out.1 0 _ rfl
  have x1 := X1.out.1 1 _ rfl
  have y1 := X2.out.1 1 _ rfl
  have x2 := X1.out.1 2 _ rfl
  have y2 := X2.out.1 2 _ rfl
  have x3 := X1.out.1 3 _ rfl
  have y3 := X2.out.1 3 _ rfl
  by_cases e1 : xn = yn
  rotate_left
  · have NE : Hid (¬ ((⟨xn, xb, xc, xr⟩ : FuncM) = ⟨yn, yb, yc, yr⟩)) := fun h => e1 (by injection h)
    have ne := str_ne e1
    clear e1
    go_wp2
    go_ret
    exact ⟨says_of (iff_no NE.out), bnext UP.out B0.out⟩
  subst e1
  by_cases e2 : xb = yb
  rotate_left
  · have NE : Hid (¬ ((⟨xn, xb, xc, xr⟩ : FuncM) = ⟨xn, yb, yc, yr⟩)) := fun h => e2 (by injection h)
    have ne : (xb == yb) = false := by simpa using e2
    clear e2
    go_wp2
    go_ret
    exact ⟨says_of (iff_no NE.out), bnext UP.out B0.out⟩
  subst e2
  by_cases e3 : xc = yc
  rotate_left
  · have NE : Hid (¬ ((⟨xn, xb, xc, xr⟩ : FuncM) = ⟨xn, xb, yc, yr⟩)) := fun h => e3 (by injection h)
    replace e3 : Hid (¬ (xc = yc)) := e3
    go_wp2_with (first
        | (go_at_call 75; refine (Q3.out _ (bnext UP.out B0.out)).mono ?_; rintro e w3 ⟨hsay, b3⟩; obtain rfl := hsay.no e3.out; clear hsay; have B3 := Hid.mk0 (bnext B0.out b3); have x0 := (X1.out.later hX.out.1 B3.out).1 0 _ rfl; have y0 := (X2.out.later hX.out.2 B3.out).1 0 _ rfl; have x1 := (X1.out.later hX.out.1 B3.out).1 1 _ rfl; have y1 := (X2.out.later hX.out.2 B3.out).1 1 _ rfl; have x2 := (X1.out.later hX.out.1 B3.out).1 2 _ rfl; have y2 := (X2.out.later hX.out.2 B3.out).1 2 _ rfl; have x3 := (X1.out.later hX.out.1 B3.out).1 3 _ rfl; have y3 := (X2.out.later hX.out.2 B3.out).1 3 _ rfl))
    go_ret
    exact ⟨says_of (iff_no NE.out), bnext UP.out B3.out⟩
  replace e3 : Hid (xc = yc) := e3
  by_cases e4 : xr = yr
  rotate_left
  · have NE : Hid (¬ ((⟨xn, xb, xc, xr⟩ : FuncM) = ⟨xn, xb, yc, yr⟩)) := fun h => e4 (by injection h)
    replace e4 : Hid (¬ (xr = yr)) := e4
    go_wp2_with (first
        | (go_at_call 76; refine (Q4.out _ (bnext UP.out B3.out)).mono ?_; rintro e w4 ⟨hsay, b4⟩; obtain rfl := hsay.no e4.out; clear hsay; have B4 := Hid.mk0 (bnext B3.out b4); have x0 := (X1.out.later hX.out.1 B4.out).1 0 _ rfl; have y0 := (X2.out.later hX.out.2 B4.out).1 0 _ rfl; have x1 := (X1.out.later hX.out.1 B4.out).1 1 _ rfl; have y1 := (X2.out.later hX.out.2 B4.out).1 1 _ rfl; have x2 := (X1.out.later hX.out.1 B4.out).1 2 _ rfl; have y2 := (X2.out.later hX.out.2 B4.out).1 2 _ rfl; have x3 := (X1.out.later hX.out.1 B4.out).1 3 _ rfl; have y3 := (X2.out.later hX.out.2 B4.out).1 3 _ rfl)
        | (go_at_call 75; refine (Q3.out _ (bnext UP.out B0.out)).mono ?_; rintro e w3 ⟨hsay, b3⟩; obtain rfl := hsay.yes e3.out; clear hsay; have B3 := Hid.mk0 (bnext B0.out b3); have x0 := (X1.out.later hX.out.1 B3.out).1 0 _ rfl; have y0 := (X2.out.later hX.out.2 B3.out).1 0 _ rfl; have x1 := (X1.out.later hX.out.1 B3.out).1 1 _ rfl; have y1 := (X2.out.later hX.out.2 B3.out).1 1 _ rfl; have x2 := (X1.out.later hX.out.1 B3.out).1 2 _ rfl; have y2 := (X2.out.later hX.out.2 B3.out).1 2 _ rfl; have x3 := (X1.out.later hX.out.1 B3.out).1 3 _ rfl; have y3 := (X2.out.later hX.out.2 B3.out).1 3 _ rfl))
    go_ret
    exact ⟨says_of (iff_no NE.out), bnext UP.out B4.out⟩
  replace e4 : Hid (xr = yr) := e4
  go_wp2_with (first
    | (go_at_call 76; refine (Q4.out _ (bnext UP.out B3.out)).mono ?_; rintro e w4 ⟨hsay, b4⟩; obtain rfl := hsay.yes e4.out; clear hsay; have B4 := Hid.mk0 (bnext B3.out b4); have x0 := (X1.out.later hX.out.1 B4.out).1 0 _ rfl; have y0 := (X2.out.later hX.out.2 B4.out).1 0 _ rfl; have x1 := (X1.out.later hX.out.1 B4.out).1 1 _ rfl; have y1 := (X2.out.later hX.out.2 B4.out).1 1 _ rfl; have x2 := (X1.out.later hX.out.1 B4.out).1 2 _ rfl; have y2 := (X2.out.later hX.out.2 B4.out).1 2 _ rfl; have x3 := (X1.out.later hX.out.1 B4.out).1 3 _ rfl; have y3 := (X2.out.later hX.out.2 B4.out).1 3 _ rfl)
    | (go_at_call 75; refine (Q3.out _ (bnext UP.out B0.out)).mono ?_; rintro e w3 ⟨hsay, b3⟩; obtain rfl := hsay.yes e3.out; clear hsay; have B3 := Hid.mk0 (bnext B0.out b3); have x0 := (X1.out.later hX.out.1 B3.out).1 0 _ rfl; have y0 := (X2.out.later hX.out.2 B3.out).1 0 _ rfl; have x1 := (X1.out.later hX.out.1 B3.out).1 1 _ rfl; have y1 := (X2.out.later hX.out.2 B3.out).1 1 _ rfl; have x2 := (X1.out.later hX.out.1 B3.out).1 2 _ rfl; have y2 := (X2.out.later hX.out.2 B3.out).1 2 _ rfl; have x3 := (X1.out.later hX.out.1 B3.out).1 3 _ rfl; have y3 := (X2.out.later hX.out.2 B3.out).1 3 _ rfl))
  go_ret
  exact ⟨says_of (iff_yes (by rw [e3.out, e4.out])), bnext UP.out B4.out⟩
set_option maxRecDepth 100000 in
set_option maxHeartbeats 2000000 in
theorem same_data {f g : DataM} (h1 : DataV A w u f) (h2 : DataV A' w u' g) : Calls Try.prog 46 #[u, u'] w fun e w' => Says e (f = g) ∧ Below w.heap.size w w' := by
  obtain ⟨vc, vr, rfl, hc, hr, -⟩ := h1
  obtain ⟨uc, ur, rfl, kc, kr, -⟩ := h2
  obtain ⟨xn, xb, xa, xf, xz, xc, xr⟩ := f
  obtain ⟨yn, yb, ya, yf, yz, yc, yr⟩ := g
  dsimp only at *
  have Q6 : Hid (∀ W, Below w.heap.size w W → Calls Try.prog 77 #[vc, uc] W fun e w' => Says e (xc = yc) ∧ Below W.heap.size W w') := fun W hW => eq_bytes (hc.keep (Stay.of_below hW)) (kc.keep (Stay.of_below hW))
  have Q7 : Hid (∀ W, Below w.heap.size w W → Calls Try.prog 76 #[vr, ur] W fun e w' => Says e (xr = yr) ∧ Below W.heap.size W w') := fun W hW => eq_rels (hr.keep (Stay.of_below hW)) (kr.keep (Stay.of_below hW))
  obtain ⟨ca, cc, rfl, -, -, -⟩ := LstA.open (id hc.1)
  obtain ⟨ra, rc, rfl, -, -, -⟩ := LstA.open (id hr)
  obtain ⟨da, dc, rfl, -, -, -⟩ := LstA.open (id kc.1)
  obtain ⟨sa, sc, rfl, -, -, -⟩ := LstA.open (id kr)
  clear hc hr kc kr
  have UP1 : Hid (Below w.heap.size w (w.alloc (.cells #[.string xn, .int .i64 xb, .int .i64 xa, .bool xf, .int .i64 xz, .slice ca xc.length cc, .slice ra xr.length rc] 44))) := keep_alloc8 (Below.refl _ _) _
  have X1 : Hid (XAt (w.alloc (.cells #[.string xn, .int .i64 xb, .int .i64 xa, .bool xf, .int .i64 xz, .slice ca xc.length cc, .slice ra xr.length rc] 44)) w.heap.size [.string xn, .int .i64 xb, .int .i64 xa, .bool xf, .int .i64 xz, .slice ca xc.length cc, .slice ra xr.length rc]) := XAt.new _ _ _
  go_enter Try.func46, Try.ntmps46
  have X2 : Hid (XAt ((w.alloc (.cells #[.string xn, .int .i64 xb, .int .i64 xa, .bool xf, .int .i64 xz, .slice ca xc.length cc, .slice ra xr.length rc] 44)).alloc (.cells #[.string yn, .int .i64 yb, .int .i64 ya, .bool yf, .int .i64 yz, .slice da yc.length dc, .slice sa yr.length sc] 44)) (w.heap.size + 1) [.string yn, .int .i64 yb, .int .i64 ya, .bool yf, .int .i64 yz, .slice da yc.length dc, .slice sa yr.length sc]) := by
    have h := XAt.new (w.alloc (.cells #[.string xn, .int .i64 xb, .int .i64 xa, .bool xf, .int .i64 xz, .slice ca xc.length cc, .slice ra xr.length rc] 44)) #[.string yn, .int .i64 yb, .int .i64 ya, .bool yf, .int .i64 yz, .slice da yc.length dc, .slice sa yr.length sc] 44
    rwa [show (w.alloc (.cells #[.string xn, .int .i64 xb, .int .i64 xa, .bool xf, .int .i64 xz, .slice ca xc.length cc, .slice ra xr.length rc] 44)).heap.size = w.heap.size + 1 from by simp] at h
  go_upto_region 1 with fail
  have HS1 : Hid ((w.alloc (.cells #[.string xn, .int .i64 xb, .int .i64 xa, .bool xf, .int .i64 xz, .slice ca xc.length cc, .slice ra xr.length rc] 44)).heap.size = w.heap.size + 1) := by unfold Hid; simp
  generalize w.alloc (.cells #[.string xn, .int .i64 xb, .int .i64 xa, .bool xf, .int .i64 xz, .slice ca xc.length cc, .slice ra xr.length rc] 44) = w1 at UP1 X1 X2 HS1 ⊢
  have UP : Hid (Below w.heap.size w (w1.alloc (.cells #[.string yn, .int .i64 yb, .int .i64 ya, .bool yf, .int .i64 yz, .slice da yc.length dc, .slice sa yr.length sc] 44))) := keep_alloc8 UP1.out _
  replace X1 : Hid (XAt (w1.alloc (.cells #[.string yn, .int .i64 yb, .int .i64 ya, .bool yf, .int .i64 yz, .slice da yc.length dc, .slice sa yr.length sc] 44)) w.heap.size [.string xn, .int .i64 xb, .int .i64 xa, .bool xf, .int .i64 xz, .slice ca xc.length cc, .slice ra xr.length rc]) := X1.out.later (by have := HS1.out; omega) (keep_alloc8 (Below.refl _ _) _)
  generalize w1.alloc (.cells #[.string yn, .int .i64 yb, .int .i64 ya, .bool yf, .int .i64 yz, .slice da yc.length dc, .slice sa yr.length sc] 44) = w0 at UP X1 X2 ⊢
  have hX : Hid (w.heap.size < w0.heap.size ∧ w.heap.size + 1 < w0.heap.size) := ⟨X1.out.lt (by simp), X2.out.lt (by simp)⟩
  have B0 : Hid (Below w0.heap.size w0 w0) := Below.refl _ _
  have x0 := X1.out.1 0 _ rfl
  have y0 := X2.out.1 0 _ rfl
  have x1 := X1.out.1 1 _ rfl
  have y1 := X2.out.1 1 _ rfl
  have x2 := X1.out.1 2 _ rfl
  have y2 := X2.out.1 2 _ rfl
  have x3 := X1.out.1 3 _ rfl
  have y3 := X2.out.1 3 _ rfl
  have x4 := X1.out.1 4 _ rfl
  have y4 := X2.out.1 4 _ rfl
  have x5 := X1.out.1 5 _ rfl
  have y5 := X2.out.1 5 _ rfl
  have x6 := X1.out.1 6 _ rfl
  have y6 := X2.out.1 6 _ rfl
  by_cases e1 : xn = yn
  rotate_left
  · have NE : Hid (¬ ((⟨xn, xb, xa, xf, xz, xc, xr⟩ : DataM) = ⟨yn, yb, ya, yf, yz, yc, yr⟩)) := fun h => e1 (by injection h)
    have ne := str_ne e1
    clear e1
    go_wp2
    go_ret
    exact ⟨says_of (iff_no NE.out), bnext UP.out B0.out⟩
  subst e1
  by_cases e2 : xb = yb
  rotate_left
  · have NE : Hid (¬ ((⟨xn, xb, xa, xf, xz, xc, xr⟩ : DataM) = ⟨xn, yb, ya, yf, yz, yc, yr⟩)) := fun h => e2 (by injection h)
    have ne : (xb == yb) = false := by simpa using e2
    clear e2
    go_wp2
    go_ret
    exact ⟨says_of (iff_no NE.out), bnext UP.out B0.out⟩
  subst e2
  by_cases e3 : xa = ya
  rotate_left
  · have NE : Hid (¬ ((⟨xn, xb, xa, xf, xz, xc, xr⟩ : DataM) = ⟨xn, xb, ya, yf, yz, yc, yr⟩)) := fun h => e3 (by injection h)
    have ne : (xa == ya) = false := by simpa using e3
    clear e3
    go_wp2
    go_ret
    exact ⟨says_of (iff_no NE.out), bnext UP.out B0.out⟩
  subst e3
  by_cases e4 : xf = yf
  rotate_left
  · have NE : Hid (¬ ((⟨xn, xb, xa, xf, xz, xc, xr⟩ : DataM) = ⟨xn, xb, xa, yf, yz, yc, yr⟩)) := fun h => e4 (by injection h)
    have ne : (xf == yf) = false := by simpa using e4
    clear e4
    go_wp2
    go_ret
    exact ⟨says_of (iff_no NE.out), bnext UP.out B0.out⟩
  subst e4
  by_cases e5 : xz = yz
  rotate_left
  · have NE : Hid (¬ ((⟨xn, xb, xa, xf, xz, xc, xr⟩ : DataM) = ⟨xn, xb, xa, xf, yz, yc, yr⟩)) := fun h => e5 (by injection h)
    have ne : (xz == yz) = false := by simpa using e5
    clear e5
    go_wp2
    go_ret
    exact ⟨says_of (iff_no NE.out), bnext UP.out B0.out⟩
  subst e5
  by_cases e6 : xc = yc
  rotate_left
  · have NE : Hid (¬ ((⟨xn, xb, xa, xf, xz, xc, xr⟩ : DataM) = ⟨xn, xb, xa, xf, xz, yc, yr⟩)) := fun h => e6 (by injection h)
    replace e6 : Hid (¬ (xc = yc)) := e6
    go_wp2_with (first
        | (go_at_call 77; refine (Q6.out _ (bnext UP.out B0.out)).mono ?_; rintro e w6 ⟨hsay, b6⟩; obtain rfl := hsay.no e6.out; clear hsay; have B6 := Hid.mk0 (bnext B0.out b6); have x0 := (X1.out.later hX.out.1 B6.out).1 0 _ rfl; have y0 := (X2.out.later hX.out.2 B6.out).1 0 _ rfl; have x1 := (X1.out.later hX.out.1 B6.out).1 1 _ rfl; have y1 := (X2.out.later hX.out.2 B6.out).1 1 _ rfl; have x2 := (X1.out.later hX.out.1 B6.out).1 2 _ rfl; have y2 := (X2.out.later hX.out.2 B6.out).1 2 _ rfl; have x3 := (X1.out.later hX.out.1 B6.out).1 3 _ rfl; have y3 := (X2.out.later hX.out.2 B6.out).1 3 _ rfl; have x4 := (X1.out.later hX.out.1 B6.out).1 4 _ rfl; have y4 := (X2.out.later hX.out.2 B6.out).1 4 _ rfl; have x5 := (X1.out.later hX.out.1 B6.out).1 5 _ rfl; have y5 := (X2.out.later hX.out.2 B6.out).1 5 _ rfl; have x6 := (X1.out.later hX.out.1 B6.out).1 6 _ rfl; have y6 := (X2.out.later hX.out.2 B6.out).1 6 _ rfl))
    go_ret
    exact ⟨says_of (iff_no NE.out), bnext UP.out B6.out⟩
  replace e6 : Hid (xc = yc) := e6
  by_cases e7 : xr = yr
  rotate_left
  · have NE : Hid (¬ ((⟨xn, xb, xa, xf, xz, xc, xr⟩ : DataM) = ⟨xn, xb, xa, xf, xz, yc, yr⟩)) := fun h => e7 (by injection h)
    replace e7 : Hid (¬ (xr = yr)) := e7
    go_wp2_with (first
        | (go_at_call 76; refine (Q7.out _ (bnext UP.out B6.out)).mono ?_; rintro e w7 ⟨hsay, b7⟩; obtain rfl := hsay.no e7.out; clear hsay; have B7 := Hid.mk0 (bnext B6.out b7); have x0 := (X1.out.later hX.out.1 B7.out).1 0 _ rfl; have y0 := (X2.out.later hX.out.2 B7.out).1 0 _ rfl; have x1 := (X1.out.later hX.out.1 B7.out).1 1 _ rfl; have y1 := (X2.out.later hX.out.2 B7.out).1 1 _ rfl; have x2 := (X1.out.later hX.out.1 B7.out).1 2 _ rfl; have y2 := (X2.out.later hX.out.2 B7.out).1 2 _ rfl; have x3 := (X1.out.later hX.out.1 B7.out).1 3 _ rfl; have y3 := (X2.out.later hX.out.2 B7.out).1 3 _ rfl; have x4 := (X1.out.later hX.out.1 B7.out).1 4 _ rfl; have y4 := (X2.out.later hX.out.2 B7.out).1 4 _ rfl; have x5 := (X1.out.later hX.out.1 B7.out).1 5 _ rfl; have y5 := (X2.out.later hX.out.2 B7.out).1 5 _ rfl; have x6 := (X1.out.later hX.out.1 B7.out).1 6 _ rfl; have y6 := (X2.out.later hX.out.2 B7.out).1 6 _ rfl)
        | (go_at_call 77; refine (Q6.out _ (bnext UP.out B0.out)).mono ?_; rintro e w6 ⟨hsay, b6⟩; obtain rfl := hsay.yes e6.out; clear hsay; have B6 := Hid.mk0 (bnext B0.out b6); have x0 := (X1.out.later hX.out.1 B6.out).1 0 _ rfl; have y0 := (X2.out.later hX.out.2 B6.out).1 0 _ rfl; have x1 := (X1.out.later hX.out.1 B6.out).1 1 _ rfl; have y1 := (X2.out.later hX.out.2 B6.out).1 1 _ rfl; have x2 := (X1.out.later hX.out.1 B6.out).1 2 _ rfl; have y2 := (X2.out.later hX.out.2 B6.out).1 2 _ rfl; have x3 := (X1.out.later hX.out.1 B6.out).1 3 _ rfl; have y3 := (X2.out.later hX.out.2 B6.out).1 3 _ rfl; have x4 := (X1.out.later hX.out.1 B6.out).1 4 _ rfl; have y4 := (X2.out.later hX.out.2 B6.out).1 4 _ rfl; have x5 := (X1.out.later hX.out.1 B6.out).1 5 _ rfl; have y5 := (X2.out.later hX.out.2 B6.out).1 5 _ rfl; have x6 := (X1.out.later hX.out.1 B6.out).1 6 _ rfl; have y6 := (X2.out.later hX.out.2 B6.out).1 6 _ rfl))
    go_ret
    exact ⟨says_of (iff_no NE.out), bnext UP.out B7.out⟩
  replace e7 : Hid (xr = yr) := e7
  go_wp2_with (first
    | (go_at_call 76; refine (Q7.out _ (bnext UP.out B6.out)).mono ?_; rintro e w7 ⟨hsay, b7⟩; obtain rfl := hsay.yes e7.out; clear hsay; have B7 := Hid.mk0 (bnext B6.out b7); have x0 := (X1.out.later hX.out.1 B7.out).1 0 _ rfl; have y0 := (X2.out.later hX.out.2 B7.out).1 0 _ rfl; have x1 := (X1.out.later hX.out.1 B7.out).1 1 _ rfl; have y1 := (X2.out.later hX.out.2 B7.out).1 1 _ rfl; have x2 := (X1.out.later hX.out.1 B7.out).1 2 _ rfl; have y2 := (X2.out.later hX.out.2 B7.out).1 2 _ rfl; have x3 := (X1.out.later hX.out.1 B7.out).1 3 _ rfl; have y3 := (X2.out.later hX.out.2 B7.out).1 3 _ rfl; have x4 := (X1.out.later hX.out.1 B7.out).1 4 _ rfl; have y4 := (X2.out.later hX.out.2 B7.out).1 4 _ rfl; have x5 := (X1.out.later hX.out.1 B7.out).1 5 _ rfl; have y5 := (X2.out.later hX.out.2 B7.out).1 5 _ rfl; have x6 := (X1.out.later hX.out.1 B7.out).1 6 _ rfl; have y6 := (X2.out.later hX.out.2 B7.out).1 6 _ rfl)
    | (go_at_call 77; refine (Q6.out _ (bnext UP.out B0.out)).mono ?_; rintro e w6 ⟨hsay, b6⟩; obtain rfl := hsay.yes e6.out; clear hsay; have B6 := Hid.mk0 (bnext B0.out b6); have x0 := (X1.out.later hX.out.1 B6.out).1 0 _ rfl; have y0 := (X2.out.later hX.out.2 B6.out).1 0 _ rfl; have x1 := (X1.out.later hX.out.1 B6.out).1 1 _ rfl; have y1 := (X2.out.later hX.out.2 B6.out).1 1 _ rfl; have x2 := (X1.out.later hX.out.1 B6.out).1 2 _ rfl; have y2 := (X2.out.later hX.out.2 B6.out).1 2 _ rfl; have x3 := (X1.out.later hX.out.1 B6.out).1 3 _ rfl; have y3 := (X2.out.later hX.out.2 B6.out).1 3 _ rfl; have x4 := (X1.out.later hX.out.1 B6.out).1 4 _ rfl; have y4 := (X2.out.later hX.out.2 B6.out).1 4 _ rfl; have x5 := (X1.out.later hX.out.1 B6.out).1 5 _ rfl; have y5 := (X2.out.later hX.out.2 B6.out).1 5 _ rfl; have x6 := (X1.out.later hX.out.1 B6.out).1 6 _ rfl; have y6 := (X2.out.later hX.out.2 B6.out).1 6 _ rfl))
  go_ret
  exact ⟨says_of (iff_yes (by rw [e6.out, e7.out])), bnext UP.out B7.out⟩
set_option maxRecDepth 100000 in
set_option maxHeartbeats 2000000 in
theorem eq_funcs {l m : List FuncM} (h1 : IsFuncs A w v l) (h2 : IsFuncs A' w v' m) :
    Calls Try.prog 43 #[v, v', .func (.func 44) #[] #[]] w fun e w' => Says e (l = m) ∧ Below w.heap.size w w' := by
  obtain ⟨a, c, rfl, lm, -, lx⟩ := LstA.open h1
  obtain ⟨b, d, rfl, mm, -, mx⟩ := LstA.open h2
  obtain ⟨n, en⟩ : ∃ n, l.length = n := ⟨_, rfl⟩
  rw [en] at lm lx ⊢
  clear h1 h2
  by_cases hlen : m.length = n
  rotate_left
  · have ne : ((n : Int) != (m.length : Int)) = true := by simp; omega
    have E : Hid (¬ l = m) := list_len_ne (by omega)
    clear lx mx
    go_enter Try.func43, Try.ntmps43
    go_wp2
    go_ret
    exact ⟨says_of (iff_no E.out), Below.refl _ _⟩
  rw [hlen] at mm mx ⊢
  have LX : Hid (∀ k, k < n → ∃ b off x, a = some ⟨b, off, none⟩ ∧ A b ∧ l[k]? = some x ∧ FuncAt A w b (off + k * 4) x) := lx
  have MX : Hid (∀ k, k < n → ∃ c off x, b = some ⟨c, off, none⟩ ∧ A' c ∧ m[k]? = some x ∧ FuncAt A' w c (off + k * 4) x) := mx
  have HN : Hid (l.length = n ∧ m.length = n ∧ n ≤ maxLen) := ⟨en, hlen, lm⟩
  have hn : (n : Int) ≤ 9223372036854775807 := by unfold maxLen at lm; omega
  clear lx mx en hlen lm mm
  go_enter Try.func43, Try.ntmps43
  go_wp2
  go_loopw [17] (fun i wr => ∃ k : Nat, k ≤ n ∧ i = .int .i64 k ∧ (∀ j, j < k → l[j]? = m[j]?) ∧ Below w.heap.size w wr) (fun i _ => n - (intOf i).toNat)
  case atStart => exact ⟨0, Nat.zero_le _, rfl, (fun j hj => by omega), Below.refl _ _⟩
  case round =>
    obtain ⟨k, hk, rfl, hs, hbel⟩ := hrel
    have HB : Hid (Below w.heap.size w wr) := hbel
    have HS : Hid (∀ j, j < k → l[j]? = m[j]?) := hs
    clear hbel hs
    by_cases hlt : k < n
    · have hlt' : (k : Int) < n := by omega
      obtain ⟨q, off, ⟨xn, xb, xc, xr⟩, rfl, -, hx, vc, vr, x0, x1, x2, x3, hc, hr, hs1⟩ := LX.out k hlt
      obtain ⟨q', off', ⟨yn, yb, yc, yr⟩, rfl, -, hy, uc, ur, y0, y1, y2, y3, kc, kr, hs2⟩ := MX.out k hlt
      dsimp only at *
      have HX : Hid (l[k]? = some ⟨xn, xb, xc, xr⟩ ∧ m[k]? = some ⟨yn, yb, yc, yr⟩) := ⟨hx, hy⟩
      have HC := Hid.mk0 (And.intro (And.intro hc hr) (And.intro kc kr))
      obtain ⟨xpa, xpc, rfl, -, -, -⟩ := LstA.open (id hc.1)
      obtain ⟨xqa, xqc, rfl, -, -, -⟩ := LstA.open (id hr)
      obtain ⟨ypa, ypc, rfl, -, -, -⟩ := LstA.open (id kc.1)
      obtain ⟨yqa, yqc, rfl, -, -, -⟩ := LstA.open (id kr)
      have SF : Hid (∀ W, Below w.heap.size w W → Calls Try.prog 44 #[.agg #[.string xn, .int .i64 xb, .slice xpa xc.length xpc, .slice xqa xr.length xqc], .agg #[.string yn, .int .i64 yb, .slice ypa yc.length ypc, .slice yqa yr.length yqc]] W fun e w' => Says e ((⟨xn, xb, xc, xr⟩ : FuncM) = ⟨yn, yb, yc, yr⟩) ∧ Below W.heap.size W w') := fun W hW =>
        same_func (A := A) (A' := A') ⟨_, _, rfl, HC.out.1.1.keep (Stay.of_below hW), HC.out.1.2.keep (Stay.of_below hW), hs1⟩ ⟨_, _, rfl, HC.out.2.1.keep (Stay.of_below hW), HC.out.2.2.keep (Stay.of_below hW), hs2⟩
      clear hc hr kc kr hs1 hs2 hx hy
      replace x0 := cell_any x0 HB.out
      replace x1 := cell_any x1 HB.out
      replace x2 := cell_any x2 HB.out
      replace x3 := cell_any x3 HB.out
      replace y0 := cell_any y0 HB.out
      replace y1 := cell_any y1 HB.out
      replace y2 := cell_any y2 HB.out
      replace y3 := cell_any y3 HB.out
      go_upto_region 6 with fail
      have B1 : Hid (Below wr.heap.size wr (wr.alloc (.cells #[.string xn, .int .i64 xb, .slice xpa xc.length xpc, .slice xqa xr.length xqc] 49))) := keep_alloc8 (Below.refl _ _) _
      have X3 : Hid (XAt (wr.alloc (.cells #[.string xn, .int .i64 xb, .slice xpa xc.length xpc, .slice xqa xr.length xqc] 49)) wr.heap.size [.string xn, .int .i64 xb, .slice xpa xc.length xpc, .slice xqa xr.length xqc]) := XAt.new _ _ _
      generalize wr.alloc (.cells #[.string xn, .int .i64 xb, .slice xpa xc.length xpc, .slice xqa xr.length xqc] 49) = w1 at B1 X3 ⊢
      replace y0 := cell_later' y0 B1.out
      replace y1 := cell_later' y1 B1.out
      replace y2 := cell_later' y2 B1.out
      replace y3 := cell_later' y3 B1.out
      have lx1 : Hid (wr.heap.size < w1.heap.size) := X3.out.lt (by simp)
      go_upto_region 7 with fail
      have B2 : Hid (Below wr.heap.size wr (w1.alloc (.cells #[.string yn, .int .i64 yb, .slice ypa yc.length ypc, .slice yqa yr.length yqc] 49))) := keep_alloc8 B1.out _
      replace X3 : Hid (XAt (w1.alloc (.cells #[.string yn, .int .i64 yb, .slice ypa yc.length ypc, .slice yqa yr.length yqc] 49)) wr.heap.size [.string xn, .int .i64 xb, .slice xpa xc.length xpc, .slice xqa xr.length xqc]) := X3.out.later lx1.out (keep_alloc8 (Below.refl _ _) _)
      have X4 : Hid (XAt (w1.alloc (.cells #[.string yn, .int .i64 yb, .slice ypa yc.length ypc, .slice yqa yr.length yqc] 49)) w1.heap.size [.string yn, .int .i64 yb, .slice ypa yc.length ypc, .slice yqa yr.length yqc]) := XAt.new _ _ _
      generalize w1.alloc (.cells #[.string yn, .int .i64 yb, .slice ypa yc.length ypc, .slice yqa yr.length yqc] 49) = w2 at B2 X3 X4 ⊢
      clear x0 x1 x2 x3 y0 y1 y2 y3
      have x0 := X3.out.1 0 _ rfl
      have y0 := X4.out.1 0 _ rfl
      have x1 := X3.out.1 1 _ rfl
      have y1 := X4.out.1 1 _ rfl
      have x2 := X3.out.1 2 _ rfl
      have y2 := X4.out.1 2 _ rfl
      have x3 := X3.out.1 3 _ rfl
      have y3 := X4.out.1 3 _ rfl
      by_cases e : (⟨xn, xb, xc, xr⟩ : FuncM) = ⟨yn, yb, yc, yr⟩
      · have E : Hid ((⟨xn, xb, xc, xr⟩ : FuncM) = ⟨yn, yb, yc, yr⟩) := e
        clear e
        go_wp2_with (go_at_call 44; refine (SF.out _ (bnext HB.out B2.out)).mono ?_; rintro e w3 ⟨hsay, b3⟩; obtain rfl := hsay.yes E.out; clear hsay)
        go_roundw
        case rel => exact ⟨k + 1, by omega, by go_num, same_next HS.out HX.out.1 HX.out.2 E.out, bnext HB.out (bnext B2.out b3)⟩
        case measure => simp [intOf]; omega
      · have E : Hid (¬ (⟨xn, xb, xc, xr⟩ : FuncM) = ⟨yn, yb, yc, yr⟩) := e
        clear e
        go_wp2_with (go_at_call 44; refine (SF.out _ (bnext HB.out B2.out)).mono ?_; rintro e w3 ⟨hsay, b3⟩; obtain rfl := hsay.no E.out; clear hsay)
        go_ret
        exact ⟨says_of (iff_no (list_at_ne HX.out.1 HX.out.2 E.out)), bnext HB.out (bnext B2.out b3)⟩
    · obtain rfl : k = n := by omega
      go_wp2
      go_ret
      exact ⟨says_of (iff_yes (list_upto HN.out.1 HN.out.2.1 HS.out)), HB.out⟩
set_option maxRecDepth 100000 in
set_option maxHeartbeats 2000000 in
theorem eq_datas {l m : List DataM} (h1 : IsDatas A w v l) (h2 : IsDatas A' w v' m) :
    Calls Try.prog 45 #[v, v', .func (.func 46) #[] #[]] w fun e w' => Says e (l = m) ∧ Below w.heap.size w w' := by
  obtain ⟨a, c, rfl, lm, -, lx⟩ := LstA.open h1
  obtain ⟨b, d, rfl, mm, -, mx⟩ := LstA.open h2
  obtain ⟨n, en⟩ : ∃ n, l.length = n := ⟨_, rfl⟩
  rw [en] at lm lx ⊢
  clear h1 h2
  by_cases hlen : m.length = n
  rotate_left
  · have ne : ((n : Int) != (m.length : Int)) = true := by simp; omega
    have E : Hid (¬ l = m) := list_len_ne (by omega)
    clear lx mx
    go_enter Try.func45, Try.ntmps45
    go_wp2
    go_ret
    exact ⟨says_of (iff_no E.out), Below.refl _ _⟩
  rw [hlen] at mm mx ⊢
  have LX : Hid (∀ k, k < n → ∃ b off x, a = some ⟨b, off, none⟩ ∧ A b ∧ l[k]? = some x ∧ DataAt A w b (off + k * 7) x) := lx
  have MX : Hid (∀ k, k < n → ∃ c off x, b = some ⟨c, off, none⟩ ∧ A' c ∧ m[k]? = some x ∧ DataAt A' w c (off + k * 7) x) := mx
  have HN : Hid (l.length = n ∧ m.length = n ∧ n ≤ maxLen) := ⟨en, hlen, lm⟩
  have hn : (n : Int) ≤ 9223372036854775807 := by unfold maxLen at lm; omega
  clear lx mx en hlen lm mm
  go_enter Try.func45, Try.ntmps45
  go_wp2
  go_loopw [17] (fun i wr => ∃ k : Nat, k ≤ n ∧ i = .int .i64 k ∧ (∀ j, j < k → l[j]? = m[j]?) ∧ Below w.heap.size w wr) (fun i _ => n - (intOf i).toNat)
  case atStart => exact ⟨0, Nat.zero_le _, rfl, (fun j hj => by omega), Below.refl _ _⟩
  case round =>
    obtain ⟨k, hk, rfl, hs, hbel⟩ := hrel
    have HB : Hid (Below w.heap.size w wr) := hbel
    have HS : Hid (∀ j, j < k → l[j]? = m[j]?) := hs
    clear hbel hs
    by_cases hlt : k < n
    · have hlt' : (k : Int) < n := by omega
      obtain ⟨q, off, ⟨xn, xb, xa, xf, xz, xc, xr⟩, rfl, -, hx, vc, vr, x0, x1, x2, x3, x4, x5, x6, hc, hr, hs1⟩ := LX.out k hlt
      obtain ⟨q', off', ⟨yn, yb, ya, yf, yz, yc, yr⟩, rfl, -, hy, uc, ur, y0, y1, y2, y3, y4, y5, y6, kc, kr, hs2⟩ := MX.out k hlt
      dsimp only at *
      have HX : Hid (l[k]? = some ⟨xn, xb, xa, xf, xz, xc, xr⟩ ∧ m[k]? = some ⟨yn, yb, ya, yf, yz, yc, yr⟩) := ⟨hx, hy⟩
      have HC := Hid.mk0 (And.intro (And.intro hc hr) (And.intro kc kr))
      obtain ⟨xpa, xpc, rfl, -, -, -⟩ := LstA.open (id hc.1)
      obtain ⟨xqa, xqc, rfl, -, -, -⟩ := LstA.open (id hr)
      obtain ⟨ypa, ypc, rfl, -, -, -⟩ := LstA.open (id kc.1)
      obtain ⟨yqa, yqc, rfl, -, -, -⟩ := LstA.open (id kr)
      have SF : Hid (∀ W, Below w.heap.size w W → Calls Try.prog 46 #[.agg #[.string xn, .int .i64 xb, .int .i64 xa, .bool xf, .int .i64 xz, .slice xpa xc.length xpc, .slice xqa xr.length xqc], .agg #[.string yn, .int .i64 yb, .int .i64 ya, .bool yf, .int .i64 yz, .slice ypa yc.length ypc, .slice yqa yr.length yqc]] W fun e w' => Says e ((⟨xn, xb, xa, xf, xz, xc, xr⟩ : DataM) = ⟨yn, yb, ya, yf, yz, yc, yr⟩) ∧ Below W.heap.size W w') := fun W hW =>
        same_data (A := A) (A' := A') ⟨_, _, rfl, HC.out.1.1.keep (Stay.of_below hW), HC.out.1.2.keep (Stay.of_below hW), hs1⟩ ⟨_, _, rfl, HC.out.2.1.keep (Stay.of_below hW), HC.out.2.2.keep (Stay.of_below hW), hs2⟩
      clear hc hr kc kr hs1 hs2 hx hy
      replace x0 := cell_any x0 HB.out
      replace x1 := cell_any x1 HB.out
      replace x2 := cell_any x2 HB.out
      replace x3 := cell_any x3 HB.out
      replace x4 := cell_any x4 HB.out
      replace x5 := cell_any x5 HB.out
      replace x6 := cell_any x6 HB.out
      replace y0 := cell_any y0 HB.out
      replace y1 := cell_any y1 HB.out
      replace y2 := cell_any y2 HB.out
      replace y3 := cell_any y3 HB.out
      replace y4 := cell_any y4 HB.out
      replace y5 := cell_any y5 HB.out
      replace y6 := cell_any y6 HB.out
      go_upto_region 6 with fail
      have B1 : Hid (Below wr.heap.size wr (wr.alloc (.cells #[.string xn, .int .i64 xb, .int .i64 xa, .bool xf, .int .i64 xz, .slice xpa xc.length xpc, .slice xqa xr.length xqc] 44))) := keep_alloc8 (Below.refl _ _) _
      have X3 : Hid (XAt (wr.alloc (.cells #[.string xn, .int .i64 xb, .int .i64 xa, .bool xf, .int .i64 xz, .slice xpa xc.length xpc, .slice xqa xr.length xqc] 44)) wr.heap.size [.string xn, .int .i64 xb, .int .i64 xa, .bool xf, .int .i64 xz, .slice xpa xc.length xpc, .slice xqa xr.length xqc]) := XAt.new _ _ _
      generalize wr.alloc (.cells #[.string xn, .int .i64 xb, .int .i64 xa, .bool xf, .int .i64 xz, .slice xpa xc.length xpc, .slice xqa xr.length xqc] 44) = w1 at B1 X3 ⊢
      replace y0 := cell_later' y0 B1.out
      replace y1 := cell_later' y1 B1.out
      replace y2 := cell_later' y2 B1.out
      replace y3 := cell_later' y3 B1.out
      replace y4 := cell_later' y4 B1.out
      replace y5 := cell_later' y5 B1.out
      replace y6 := cell_later' y6 B1.out
      have lx1 : Hid (wr.heap.size < w1.heap.size) := X3.out.lt (by simp)
      go_upto_region 7 with fail
      have B2 : Hid (Below wr.heap.size wr (w1.alloc (.cells #[.string yn, .int .i64 yb, .int .i64 ya, .bool yf, .int .i64 yz, .slice ypa yc.length ypc, .slice yqa yr.length yqc] 44))) := keep_alloc8 B1.out _
      replace X3 : Hid (XAt (w1.alloc (.cells #[.string yn, .int .i64 yb, .int .i64 ya, .bool yf, .int .i64 yz, .slice ypa yc.length ypc, .slice yqa yr.length yqc] 44)) wr.heap.size [.string xn, .int .i64 xb, .int .i64 xa, .bool xf, .int .i64 xz, .slice xpa xc.length xpc, .slice xqa xr.length xqc]) := X3.out.later lx1.out (keep_alloc8 (Below.refl _ _) _)
      have X4 : Hid (XAt (w1.alloc (.cells #[.string yn, .int .i64 yb, .int .i64 ya, .bool yf, .int .i64 yz, .slice ypa yc.length ypc, .slice yqa yr.length yqc] 44)) w1.heap.size [.string yn, .int .i64 yb, .int .i64 ya, .bool yf, .int .i64 yz, .slice ypa yc.length ypc, .slice yqa yr.length yqc]) := XAt.new _ _ _
      generalize w1.alloc (.cells #[.string yn, .int .i64 yb, .int .i64 ya, .bool yf, .int .i64 yz, .slice ypa yc.length ypc, .slice yqa yr.length yqc] 44) = w2 at B2 X3 X4 ⊢
      clear x0 x1 x2 x3 x4 x5 x6 y0 y1 y2 y3 y4 y5 y6
      have x0 := X3.out.1 0 _ rfl
      have y0 := X4.out.1 0 _ rfl
      have x1 := X3.out.1 1 _ rfl
      have y1 := X4.out.1 1 _ rfl
      have x2 := X3.out.1 2 _ rfl
      have y2 := X4.out.1 2 _ rfl
      have x3 := X3.out.1 3 _ rfl
      have y3 := X4.out.1 3 _ rfl
      have x4 := X3.out.1 4 _ rfl
      have y4 := X4.out.1 4 _ rfl
      have x5 := X3.out.1 5 _ rfl
      have y5 := X4.out.1 5 _ rfl
      have x6 := X3.out.1 6 _ rfl
      have y6 := X4.out.1 6 _ rfl
      by_cases e : (⟨xn, xb, xa, xf, xz, xc, xr⟩ : DataM) = ⟨yn, yb, ya, yf, yz, yc, yr⟩
      · have E : Hid ((⟨xn, xb, xa, xf, xz, xc, xr⟩ : DataM) = ⟨yn, yb, ya, yf, yz, yc, yr⟩) := e
        clear e
        go_wp2_with (go_at_call 46; refine (SF.out _ (bnext HB.out B2.out)).mono ?_; rintro e w3 ⟨hsay, b3⟩; obtain rfl := hsay.yes E.out; clear hsay)
        go_roundw
        case rel => exact ⟨k + 1, by omega, by go_num, same_next HS.out HX.out.1 HX.out.2 E.out, bnext HB.out (bnext B2.out b3)⟩
        case measure => simp [intOf]; omega
      · have E : Hid (¬ (⟨xn, xb, xa, xf, xz, xc, xr⟩ : DataM) = ⟨yn, yb, ya, yf, yz, yc, yr⟩) := e
        clear e
        go_wp2_with (go_at_call 46; refine (SF.out _ (bnext HB.out B2.out)).mono ?_; rintro e w3 ⟨hsay, b3⟩; obtain rfl := hsay.no E.out; clear hsay)
        go_ret
        exact ⟨says_of (iff_no (list_at_ne HX.out.1 HX.out.2 E.out)), bnext HB.out (bnext B2.out b3)⟩
    · obtain rfl : k = n := by omega
      go_wp2
      go_ret
      exact ⟨says_of (iff_yes (list_upto HN.out.1 HN.out.2.1 HS.out)), HB.out⟩
set_option maxRecDepth 100000 in
set_option maxHeartbeats 2000000 in
theorem same_all {p q : ObjM} (h1 : IsObj A w u p) (h2 : IsObj A' w u' q) : Calls Try.prog 18 #[u, u'] w fun e w' => Says e (p = q) ∧ Below w.heap.size w w' := by
  obtain ⟨vf, vd, vn, rfl, hf, hd, hn⟩ := h1
  obtain ⟨uf, ud, un, rfl, kf, kd, kn⟩ := h2
  obtain ⟨pf, pd, pn⟩ := p
  obtain ⟨qf, qd, qn⟩ := q
  dsimp only at *
  have Q1 : Hid (∀ W, Below w.heap.size w W → Calls Try.prog 43 #[vf, uf, .func (.func 44) #[] #[]] W fun e w' => Says e (pf = qf) ∧ Below W.heap.size W w') := fun W hW => eq_funcs (hf.keep (Stay.of_below hW)) (kf.keep (Stay.of_below hW))
  have Q2 : Hid (∀ W, Below w.heap.size w W → Calls Try.prog 45 #[vd, ud, .func (.func 46) #[] #[]] W fun e w' => Says e (pd = qd) ∧ Below W.heap.size W w') := fun W hW => eq_datas (hd.keep (Stay.of_below hW)) (kd.keep (Stay.of_below hW))
  have Q3 : Hid (∀ W, Below w.heap.size w W → Calls Try.prog 47 #[vn, un] W fun e w' => Says e (pn = qn) ∧ Below W.heap.size W w') := fun W hW => eq_notes (hn.keep (Stay.of_below hW)) (kn.keep (Stay.of_below hW))
  obtain ⟨fa, fc, rfl, -, -, -⟩ := LstA.open (id hf)
  obtain ⟨da, dc, rfl, -, -, -⟩ := LstA.open (id hd)
  obtain ⟨na, nc, rfl, -, -, -⟩ := LstA.open (id hn)
  obtain ⟨ga, gc, rfl, -, -, -⟩ := LstA.open (id kf)
  obtain ⟨ea, ec, rfl, -, -, -⟩ := LstA.open (id kd)
  obtain ⟨oa, oc, rfl, -, -, -⟩ := LstA.open (id kn)
  clear hf hd hn kf kd kn
  have UP1 : Hid (Below w.heap.size w (w.alloc (.cells #[.slice fa pf.length fc, .slice da pd.length dc, .slice na pn.length nc] 26))) := keep_alloc8 (Below.refl _ _) _
  have X1 : Hid (XAt (w.alloc (.cells #[.slice fa pf.length fc, .slice da pd.length dc, .slice na pn.length nc] 26)) w.heap.size [.slice fa pf.length fc, .slice da pd.length dc, .slice na pn.length nc]) := XAt.new _ _ _
  go_enter Try.func18, Try.ntmps18
  have X2 : Hid (XAt ((w.alloc (.cells #[.slice fa pf.length fc, .slice da pd.length dc, .slice na pn.length nc] 26)).alloc (.cells #[.slice ga qf.length gc, .slice ea qd.length ec, .slice oa qn.length oc] 26)) (w.heap.size + 1) [.slice ga qf.length gc, .slice ea qd.length ec, .slice oa qn.length oc]) := by
    have h := XAt.new (w.alloc (.cells #[.slice fa pf.length fc, .slice da pd.length dc, .slice na pn.length nc] 26)) #[.slice ga qf.length gc, .slice ea qd.length ec, .slice oa qn.length oc] 26
    rwa [show (w.alloc (.cells #[.slice fa pf.length fc, .slice da pd.length dc, .slice na pn.length nc] 26)).heap.size = w.heap.size + 1 from by simp] at h
  go_upto_region 1 with fail
  have HS1 : Hid ((w.alloc (.cells #[.slice fa pf.length fc, .slice da pd.length dc, .slice na pn.length nc] 26)).heap.size = w.heap.size + 1) := by unfold Hid; simp
  generalize w.alloc (.cells #[.slice fa pf.length fc, .slice da pd.length dc, .slice na pn.length nc] 26) = w1 at UP1 X1 X2 HS1 ⊢
  have UP : Hid (Below w.heap.size w (w1.alloc (.cells #[.slice ga qf.length gc, .slice ea qd.length ec, .slice oa qn.length oc] 26))) := keep_alloc8 UP1.out _
  replace X1 : Hid (XAt (w1.alloc (.cells #[.slice ga qf.length gc, .slice ea qd.length ec, .slice oa qn.length oc] 26)) w.heap.size [.slice fa pf.length fc, .slice da pd.length dc, .slice na pn.length nc]) := X1.out.later (by have := HS1.out; omega) (keep_alloc8 (Below.refl _ _) _)
  generalize w1.alloc (.cells #[.slice ga qf.length gc, .slice ea qd.length ec, .slice oa qn.length oc] 26) = w0 at UP X1 X2 ⊢
  have hX : Hid (w.heap.size < w0.heap.size ∧ w.heap.size + 1 < w0.heap.size) := ⟨X1.out.lt (by simp), X2.out.lt (by simp)⟩
  have B0 : Hid (Below w0.heap.size w0 w0) := Below.refl _ _
  have x0 := X1.out.1 0 _ rfl
  have y0 := X2.out.1 0 _ rfl
  have x1 := X1.out.1 1 _ rfl
  have y1 := X2.out.1 1 _ rfl
  have x2 := X1.out.1 2 _ rfl
  have y2 := X2.out.1 2 _ rfl
  by_cases e1 : pf = qf
  rotate_left
  · have NE : Hid (¬ ((⟨pf, pd, pn⟩ : ObjM) = ⟨qf, qd, qn⟩)) := fun h => e1 (by injection h)
    replace e1 : Hid (¬ (pf = qf)) := e1
    go_wp2_with (first
        | (go_at_call 43; refine (Q1.out _ (bnext UP.out B0.out)).mono ?_; rintro e w1 ⟨hsay, b1⟩; obtain rfl := hsay.no e1.out; clear hsay; have B1 := Hid.mk0 (bnext B0.out b1); have x0 := (X1.out.later hX.out.1 B1.out).1 0 _ rfl; have y0 := (X2.out.later hX.out.2 B1.out).1 0 _ rfl; have x1 := (X1.out.later hX.out.1 B1.out).1 1 _ rfl; have y1 := (X2.out.later hX.out.2 B1.out).1 1 _ rfl; have x2 := (X1.out.later hX.out.1 B1.out).1 2 _ rfl; have y2 := (X2.out.later hX.out.2 B1.out).1 2 _ rfl))
    go_ret
    exact ⟨says_of (iff_no NE.out), bnext UP.out B1.out⟩
  replace e1 : Hid (pf = qf) := e1
  by_cases e2 : pd = qd
  rotate_left
  · have NE : Hid (¬ ((⟨pf, pd, pn⟩ : ObjM) = ⟨qf, qd, qn⟩)) := fun h => e2 (by injection h)
    replace e2 : Hid (¬ (pd = qd)) := e2
    go_wp2_with (first
        | (go_at_call 45; refine (Q2.out _ (bnext UP.out B1.out)).mono ?_; rintro e w2 ⟨hsay, b2⟩; obtain rfl := hsay.no e2.out; clear hsay; have B2 := Hid.mk0 (bnext B1.out b2); have x0 := (X1.out.later hX.out.1 B2.out).1 0 _ rfl; have y0 := (X2.out.later hX.out.2 B2.out).1 0 _ rfl; have x1 := (X1.out.later hX.out.1 B2.out).1 1 _ rfl; have y1 := (X2.out.later hX.out.2 B2.out).1 1 _ rfl; have x2 := (X1.out.later hX.out.1 B2.out).1 2 _ rfl; have y2 := (X2.out.later hX.out.2 B2.out).1 2 _ rfl)
        | (go_at_call 43; refine (Q1.out _ (bnext UP.out B0.out)).mono ?_; rintro e w1 ⟨hsay, b1⟩; obtain rfl := hsay.yes e1.out; clear hsay; have B1 := Hid.mk0 (bnext B0.out b1); have x0 := (X1.out.later hX.out.1 B1.out).1 0 _ rfl; have y0 := (X2.out.later hX.out.2 B1.out).1 0 _ rfl; have x1 := (X1.out.later hX.out.1 B1.out).1 1 _ rfl; have y1 := (X2.out.later hX.out.2 B1.out).1 1 _ rfl; have x2 := (X1.out.later hX.out.1 B1.out).1 2 _ rfl; have y2 := (X2.out.later hX.out.2 B1.out).1 2 _ rfl))
    go_ret
    exact ⟨says_of (iff_no NE.out), bnext UP.out B2.out⟩
  replace e2 : Hid (pd = qd) := e2
  by_cases e3 : pn = qn
  rotate_left
  · have NE : Hid (¬ ((⟨pf, pd, pn⟩ : ObjM) = ⟨qf, qd, qn⟩)) := fun h => e3 (by injection h)
    replace e3 : Hid (¬ (pn = qn)) := e3
    go_wp2_with (first
        | (go_at_call 47; refine (Q3.out _ (bnext UP.out B2.out)).mono ?_; rintro e w3 ⟨hsay, b3⟩; obtain rfl := hsay.no e3.out; clear hsay; have B3 := Hid.mk0 (bnext B2.out b3); have x0 := (X1.out.later hX.out.1 B3.out).1 0 _ rfl; have y0 := (X2.out.later hX.out.2 B3.out).1 0 _ rfl; have x1 := (X1.out.later hX.out.1 B3.out).1 1 _ rfl; have y1 := (X2.out.later hX.out.2 B3.out).1 1 _ rfl; have x2 := (X1.out.later hX.out.1 B3.out).1 2 _ rfl; have y2 := (X2.out.later hX.out.2 B3.out).1 2 _ rfl)
        | (go_at_call 45; refine (Q2.out _ (bnext UP.out B1.out)).mono ?_; rintro e w2 ⟨hsay, b2⟩; obtain rfl := hsay.yes e2.out; clear hsay; have B2 := Hid.mk0 (bnext B1.out b2); have x0 := (X1.out.later hX.out.1 B2.out).1 0 _ rfl; have y0 := (X2.out.later hX.out.2 B2.out).1 0 _ rfl; have x1 := (X1.out.later hX.out.1 B2.out).1 1 _ rfl; have y1 := (X2.out.later hX.out.2 B2.out).1 1 _ rfl; have x2 := (X1.out.later hX.out.1 B2.out).1 2 _ rfl; have y2 := (X2.out.later hX.out.2 B2.out).1 2 _ rfl)
        | (go_at_call 43; refine (Q1.out _ (bnext UP.out B0.out)).mono ?_; rintro e w1 ⟨hsay, b1⟩; obtain rfl := hsay.yes e1.out; clear hsay; have B1 := Hid.mk0 (bnext B0.out b1); have x0 := (X1.out.later hX.out.1 B1.out).1 0 _ rfl; have y0 := (X2.out.later hX.out.2 B1.out).1 0 _ rfl; have x1 := (X1.out.later hX.out.1 B1.out).1 1 _ rfl; have y1 := (X2.out.later hX.out.2 B1.out).1 1 _ rfl; have x2 := (X1.out.later hX.out.1 B1.out).1 2 _ rfl; have y2 := (X2.out.later hX.out.2 B1.out).1 2 _ rfl))
    go_ret
    exact ⟨says_of (iff_no NE.out), bnext UP.out B3.out⟩
  replace e3 : Hid (pn = qn) := e3
  go_wp2_with (first
    | (go_at_call 47; refine (Q3.out _ (bnext UP.out B2.out)).mono ?_; rintro e w3 ⟨hsay, b3⟩; obtain rfl := hsay.yes e3.out; clear hsay; have B3 := Hid.mk0 (bnext B2.out b3); have x0 := (X1.out.later hX.out.1 B3.out).1 0 _ rfl; have y0 := (X2.out.later hX.out.2 B3.out).1 0 _ rfl; have x1 := (X1.out.later hX.out.1 B3.out).1 1 _ rfl; have y1 := (X2.out.later hX.out.2 B3.out).1 1 _ rfl; have x2 := (X1.out.later hX.out.1 B3.out).1 2 _ rfl; have y2 := (X2.out.later hX.out.2 B3.out).1 2 _ rfl)
    | (go_at_call 45; refine (Q2.out _ (bnext UP.out B1.out)).mono ?_; rintro e w2 ⟨hsay, b2⟩; obtain rfl := hsay.yes e2.out; clear hsay; have B2 := Hid.mk0 (bnext B1.out b2); have x0 := (X1.out.later hX.out.1 B2.out).1 0 _ rfl; have y0 := (X2.out.later hX.out.2 B2.out).1 0 _ rfl; have x1 := (X1.out.later hX.out.1 B2.out).1 1 _ rfl; have y1 := (X2.out.later hX.out.2 B2.out).1 1 _ rfl; have x2 := (X1.out.later hX.out.1 B2.out).1 2 _ rfl; have y2 := (X2.out.later hX.out.2 B2.out).1 2 _ rfl)
    | (go_at_call 43; refine (Q1.out _ (bnext UP.out B0.out)).mono ?_; rintro e w1 ⟨hsay, b1⟩; obtain rfl := hsay.yes e1.out; clear hsay; have B1 := Hid.mk0 (bnext B0.out b1); have x0 := (X1.out.later hX.out.1 B1.out).1 0 _ rfl; have y0 := (X2.out.later hX.out.2 B1.out).1 0 _ rfl; have x1 := (X1.out.later hX.out.1 B1.out).1 1 _ rfl; have y1 := (X2.out.later hX.out.2 B1.out).1 1 _ rfl; have x2 := (X1.out.later hX.out.1 B1.out).1 2 _ rfl; have y2 := (X2.out.later hX.out.2 B1.out).1 2 _ rfl))
  go_ret
  exact ⟨says_of (iff_yes (by rw [e1.out, e2.out, e3.out])), bnext UP.out B3.out⟩
end
end Go.Proofs.Ytcbhnpjaaaefiaa
