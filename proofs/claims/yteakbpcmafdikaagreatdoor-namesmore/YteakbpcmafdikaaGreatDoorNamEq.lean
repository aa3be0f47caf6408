/- Programs alike, as the code has it. No condition. -/
import Derived.Test.YteakbpcmafdikaaGreatDoorNamProgM
namespace Go.Proofs.YteakbpcmafdikaaGreatDoor
open Go.ChangeShapes Go.WideShapes Go.ChangeAt Go.RowKit
set_option linter.unusedVariables false
set_option linter.unusedSimpArgs false
set_option maxRecDepth 100000 in
set_option maxHeartbeats 4000000 in
theorem equal_prel {A A' : Nat → Prop} {w : World} {v v' : Value} {l m : List PRelM} (h1 : IsPRels A w v l) (h2 : IsPRels A' w v' m) :
    Calls Tryz.prog 48 #[v, v'] w fun e w' => Says e (l = m) ∧ Below w.heap.size w w' := by
  obtain ⟨a, c, rfl, lm, -, lx⟩ := LstA.open h1
  obtain ⟨b, d, rfl, mm, -, mx⟩ := LstA.open h2
  obtain ⟨n, en⟩ : ∃ n, l.length = n := ⟨_, rfl⟩
  rw [en] at lm lx ⊢
  clear h1 h2
  by_cases hlen : m.length = n
  · rw [hlen] at mm mx ⊢
    have LX : Hid (∀ k, k < n → ∃ b off x, a = some ⟨b, off, none⟩ ∧ A b ∧ l[k]? = some x ∧ PRelAt w b (off + k * 4) x) := lx
    have MX : Hid (∀ k, k < n → ∃ c off x, b = some ⟨c, off, none⟩ ∧ A' c ∧ m[k]? = some x ∧ PRelAt w c (off + k * 4) x) := mx
    have HN : Hid (l.length = n ∧ m.length = n ∧ n ≤ maxLen) := ⟨en, hlen, lm⟩
    have hn : (n : Int) ≤ 9223372036854775807 := by unfold maxLen at lm; omega
    clear lx mx en hlen lm mm
    go_enter Tryz.func48, Tryz.ntmps48
    go_wp2
    go_loopw [13] (fun i wr => ∃ k : Nat, k ≤ n ∧ i = .int .i64 k ∧ (∀ j, j < k → l[j]? = m[j]?) ∧ Below w.heap.size w wr) (fun i _ => n - (intOf i).toNat)
    case atStart => exact ⟨0, Nat.zero_le _, rfl, (fun j hj => by omega), Below.refl _ _⟩
    case round =>
      obtain ⟨k, hk, rfl, hs, hbel⟩ := hrel
      have HB : Hid (Below w.heap.size w wr) := hbel
      have HS : Hid (∀ j, j < k → l[j]? = m[j]?) := hs
      clear hbel hs
      by_cases hlt : k < n
      · have hlt' : (k : Int) < n := by omega
        obtain ⟨q, off, x, rfl, -, hx, x0, x1, x2, x3⟩ := LX.out k hlt
        obtain ⟨q', off', y, rfl, -, hy, y0, y1, y2, y3⟩ := MX.out k hlt
        have HX : Hid (l[k]? = some x ∧ m[k]? = some y) := ⟨hx, hy⟩
        replace x0 := cell_any x0 HB.out
        replace x1 := cell_any x1 HB.out
        replace x2 := cell_any x2 HB.out
        replace x3 := cell_any x3 HB.out
        replace y0 := cell_any y0 HB.out
        replace y1 := cell_any y1 HB.out
        replace y2 := cell_any y2 HB.out
        replace y3 := cell_any y3 HB.out
        clear hx hy
        by_cases e : x = y
        · have ne := neq_prel_is x y false (iff_no (fun h => h e))
          have E : Hid (x = y) := e
          clear e
          go_wp2
          go_quiet (fail)
          go_wp2
          go_roundw
          case rel => exact ⟨k + 1, by omega, by go_num, same_next HS.out HX.out.1 HX.out.2 E.out, below_drewN HB.out _⟩
          case measure => simp [intOf]; omega
        · have ne := neq_prel_is x y true (iff_yes e)
          have E : Hid (¬ x = y) := e
          clear e
          go_wp2
          go_quiet (fail)
          go_wp2
          go_ret
          exact ⟨says_of (iff_no (list_at_ne HX.out.1 HX.out.2 E.out)), below_drewN HB.out _⟩
      · obtain rfl : k = n := by omega
        go_wp2
        go_ret
        exact ⟨says_of (iff_yes (list_upto HN.out.1 HN.out.2.1 HS.out)), HB.out⟩
  · have ne : ((n : Int) != (m.length : Int)) = true := by simp; omega
    have E : Hid (¬ l = m) := list_len_ne (by omega)
    clear lx mx
    go_enter Tryz.func48, Tryz.ntmps48
    go_wp2
    go_ret
    exact ⟨says_of (iff_no E.out), Below.refl _ _⟩
set_option maxRecDepth 100000 in
set_option maxHeartbeats 4000000 in
theorem equal_u32 {A A' : Nat → Prop} {w : World} {v v' : Value} {l m : List Int} (h1 : IsWords A w v l) (h2 : IsWords A' w v' m) :
    Calls Tryz.prog 47 #[v, v'] w fun e w' => Says e (l = m) ∧ Below w.heap.size w w' := by
  obtain ⟨a, c, rfl, lm, -, lx⟩ := LstA.open h1.1
  obtain ⟨b, d, rfl, mm, -, mx⟩ := LstA.open h2.1
  obtain ⟨n, en⟩ : ∃ n, l.length = n := ⟨_, rfl⟩
  rw [en] at lm lx ⊢
  clear h1 h2
  by_cases hlen : m.length = n
  · rw [hlen] at mm mx ⊢
    have LX : Hid (∀ k, k < n → ∃ b off x, a = some ⟨b, off, none⟩ ∧ A b ∧ l[k]? = some x ∧ NumAt .u32 w b (off + k * 1) x) := lx
    have MX : Hid (∀ k, k < n → ∃ c off x, b = some ⟨c, off, none⟩ ∧ A' c ∧ m[k]? = some x ∧ NumAt .u32 w c (off + k * 1) x) := mx
    have HN : Hid (l.length = n ∧ m.length = n ∧ n ≤ maxLen) := ⟨en, hlen, lm⟩
    have hn : (n : Int) ≤ 9223372036854775807 := by unfold maxLen at lm; omega
    clear lx mx en hlen lm mm
    go_enter Tryz.func47, Tryz.ntmps47
    go_wp2
    go_loopw [13] (fun i wr => ∃ k : Nat, k ≤ n ∧ i = .int .i64 k ∧ (∀ j, j < k → l[j]? = m[j]?) ∧ Below w.heap.size w wr) (fun i _ => n - (intOf i).toNat)
    case atStart => exact ⟨0, Nat.zero_le _, rfl, (fun j hj => by omega), Below.refl _ _⟩
    case round =>
      obtain ⟨k, hk, rfl, hs, hbel⟩ := hrel
      have HB : Hid (Below w.heap.size w wr) := hbel
      have HS : Hid (∀ j, j < k → l[j]? = m[j]?) := hs
      clear hbel hs
      by_cases hlt : k < n
      · have hlt' : (k : Int) < n := by omega
        obtain ⟨q, off, x, rfl, -, hx, x0⟩ := LX.out k hlt
        obtain ⟨q', off', y, rfl, -, hy, y0⟩ := MX.out k hlt
        have HX : Hid (l[k]? = some x ∧ m[k]? = some y) := ⟨hx, hy⟩
        replace x0 : wr.cell? ⟨q, off + k, none⟩ = some (.int .u32 x) := by have := cell_any x0 HB.out; rwa [Nat.mul_one] at this
        replace y0 : wr.cell? ⟨q', off' + k, none⟩ = some (.int .u32 y) := by have := cell_any y0 HB.out; rwa [Nat.mul_one] at this
        clear hx hy
        by_cases e : x = y
        · have ne : (x != y) = false := by simpa using e
          have E : Hid (x = y) := e
          clear e
          go_wp2
          go_quiet (fail)
          go_wp2
          go_roundw
          case rel => exact ⟨k + 1, by omega, by go_num, same_next HS.out HX.out.1 HX.out.2 E.out, below_drewN HB.out _⟩
          case measure => simp [intOf]; omega
        · have ne : (x != y) = true := by simpa using e
          have E : Hid (¬ x = y) := e
          clear e
          go_wp2
          go_quiet (fail)
          go_wp2
          go_ret
          exact ⟨says_of (iff_no (list_at_ne HX.out.1 HX.out.2 E.out)), below_drewN HB.out _⟩
      · obtain rfl : k = n := by omega
        go_wp2
        go_ret
        exact ⟨says_of (iff_yes (list_upto HN.out.1 HN.out.2.1 HS.out)), HB.out⟩
  · have ne : ((n : Int) != (m.length : Int)) = true := by simp; omega
    have E : Hid (¬ l = m) := list_len_ne (by omega)
    clear lx mx
    go_enter Tryz.func47, Tryz.ntmps47
    go_wp2
    go_ret
    exact ⟨says_of (iff_no E.out), Below.refl _ _⟩
set_option maxRecDepth 100000 in
set_option maxHeartbeats 4000000 in
theorem equal_u8 {A A' : Nat → Prop} {w : World} {v v' : Value} {l m : List Int} (h1 : IsBytes A w v l) (h2 : IsBytes A' w v' m) :
    Calls Tryz.prog 49 #[v, v'] w fun e w' => Says e (l = m) ∧ Below w.heap.size w w' := by
  obtain ⟨a, c, rfl, lm, -, lx⟩ := LstA.open h1.1
  obtain ⟨b, d, rfl, mm, -, mx⟩ := LstA.open h2.1
  obtain ⟨n, en⟩ : ∃ n, l.length = n := ⟨_, rfl⟩
  rw [en] at lm lx ⊢
  clear h1 h2
  by_cases hlen : m.length = n
  · rw [hlen] at mm mx ⊢
    have LX : Hid (∀ k, k < n → ∃ b off x, a = some ⟨b, off, none⟩ ∧ A b ∧ l[k]? = some x ∧ NumAt .u8 w b (off + k * 1) x) := lx
    have MX : Hid (∀ k, k < n → ∃ c off x, b = some ⟨c, off, none⟩ ∧ A' c ∧ m[k]? = some x ∧ NumAt .u8 w c (off + k * 1) x) := mx
    have HN : Hid (l.length = n ∧ m.length = n ∧ n ≤ maxLen) := ⟨en, hlen, lm⟩
    have hn : (n : Int) ≤ 9223372036854775807 := by unfold maxLen at lm; omega
    clear lx mx en hlen lm mm
    go_enter Tryz.func49, Tryz.ntmps49
    go_wp2
    go_loopw [13] (fun i wr => ∃ k : Nat, k ≤ n ∧ i = .int .i64 k ∧ (∀ j, j < k → l[j]? = m[j]?) ∧ Below w.heap.size w wr) (fun i _ => n - (intOf i).toNat)
    case atStart => exact ⟨0, Nat.zero_le _, rfl, (fun j hj => by omega), Below.refl _ _⟩
    case round =>
      obtain ⟨k, hk, rfl, hs, hbel⟩ := hrel
      have HB : Hid (Below w.heap.size w wr) := hbel
      have HS : Hid (∀ j, j < k → l[j]? = m[j]?) := hs
      clear hbel hs
      by_cases hlt : k < n
      · have hlt' : (k : Int) < n := by omega
        obtain ⟨q, off, x, rfl, -, hx, x0⟩ := LX.out k hlt
        obtain ⟨q', off', y, rfl, -, hy, y0⟩ := MX.out k hlt
        have HX : Hid (l[k]? = some x ∧ m[k]? = some y) := ⟨hx, hy⟩
        replace x0 : wr.cell? ⟨q, off + k, none⟩ = some (.int .u8 x) := by have := cell_any x0 HB.out; rwa [Nat.mul_one] at this
        replace y0 : wr.cell? ⟨q', off' + k, none⟩ = some (.int .u8 y) := by have := cell_any y0 HB.out; rwa [Nat.mul_one] at this
        clear hx hy
        by_cases e : x = y
        · have ne : (x != y) = false := by simpa using e
          have E : Hid (x = y) := e
          clear e
          go_wp2
          go_quiet (fail)
          go_wp2
          go_roundw
          case rel => exact ⟨k + 1, by omega, by go_num, same_next HS.out HX.out.1 HX.out.2 E.out, below_drewN HB.out _⟩
          case measure => simp [intOf]; omega
        · have ne : (x != y) = true := by simpa using e
          have E : Hid (¬ x = y) := e
          clear e
          go_wp2
          go_quiet (fail)
          go_wp2
          go_ret
          exact ⟨says_of (iff_no (list_at_ne HX.out.1 HX.out.2 E.out)), below_drewN HB.out _⟩
      · obtain rfl : k = n := by omega
        go_wp2
        go_ret
        exact ⟨says_of (iff_yes (list_upto HN.out.1 HN.out.2.1 HS.out)), HB.out⟩
  · have ne : ((n : Int) != (m.length : Int)) = true := by simp; omega
    have E : Hid (¬ l = m) := list_len_ne (by omega)
    clear lx mx
    go_enter Tryz.func49, Tryz.ntmps49
    go_wp2
    go_ret
    exact ⟨says_of (iff_no E.out), Below.refl _ _⟩
set_option maxRecDepth 100000 in
set_option maxHeartbeats 4000000 in
theorem csamefunc_any {A A' : Nat → Prop} {w : World} {u v : Value} {f g : PFuncM} (h1 : PFuncV A w u f) (h2 : PFuncV A' w v g) : Calls Tryz.prog 31 #[u, v] w fun e w' => Says e (f = g) ∧ Below w.heap.size w w' := by
  obtain ⟨vc, vr, rfl, hc, hr⟩ := h1
  obtain ⟨vd, vs, rfl, hd, hs⟩ := h2
  have WC : Hid (∀ W, Below w.heap.size w W → Calls Tryz.prog 47 #[vc, vd] W fun e w' => Says e (f.code = g.code) ∧ Below W.heap.size W w') := fun W hW => equal_u32 (hc.keep (Stay.of_below hW)) (hd.keep (Stay.of_below hW))
  have RC : Hid (∀ W, Below w.heap.size w W → Calls Tryz.prog 48 #[vr, vs] W fun e w' => Says e (f.rels = g.rels) ∧ Below W.heap.size W w') := fun W hW => equal_prel (hr.keep (Stay.of_below hW)) (hs.keep (Stay.of_below hW))
  obtain ⟨ca, cc, rfl, -, -, -⟩ := LstA.open hc.1
  obtain ⟨da, dc, rfl, -, -, -⟩ := LstA.open hd.1
  obtain ⟨ra, rc, rfl, -, -, -⟩ := LstA.open hr
  obtain ⟨sa, sc, rfl, -, -, -⟩ := LstA.open hs
  obtain ⟨x0, x1, x2, lc, lr⟩ := f
  obtain ⟨y0, y1, y2, mc, mr⟩ := g
  dsimp only at *
  generalize lc.length = n1 at WC
  generalize lr.length = n2 at RC
  generalize mc.length = m1 at WC
  generalize mr.length = m2 at RC
  clear hc hr hd hs
  have UP : Hid (Below w.heap.size w ((w.alloc (.cells #[.string x0, .bool x1, .bool x2, .slice ca n1 cc, .slice ra n2 rc] 36)).alloc (.cells #[.string y0, .bool y1, .bool y2, .slice da m1 dc, .slice sa m2 sc] 36))) := keep_alloc8 (keep_alloc8 (Below.refl _ _) _) _
  have XA : Hid (XAt ((w.alloc (.cells #[.string x0, .bool x1, .bool x2, .slice ca n1 cc, .slice ra n2 rc] 36)).alloc (.cells #[.string y0, .bool y1, .bool y2, .slice da m1 dc, .slice sa m2 sc] 36)) w.heap.size [.string x0, .bool x1, .bool x2, .slice ca n1 cc, .slice ra n2 rc]) := (XAt.new w #[.string x0, .bool x1, .bool x2, .slice ca n1 cc, .slice ra n2 rc] 36).later (by simp) (keep_alloc8 (Below.refl _ _) _)
  have XB : Hid (XAt ((w.alloc (.cells #[.string x0, .bool x1, .bool x2, .slice ca n1 cc, .slice ra n2 rc] 36)).alloc (.cells #[.string y0, .bool y1, .bool y2, .slice da m1 dc, .slice sa m2 sc] 36)) (w.heap.size + 1) [.string y0, .bool y1, .bool y2, .slice da m1 dc, .slice sa m2 sc]) := by have h := XAt.new (w.alloc (.cells #[.string x0, .bool x1, .bool x2, .slice ca n1 cc, .slice ra n2 rc] 36)) #[.string y0, .bool y1, .bool y2, .slice da m1 dc, .slice sa m2 sc] 36; rw [World.size_alloc] at h; exact h
  go_enter Tryz.func31, Tryz.ntmps31
  go_upto_region 1 with fail
  generalize ((w.alloc (.cells #[.string x0, .bool x1, .bool x2, .slice ca n1 cc, .slice ra n2 rc] 36)).alloc (.cells #[.string y0, .bool y1, .bool y2, .slice da m1 dc, .slice sa m2 sc] 36)) = w0 at UP XA XB ⊢
  have ha : Hid (w.heap.size < w0.heap.size) := XA.out.lt (by simp)
  have hb : Hid (w.heap.size + 1 < w0.heap.size) := XB.out.lt (by simp)
  have p0 := XA.out.1 0 _ rfl
  have q0 := XB.out.1 0 _ rfl
  have p1 := XA.out.1 1 _ rfl
  have q1 := XB.out.1 1 _ rfl
  have p2 := XA.out.1 2 _ rfl
  have q2 := XB.out.1 2 _ rfl
  have p3 := XA.out.1 3 _ rfl
  have q3 := XB.out.1 3 _ rfl
  have p4 := XA.out.1 4 _ rfl
  have q4 := XB.out.1 4 _ rfl
  by_cases e0 : x0 = y0
  rotate_left
  · have g0 : (x0.toList == y0.toList) = false := str_ne e0
    have E : Hid (¬ (⟨x0, x1, x2, lc, lr⟩ : PFuncM) = ⟨y0, y1, y2, mc, mr⟩) := fun h => e0 (by simp only [PFuncM.mk.injEq] at h; exact h.1)
    clear e0
    go_wp2
    go_ret
    exact ⟨⟨_, rfl, iff_no E.out⟩, UP.out⟩
  subst e0
  have g0 : (x0.toList == x0.toList) = true := (str_beq _ _).2 rfl
  by_cases e1 : x1 = y1
  rotate_left
  · have g1 : (x1 == y1) = false := by simpa using e1
    have E : Hid (¬ (⟨x0, x1, x2, lc, lr⟩ : PFuncM) = ⟨x0, y1, y2, mc, mr⟩) := fun h => e1 (by simp only [PFuncM.mk.injEq] at h; exact h.2.1)
    clear e1
    go_wp2
    go_ret
    exact ⟨⟨_, rfl, iff_no E.out⟩, UP.out⟩
  subst e1
  have g1 : (x1 == x1) = true := by simp
  by_cases e2 : x2 = y2
  rotate_left
  · have g2 : (x2 == y2) = false := by simpa using e2
    have E : Hid (¬ (⟨x0, x1, x2, lc, lr⟩ : PFuncM) = ⟨x0, x1, y2, mc, mr⟩) := fun h => e2 (by simp only [PFuncM.mk.injEq] at h; exact h.2.2.1)
    clear e2
    go_wp2
    go_ret
    exact ⟨⟨_, rfl, iff_no E.out⟩, UP.out⟩
  subst e2
  have g2 : (x2 == x2) = true := by simp
  by_cases e3 : lc = mc
  rotate_left
  · have E3 : Hid (¬ lc = mc) := e3
    have E : Hid (¬ (⟨x0, x1, x2, lc, lr⟩ : PFuncM) = ⟨x0, x1, x2, mc, mr⟩) := fun h => E3.out (by simp only [PFuncM.mk.injEq] at h; exact h.2.2.2.1)
    clear e3
    go_wp2_with (go_at_call 47; refine (WC.out _ UP.out).mono ?_; rintro e w1 ⟨hs1, b1⟩; obtain rfl := hs1.no E3.out; clear hs1)
    go_ret
    exact ⟨⟨_, rfl, iff_no E.out⟩, bnext UP.out b1⟩
  subst e3
  by_cases e4 : lr = mr
  rotate_left
  · have E4 : Hid (¬ lr = mr) := e4
    have E : Hid (¬ (⟨x0, x1, x2, lc, lr⟩ : PFuncM) = ⟨x0, x1, x2, lc, mr⟩) := fun h => E4.out (by simp only [PFuncM.mk.injEq] at h; exact h.2.2.2.2)
    clear e4
    go_wp2_with (first
      | (go_at_call 48; refine (RC.out _ (bnext UP.out b1)).mono ?_; rintro e w2 ⟨hs2, b2⟩; obtain rfl := hs2.no E4.out; clear hs2)
      | (go_at_call 47; refine (WC.out _ UP.out).mono ?_; rintro e w1 ⟨hs1, b1⟩; obtain rfl := hs1.yes (by first | rfl | trivial); clear hs1; clear p4 q4; have p4 := (XA.out.later ha.out b1).1 4 _ rfl; have q4 := (XB.out.later hb.out b1).1 4 _ rfl))
    go_ret
    exact ⟨⟨_, rfl, iff_no E.out⟩, bnext UP.out (bnext b1 b2)⟩
  subst e4
  go_wp2_with (first
    | (go_at_call 48; refine (RC.out _ (bnext UP.out b1)).mono ?_; rintro e w2 ⟨hs2, b2⟩; obtain rfl := hs2.yes (by first | rfl | trivial); clear hs2)
    | (go_at_call 47; refine (WC.out _ UP.out).mono ?_; rintro e w1 ⟨hs1, b1⟩; obtain rfl := hs1.yes (by first | rfl | trivial); clear hs1; clear p4 q4; have p4 := (XA.out.later ha.out b1).1 4 _ rfl; have q4 := (XB.out.later hb.out b1).1 4 _ rfl))
  go_ret
  exact ⟨⟨_, rfl, iff_yes (by first | rfl | trivial)⟩, bnext UP.out (bnext b1 b2)⟩
set_option maxRecDepth 100000 in
set_option maxHeartbeats 4000000 in
theorem csamedata_any {A A' : Nat → Prop} {w : World} {u v : Value} {f g : PDataM} (h1 : PDataV A w u f) (h2 : PDataV A' w v g) : Calls Tryz.prog 33 #[u, v] w fun e w' => Says e (f = g) ∧ Below w.heap.size w w' := by
  obtain ⟨vc, vr, rfl, hc, hr⟩ := h1
  obtain ⟨vd, vs, rfl, hd, hs⟩ := h2
  have WC : Hid (∀ W, Below w.heap.size w W → Calls Tryz.prog 49 #[vc, vd] W fun e w' => Says e (f.bytes = g.bytes) ∧ Below W.heap.size W w') := fun W hW => equal_u8 (hc.keep (Stay.of_below hW)) (hd.keep (Stay.of_below hW))
  have RC : Hid (∀ W, Below w.heap.size w W → Calls Tryz.prog 48 #[vr, vs] W fun e w' => Says e (f.rels = g.rels) ∧ Below W.heap.size W w') := fun W hW => equal_prel (hr.keep (Stay.of_below hW)) (hs.keep (Stay.of_below hW))
  obtain ⟨ca, cc, rfl, -, -, -⟩ := LstA.open hc.1
  obtain ⟨da, dc, rfl, -, -, -⟩ := LstA.open hd.1
  obtain ⟨ra, rc, rfl, -, -, -⟩ := LstA.open hr
  obtain ⟨sa, sc, rfl, -, -, -⟩ := LstA.open hs
  obtain ⟨x0, x1, x2, lc, lr⟩ := f
  obtain ⟨y0, y1, y2, mc, mr⟩ := g
  dsimp only at *
  generalize lc.length = n1 at WC
  generalize lr.length = n2 at RC
  generalize mc.length = m1 at WC
  generalize mr.length = m2 at RC
  clear hc hr hd hs
  have UP : Hid (Below w.heap.size w ((w.alloc (.cells #[.int .i64 x0, .bool x1, .int .i64 x2, .slice ca n1 cc, .slice ra n2 rc] 41)).alloc (.cells #[.int .i64 y0, .bool y1, .int .i64 y2, .slice da m1 dc, .slice sa m2 sc] 41))) := keep_alloc8 (keep_alloc8 (Below.refl _ _) _) _
  have XA : Hid (XAt ((w.alloc (.cells #[.int .i64 x0, .bool x1, .int .i64 x2, .slice ca n1 cc, .slice ra n2 rc] 41)).alloc (.cells #[.int .i64 y0, .bool y1, .int .i64 y2, .slice da m1 dc, .slice sa m2 sc] 41)) w.heap.size [.int .i64 x0, .bool x1, .int .i64 x2, .slice ca n1 cc, .slice ra n2 rc]) := (XAt.new w #[.int .i64 x0, .bool x1, .int .i64 x2, .slice ca n1 cc, .slice ra n2 rc] 41).later (by simp) (keep_alloc8 (Below.refl _ _) _)
  have XB : Hid (XAt ((w.alloc (.cells #[.int .i64 x0, .bool x1, .int .i64 x2, .slice ca n1 cc, .slice ra n2 rc] 41)).alloc (.cells #[.int .i64 y0, .bool y1, .int .i64 y2, .slice da m1 dc, .slice sa m2 sc] 41)) (w.heap.size + 1) [.int .i64 y0, .bool y1, .int .i64 y2, .slice da m1 dc, .slice sa m2 sc]) := by have h := XAt.new (w.alloc (.cells #[.int .i64 x0, .bool x1, .int .i64 x2, .slice ca n1 cc, .slice ra n2 rc] 41)) #[.int .i64 y0, .bool y1, .int .i64 y2, .slice da m1 dc, .slice sa m2 sc] 41; rw [World.size_alloc] at h; exact h
  go_enter Tryz.func33, Tryz.ntmps33
  go_upto_region 1 with fail
  generalize ((w.alloc (.cells #[.int .i64 x0, .bool x1, .int .i64 x2, .slice ca n1 cc, .slice ra n2 rc] 41)).alloc (.cells #[.int .i64 y0, .bool y1, .int .i64 y2, .slice da m1 dc, .slice sa m2 sc] 41)) = w0 at UP XA XB ⊢
  have ha : Hid (w.heap.size < w0.heap.size) := XA.out.lt (by simp)
  have hb : Hid (w.heap.size + 1 < w0.heap.size) := XB.out.lt (by simp)
  have p0 := XA.out.1 0 _ rfl
  have q0 := XB.out.1 0 _ rfl
  have p1 := XA.out.1 1 _ rfl
  have q1 := XB.out.1 1 _ rfl
  have p2 := XA.out.1 2 _ rfl
  have q2 := XB.out.1 2 _ rfl
  have p3 := XA.out.1 3 _ rfl
  have q3 := XB.out.1 3 _ rfl
  have p4 := XA.out.1 4 _ rfl
  have q4 := XB.out.1 4 _ rfl
  by_cases e0 : x0 = y0
  rotate_left
  · have g0 : (x0 == y0) = false := by simpa using e0
    have E : Hid (¬ (⟨x0, x1, x2, lc, lr⟩ : PDataM) = ⟨y0, y1, y2, mc, mr⟩) := fun h => e0 (by simp only [PDataM.mk.injEq] at h; exact h.1)
    clear e0
    go_wp2
    go_ret
    exact ⟨⟨_, rfl, iff_no E.out⟩, UP.out⟩
  subst e0
  have g0 : (x0 == x0) = true := by simp
  by_cases e1 : x1 = y1
  rotate_left
  · have g1 : (x1 == y1) = false := by simpa using e1
    have E : Hid (¬ (⟨x0, x1, x2, lc, lr⟩ : PDataM) = ⟨x0, y1, y2, mc, mr⟩) := fun h => e1 (by simp only [PDataM.mk.injEq] at h; exact h.2.1)
    clear e1
    go_wp2
    go_ret
    exact ⟨⟨_, rfl, iff_no E.out⟩, UP.out⟩
  subst e1
  have g1 : (x1 == x1) = true := by simp
  by_cases e2 : x2 = y2
  rotate_left
  · have g2 : (x2 == y2) = false := by simpa using e2
    have E : Hid (¬ (⟨x0, x1, x2, lc, lr⟩ : PDataM) = ⟨x0, x1, y2, mc, mr⟩) := fun h => e2 (by simp only [PDataM.mk.injEq] at h; exact h.2.2.1)
    clear e2
    go_wp2
    go_ret
    exact ⟨⟨_, rfl, iff_no E.out⟩, UP.out⟩
  subst e2
  have g2 : (x2 == x2) = true := by simp
  by_cases e3 : lc = mc
  rotate_left
  · have E3 : Hid (¬ lc = mc) := e3
    have E : Hid (¬ (⟨x0, x1, x2, lc, lr⟩ : PDataM) = ⟨x0, x1, x2, mc, mr⟩) := fun h => E3.out (by simp only [PDataM.mk.injEq] at h; exact h.2.2.2.1)
    clear e3
    go_wp2_with (go_at_call 49; refine (WC.out _ UP.out).mono ?_; rintro e w1 ⟨hs1, b1⟩; obtain rfl := hs1.no E3.out; clear hs1)
    go_ret
    exact ⟨⟨_, rfl, iff_no E.out⟩, bnext UP.out b1⟩
  subst e3
  by_cases e4 : lr = mr
  rotate_left
  · have E4 : Hid (¬ lr = mr) := e4
    have E : Hid (¬ (⟨x0, x1, x2, lc, lr⟩ : PDataM) = ⟨x0, x1, x2, lc, mr⟩) := fun h => E4.out (by simp only [PDataM.mk.injEq] at h; exact h.2.2.2.2)
    clear e4
    go_wp2_with (first
      | (go_at_call 48; refine (RC.out _ (bnext UP.out b1)).mono ?_; rintro e w2 ⟨hs2, b2⟩; obtain rfl := hs2.no E4.out; clear hs2)
      | (go_at_call 49; refine (WC.out _ UP.out).mono ?_; rintro e w1 ⟨hs1, b1⟩; obtain rfl := hs1.yes (by first | rfl | trivial); clear hs1; clear p4 q4; have p4 := (XA.out.later ha.out b1).1 4 _ rfl; have q4 := (XB.out.later hb.out b1).1 4 _ rfl))
    go_ret
    exact ⟨⟨_, rfl, iff_no E.out⟩, bnext UP.out (bnext b1 b2)⟩
  subst e4
  go_wp2_with (first
    | (go_at_call 48; refine (RC.out _ (bnext UP.out b1)).mono ?_; rintro e w2 ⟨hs2, b2⟩; obtain rfl := hs2.yes (by first | rfl | trivial); clear hs2)
    | (go_at_call 49; refine (WC.out _ UP.out).mono ?_; rintro e w1 ⟨hs1, b1⟩; obtain rfl := hs1.yes (by first | rfl | trivial); clear hs1; clear p4 q4; have p4 := (XA.out.later ha.out b1).1 4 _ rfl; have q4 := (XB.out.later hb.out b1).1 4 _ rfl))
  go_ret
  exact ⟨⟨_, rfl, iff_yes (by first | rfl | trivial)⟩, bnext UP.out (bnext b1 b2)⟩
end Go.Proofs.YteakbpcmafdikaaGreatDoor
