/- When numbers, plans are alike, as the document's answers have it. -/
import Derived.Test.YthhnmlhajfmhfaaPlcRep
import Derived.Test.YthhnmlhajfmhfaaObjSame
import Derived.BigQuiet
namespace Go.Proofs.Ythhnmlhajfmhfaa
open Go.ChangeShapes Go.WideShapes Go.ChangeAt Go.RowKit
set_option linter.unusedVariables false
set_option linter.unusedSimpArgs false
set_option maxRecDepth 100000 in
set_option maxHeartbeats 1000000 in
theorem rints_any {w : World} {v v' : Value} {l m : List Int} (h1 : IsNums w v l) (h2 : IsNums w v' m) :
    Calls Try.prog 14 #[v, v'] w fun e w' => Says e (l = m) ∧ Below w.heap.size w w' := by
  obtain ⟨a, c, rfl, lm, -, lx⟩ := LstA.open h1
  obtain ⟨b, d, rfl, mm, -, mx⟩ := LstA.open h2
  obtain ⟨n, en⟩ : ∃ n, l.length = n := ⟨_, rfl⟩
  rw [en] at lm lx ⊢
  clear h1 h2
  by_cases hlen : m.length = n
  · rw [hlen] at mm mx ⊢
    have LX : Hid (∀ k, k < n → ∃ b off x, a = some ⟨b, off, none⟩ ∧ Any8 b ∧ l[k]? = some x ∧ NumAt .i64 w b (off + k * 1) x) := lx
    have MX : Hid (∀ k, k < n → ∃ c off x, b = some ⟨c, off, none⟩ ∧ Any8 c ∧ m[k]? = some x ∧ NumAt .i64 w c (off + k * 1) x) := mx
    have HN : Hid (l.length = n ∧ m.length = n ∧ n ≤ maxLen) := ⟨en, hlen, lm⟩
    have hn : (n : Int) ≤ 9223372036854775807 := by unfold maxLen at lm; omega
    clear lx mx en hlen lm mm
    go_enter Try.func14, Try.ntmps14
    go_wp2
    go_loopw [5] (fun i wr => ∃ k : Nat, k ≤ n ∧ i = .int .i64 k ∧ (∀ j, j < k → l[j]? = m[j]?) ∧ Below w.heap.size w wr) (fun i _ => n - (intOf i).toNat)
    case atStart => exact ⟨0, Nat.zero_le _, rfl, (fun j hj => by omega), Below.refl _ _⟩
    case round =>
      obtain ⟨k, hk, rfl, hs, hbel⟩ := hrel
      have HB : Hid (Below w.heap.size w wr) := hbel
      have HS : Hid (∀ j, j < k → l[j]? = m[j]?) := hs
      clear hbel hs
      by_cases hlt : k < n
      · have hlt' : (k : Int) < n := by omega
        obtain ⟨q, off, x, rfl, -, hx, x0⟩ := LX.out k hlt
        obtain ⟨q', off', y, rfl, -, hy, y0⟩ := MX.out k hlt
        rw [Nat.mul_one] at x0 y0
        have HX : Hid (l[k]? = some x ∧ m[k]? = some y) := ⟨hx, hy⟩
        have x1 := cell_any x0 HB.out
        have y1 := cell_any y0 HB.out
        clear hx hy x0 y0
        by_cases e : x = y
        · have ne : (x != y) = false := by simpa using e
          have E : Hid (x = y) := e
          clear e
          go_wp2
          go_quiet (fail)
          go_wp2
          go_roundw
          case rel => exact ⟨k + 1, by omega, by go_num, same_next HS.out HX.out.1 HX.out.2 E.out, below_drewN HB.out _⟩
          case measure => simp [intOf]; omega
        · have ne : (x != y) = true := by simpa using e
          have E : Hid (¬ x = y) := e
          clear e
          go_wp2
          go_quiet (fail)
          go_wp2
          go_ret
          exact ⟨says_of (iff_no (list_at_ne HX.out.1 HX.out.2 E.out)), below_drewN HB.out _⟩
      · obtain rfl : k = n := by omega
        go_wp2
        go_ret
        exact ⟨says_of (iff_yes (list_upto HN.out.1 HN.out.2.1 HS.out)), HB.out⟩
  · have ne : ((n : Int) != (m.length : Int)) = true := by simp; omega
    have E : Hid (¬ l = m) := list_len_ne (by omega)
    clear lx mx
    go_enter Try.func14, Try.ntmps14
    go_wp2
    go_ret
    exact ⟨says_of (iff_no E.out), Below.refl _ _⟩
theorem plan_eta (x y : PlanZ) : x = y ↔ x.code = y.code ∧ x.data = y.data ∧ x.words = y.words ∧ x.bytes = y.bytes ∧ x.write = y.write := by
  cases x; cases y; simp
set_option maxRecDepth 100000 in
set_option maxHeartbeats 4000000 in
theorem rsame12_any {b b' : Nat} {w : World} {u v : Value} {x y : PlanZ} (h1 : IsPlan b w u x) (h2 : IsPlan b' w v y) :
    Calls Try.prog 12 #[u, v] w fun e w' => Says e (x = y) ∧ Below w.heap.size w w' := by
  obtain ⟨vc, vd, rfl, hc, hd, -⟩ := h1
  obtain ⟨uc, ud, rfl, kc, kd, -⟩ := h2
  have CC : Hid (∀ W, Below w.heap.size w W → Calls Try.prog 14 #[vc, uc] W fun e w' => Says e (x.code = y.code) ∧ Below W.heap.size W w') := fun W hW => rints_any (hc.isNums.later hW) (kc.isNums.later hW)
  have DC : Hid (∀ W, Below w.heap.size w W → Calls Try.prog 14 #[vd, ud] W fun e w' => Says e (x.data = y.data) ∧ Below W.heap.size W w') := fun W hW => rints_any (hd.isNums.later hW) (kd.isNums.later hW)
  obtain ⟨ca, cc, rfl, -, -, -⟩ := LstA.open hc.isNums
  obtain ⟨da, dc, rfl, -, -, -⟩ := LstA.open hd.isNums
  obtain ⟨ra, rc, rfl, -, -, -⟩ := LstA.open kc.isNums
  obtain ⟨sa, sc, rfl, -, -, -⟩ := LstA.open kd.isNums
  have PE : Hid ((x = y) ↔ (x.code = y.code ∧ x.data = y.data ∧ x.words = y.words ∧ x.bytes = y.bytes ∧ x.write = y.write)) := plan_eta x y
  generalize (x = y) = P at PE ⊢
  obtain ⟨xc, xd, x2, x3, x4⟩ := x
  obtain ⟨yc, yd, y2, y3, y4⟩ := y
  dsimp only at *
  clear hc hd kc kd
  generalize xc.length = n1 at CC
  generalize xd.length = n2 at DC
  generalize yc.length = m1 at CC
  generalize yd.length = m2 at DC
  obtain ⟨W0, eW0⟩ : ∃ W0, ((w.alloc (.cells #[.slice ca n1 cc, .slice da n2 dc, .int .i64 x2, .int .i64 x3, .int .i64 x4] 30)).alloc (.cells #[.slice ra m1 rc, .slice sa m2 sc, .int .i64 y2, .int .i64 y3, .int .i64 y4] 30)) = W0 := ⟨_, rfl⟩
  have UP : Hid (Below w.heap.size w W0) := by rw [← eW0]; exact keep_alloc8 (keep_alloc8 (Below.refl _ _) _) _
  have XA : Hid (XAt W0 w.heap.size [.slice ca n1 cc, .slice da n2 dc, .int .i64 x2, .int .i64 x3, .int .i64 x4]) := by rw [← eW0]; exact (XAt.new w #[.slice ca n1 cc, .slice da n2 dc, .int .i64 x2, .int .i64 x3, .int .i64 x4] 30).later (by simp) (keep_alloc8 (Below.refl _ _) _)
  have XB : Hid (XAt W0 (w.heap.size + 1) [.slice ra m1 rc, .slice sa m2 sc, .int .i64 y2, .int .i64 y3, .int .i64 y4]) := by
    have h := XAt.new (w.alloc (.cells #[.slice ca n1 cc, .slice da n2 dc, .int .i64 x2, .int .i64 x3, .int .i64 x4] 30)) #[.slice ra m1 rc, .slice sa m2 sc, .int .i64 y2, .int .i64 y3, .int .i64 y4] 30
    rw [World.size_alloc] at h; rw [← eW0]; exact h
  have ha : Hid (w.heap.size < W0.heap.size) := XA.out.lt (by simp)
  have hb : Hid (w.heap.size + 1 < W0.heap.size) := XB.out.lt (by simp)
  have p0 := XA.out.1 0 _ rfl
  have q0 := XB.out.1 0 _ rfl
  go_enter Try.func12, Try.ntmps12
  go_upto_region 1 with fail
  try rw [eW0]
  clear eW0
  by_cases e0 : xc = yc
  rotate_left
  · have E0 : Hid (¬ xc = yc) := e0
    clear e0
    go_wp2_with (go_at_call 14; refine (CC.out _ UP.out).mono ?_; rintro e w1 ⟨hs1, b1⟩; obtain rfl := hs1.no E0.out; clear hs1)
    go_ret
    exact ⟨⟨_, rfl, iff_no (fun h => E0.out (PE.out.1 h).1)⟩, bnext UP.out b1⟩
  have E0 : Hid (xc = yc) := e0
  clear e0
  by_cases e1 : xd = yd
  rotate_left
  · have E1 : Hid (¬ xd = yd) := e1
    clear e1
    go_wp2_with (first
      | (go_at_call 14; have q := b1; refine (DC.out _ (bnext UP.out b1)).mono ?_; rintro e w2 ⟨hs2, b2⟩; obtain rfl := hs2.no E1.out; clear hs2)
      | (go_at_call 14; refine (CC.out _ UP.out).mono ?_; rintro e w1 ⟨hs1, b1⟩; obtain rfl := hs1.yes E0.out; clear hs1; have p1 := (XA.out.later ha.out b1).1 1 _ rfl; have q1 := (XB.out.later hb.out b1).1 1 _ rfl))
    go_ret
    exact ⟨⟨_, rfl, iff_no (fun h => E1.out (PE.out.1 h).2.1)⟩, bnext UP.out (bnext b1 b2)⟩
  have E1 : Hid (xd = yd) := e1
  clear e1
  go_upto_region 1 with fail
  by_cases e2 : x2 = y2
  rotate_left
  · have g2 : (x2 == y2) = false := by simpa using e2
    have E2 : Hid (¬ x2 = y2) := e2
    clear e2
    go_wp2_with (first
      | (go_at_call 14; have q := b1; refine (DC.out _ (bnext UP.out b1)).mono ?_; rintro e w2 ⟨hs2, b2⟩; obtain rfl := hs2.yes E1.out; clear hs2; have p2 := ((XA.out.later ha.out b1).later (Nat.lt_of_lt_of_le ha.out b1.size) b2).1 2 _ rfl; have q2 := ((XB.out.later hb.out b1).later (Nat.lt_of_lt_of_le hb.out b1.size) b2).1 2 _ rfl)
      | (go_at_call 14; refine (CC.out _ UP.out).mono ?_; rintro e w1 ⟨hs1, b1⟩; obtain rfl := hs1.yes E0.out; clear hs1; have p1 := (XA.out.later ha.out b1).1 1 _ rfl; have q1 := (XB.out.later hb.out b1).1 1 _ rfl))
    go_ret
    exact ⟨⟨_, rfl, iff_no (fun h => E2.out (PE.out.1 h).2.2.1)⟩, bnext UP.out (bnext b1 b2)⟩
  subst e2
  have g2 : (x2 == x2) = true := by simp
  by_cases e3 : x3 = y3
  rotate_left
  · have g3 : (x3 == y3) = false := by simpa using e3
    have E3 : Hid (¬ x3 = y3) := e3
    clear e3
    go_wp2_with (first
      | (go_at_call 14; have q := b1; refine (DC.out _ (bnext UP.out b1)).mono ?_; rintro e w2 ⟨hs2, b2⟩; obtain rfl := hs2.yes E1.out; clear hs2; have A2 : XAt w2 _ _ := (XA.out.later ha.out b1).later (Nat.lt_of_lt_of_le ha.out b1.size) b2; have Q2 : XAt w2 _ _ := (XB.out.later hb.out b1).later (Nat.lt_of_lt_of_le hb.out b1.size) b2; have p2 := A2.1 2 _ rfl; have q2 := Q2.1 2 _ rfl; have p3 := A2.1 3 _ rfl; have q3 := Q2.1 3 _ rfl; clear A2 Q2)
      | (go_at_call 14; refine (CC.out _ UP.out).mono ?_; rintro e w1 ⟨hs1, b1⟩; obtain rfl := hs1.yes E0.out; clear hs1; have p1 := (XA.out.later ha.out b1).1 1 _ rfl; have q1 := (XB.out.later hb.out b1).1 1 _ rfl))
    go_ret
    exact ⟨⟨_, rfl, iff_no (fun h => E3.out (PE.out.1 h).2.2.2.1)⟩, bnext UP.out (bnext b1 b2)⟩
  subst e3
  have g3 : (x3 == x3) = true := by simp
  by_cases e4 : x4 = y4
  rotate_left
  · have g4 : (x4 == y4) = false := by simpa using e4
    have E4 : Hid (¬ x4 = y4) := e4
    clear e4
    go_wp2_with (first
      | (go_at_call 14; have q := b1; refine (DC.out _ (bnext UP.out b1)).mono ?_; rintro e w2 ⟨hs2, b2⟩; obtain rfl := hs2.yes E1.out; clear hs2; have A2 : XAt w2 _ _ := (XA.out.later ha.out b1).later (Nat.lt_of_lt_of_le ha.out b1.size) b2; have Q2 : XAt w2 _ _ := (XB.out.later hb.out b1).later (Nat.lt_of_lt_of_le hb.out b1.size) b2; have p2 := A2.1 2 _ rfl; have q2 := Q2.1 2 _ rfl; have p3 := A2.1 3 _ rfl; have q3 := Q2.1 3 _ rfl; have p4 := A2.1 4 _ rfl; have q4 := Q2.1 4 _ rfl; clear A2 Q2)
      | (go_at_call 14; refine (CC.out _ UP.out).mono ?_; rintro e w1 ⟨hs1, b1⟩; obtain rfl := hs1.yes E0.out; clear hs1; have p1 := (XA.out.later ha.out b1).1 1 _ rfl; have q1 := (XB.out.later hb.out b1).1 1 _ rfl))
    go_ret
    exact ⟨⟨_, rfl, iff_no (fun h => E4.out (PE.out.1 h).2.2.2.2)⟩, bnext UP.out (bnext b1 b2)⟩
  subst e4
  have g4 : (x4 == x4) = true := by simp
  go_wp2_with (first
    | (go_at_call 14; have q := b1; refine (DC.out _ (bnext UP.out b1)).mono ?_; rintro e w2 ⟨hs2, b2⟩; obtain rfl := hs2.yes E1.out; clear hs2; have A2 : XAt w2 _ _ := (XA.out.later ha.out b1).later (Nat.lt_of_lt_of_le ha.out b1.size) b2; have Q2 : XAt w2 _ _ := (XB.out.later hb.out b1).later (Nat.lt_of_lt_of_le hb.out b1.size) b2; have p2 := A2.1 2 _ rfl; have q2 := Q2.1 2 _ rfl; have p3 := A2.1 3 _ rfl; have q3 := Q2.1 3 _ rfl; have p4 := A2.1 4 _ rfl; have q4 := Q2.1 4 _ rfl; clear A2 Q2)
    | (go_at_call 14; refine (CC.out _ UP.out).mono ?_; rintro e w1 ⟨hs1, b1⟩; obtain rfl := hs1.yes E0.out; clear hs1; have p1 := (XA.out.later ha.out b1).1 1 _ rfl; have q1 := (XB.out.later hb.out b1).1 1 _ rfl))
  go_ret
  exact ⟨⟨_, rfl, iff_yes (PE.out.2 ⟨E0.out, E1.out, by first | rfl | trivial, by first | rfl | trivial, by first | rfl | trivial⟩)⟩, bnext UP.out (bnext b1 b2)⟩
end Go.Proofs.Ythhnmlhajfmhfaa
