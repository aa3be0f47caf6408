/- Programs alike, whole ones, as the document's answer has it. No condition. -/
import Derived.Test.YteakbpcmafdikaaGreatDoorNamEqs
import Derived.Deep.RegionHeld3
namespace Go.Proofs.YteakbpcmafdikaaGreatDoor
open Go.ChangeShapes Go.WideShapes Go.ChangeAt Go.RowKit
set_option linter.unusedVariables false
set_option linter.unusedSimpArgs false
theorem prog_eta (p q : ProgM) : p = q ↔ p.entry = q.entry ∧ p.funcs = q.funcs ∧ p.datas = q.datas := by
  cases p; cases q; simp; constructor
  · rintro ⟨h1, h2, h3⟩; exact ⟨h3, h1, h2⟩
  · rintro ⟨h1, h2, h3⟩; exact ⟨h2, h3, h1⟩
set_option maxRecDepth 100000 in
set_option maxHeartbeats 8000000 in
theorem rsame11_any {A A' : Nat → Prop} {w : World} {u v : Value} {p q : ProgM} (h1 : IsProg A w u p) (h2 : IsProg A' w v q) :
    Calls Tryz.prog 13 #[u, v] w fun e w' => Says e (p = q) ∧ Below w.heap.size w w' := by
  obtain ⟨vf, vd, rfl, hf, hd⟩ := h1
  obtain ⟨uf, ud, rfl, kf, kd⟩ := h2
  obtain ⟨fa, fc, rfl, lm, -, lx⟩ := LstA.open hf
  obtain ⟨ga, gc, rfl, mm, -, mx⟩ := LstA.open kf
  obtain ⟨da, dc, rfl, dm, -, dx⟩ := LstA.open hd
  obtain ⟨ea, ec, rfl, em, -, ex⟩ := LstA.open kd
  have PE : Hid ((p = q) ↔ (p.entry = q.entry ∧ p.funcs = q.funcs ∧ p.datas = q.datas)) := prog_eta p q
  generalize (p = q) = P at PE ⊢
  obtain ⟨n, en⟩ : ∃ n, p.funcs.length = n := ⟨_, rfl⟩
  obtain ⟨m, em2⟩ : ∃ m, q.funcs.length = m := ⟨_, rfl⟩
  obtain ⟨r, er⟩ : ∃ r, p.datas.length = r := ⟨_, rfl⟩
  obtain ⟨s, es⟩ : ∃ s, q.datas.length = s := ⟨_, rfl⟩
  obtain ⟨E, eE⟩ : ∃ E, p.entry = E := ⟨_, rfl⟩
  obtain ⟨E', eE'⟩ : ∃ E, q.entry = E := ⟨_, rfl⟩
  rw [en] at lm lx ⊢
  rw [em2] at mm mx ⊢
  rw [er] at dm dx ⊢
  rw [es] at em ex ⊢
  rw [eE, eE'] at PE ⊢
  have HN : Hid (p.funcs.length = n ∧ q.funcs.length = m ∧ p.datas.length = r ∧ q.datas.length = s) := ⟨en, em2, er, es⟩
  have hn : (n : Int) ≤ 9223372036854775807 := by unfold maxLen at lm; omega
  have hr : (r : Int) ≤ 9223372036854775807 := by unfold maxLen at dm; omega
  have LX : Hid (∀ k, k < n → ∃ b off x, fa = some ⟨b, off, none⟩ ∧ A b ∧ p.funcs[k]? = some x ∧ PFAt A w b (off + k * 5) x) := lx
  have MX : Hid (∀ k, k < m → ∃ c off x, ga = some ⟨c, off, none⟩ ∧ A' c ∧ q.funcs[k]? = some x ∧ PFAt A' w c (off + k * 5) x) := mx
  have DX : Hid (∀ k, k < r → ∃ b off x, da = some ⟨b, off, none⟩ ∧ A b ∧ p.datas[k]? = some x ∧ PDAt A w b (off + k * 5) x) := dx
  have EX : Hid (∀ k, k < s → ∃ c off x, ea = some ⟨c, off, none⟩ ∧ A' c ∧ q.datas[k]? = some x ∧ PDAt A' w c (off + k * 5) x) := ex
  clear hf hd kf kd lx mx dx ex lm mm dm em en em2 er es eE eE'
  obtain ⟨W0, eW0⟩ : ∃ W0, ((w.alloc (.cells #[.slice fa n fc, .slice da r dc, .int .i64 E] 28)).alloc (.cells #[.slice ga m gc, .slice ea s ec, .int .i64 E'] 28)) = W0 := ⟨_, rfl⟩
  have UP : Hid (Below w.heap.size w W0) := by rw [← eW0]; exact keep_alloc8 (keep_alloc8 (Below.refl _ _) _) _
  have XA : Hid (XAt W0 w.heap.size [.slice fa n fc, .slice da r dc, .int .i64 E]) := by rw [← eW0]; exact (XAt.new w #[.slice fa n fc, .slice da r dc, .int .i64 E] 28).later (by simp) (keep_alloc8 (Below.refl _ _) _)
  have XB : Hid (XAt W0 (w.heap.size + 1) [.slice ga m gc, .slice ea s ec, .int .i64 E']) := by
    have h := XAt.new (w.alloc (.cells #[.slice fa n fc, .slice da r dc, .int .i64 E] 28)) #[.slice ga m gc, .slice ea s ec, .int .i64 E'] 28
    rw [World.size_alloc] at h; rw [← eW0]; exact h
  have ha : Hid (w.heap.size < W0.heap.size) := XA.out.lt (by simp)
  have hb : Hid (w.heap.size + 1 < W0.heap.size) := XB.out.lt (by simp)
  have p0 := XA.out.1 0 _ rfl
  have p1 := XA.out.1 1 _ rfl
  have p2 := XA.out.1 2 _ rfl
  have q0 := XB.out.1 0 _ rfl
  have q1 := XB.out.1 1 _ rfl
  have q2 := XB.out.1 2 _ rfl
  go_enter Tryz.func13, Tryz.ntmps13
  go_upto_region 1 with fail
  try rw [eW0]
  clear eW0
  by_cases hE : E = E'
  rotate_left
  · have c1 : (E != E') = true := by simpa using hE
    have NE : Hid (¬ P) := fun h => hE (PE.out.1 h).1
    clear hE
    go_wp2
    go_ret
    exact ⟨⟨_, rfl, iff_no NE.out⟩, UP.out⟩
  subst hE
  have c1 : (E != E) = false := by simp
  by_cases hnm : n = m
  rotate_left
  · have c2 : ((n : Int) != (m : Int)) = true := by simp; omega
    have NE : Hid (¬ P) := fun h => hnm (by have h1 := congrArg List.length (PE.out.1 h).2.1; have := HN.out; omega)
    clear hnm
    go_wp2
    go_ret
    exact ⟨⟨_, rfl, iff_no NE.out⟩, UP.out⟩
  subst hnm
  have c2 : ((n : Int) != (n : Int)) = false := by simp
  by_cases hrs : r = s
  rotate_left
  · have c3 : ((r : Int) != (s : Int)) = true := by simp; omega
    have NE : Hid (¬ P) := fun h => hrs (by have h1 := congrArg List.length (PE.out.1 h).2.2; have := HN.out; omega)
    clear hrs
    go_wp2
    go_ret
    exact ⟨⟨_, rfl, iff_no NE.out⟩, UP.out⟩
  subst hrs
  have c3 : ((r : Int) != (r : Int)) = false := by simp
  go_wp2
  go_loopw [5] (fun i wr => ∃ k : Nat, k ≤ n ∧ i = .int .i64 k ∧ (∀ j, j < k → p.funcs[j]? = q.funcs[j]?) ∧ Below W0.heap.size W0 wr) (fun i _ => n - (intOf i).toNat)
  case atStart => exact ⟨0, Nat.zero_le _, rfl, (fun j hj => by omega), Below.refl _ _⟩
  case round =>
    obtain ⟨k, hk, rfl, hs, hbel⟩ := hrel
    have HB : Hid (Below W0.heap.size W0 wr) := hbel
    have HS : Hid (∀ j, j < k → p.funcs[j]? = q.funcs[j]?) := hs
    clear hbel hs p0 p1 p2 q0 q1 q2
    have p0 := cell_any (XA.out.1 0 _ rfl) HB.out
    have q0 := cell_any (XB.out.1 0 _ rfl) HB.out
    have p1 := cell_any (XA.out.1 1 _ rfl) HB.out
    have q1 := cell_any (XB.out.1 1 _ rfl) HB.out
    by_cases hlt : k < n
    · have hlt' : (k : Int) < n := by omega
      obtain ⟨o1, off, x, rfl, -, hx, xc, xr, x0, x1, x2, x3, x4, x5, x6⟩ := LX.out k hlt
      obtain ⟨o2, off', y, rfl, -, hy, yc, yr, y0, y1, y2, y3, y4, y5, y6⟩ := MX.out k hlt
      have HX : Hid (p.funcs[k]? = some x ∧ q.funcs[k]? = some y) := ⟨hx, hy⟩
      have SM : Hid (∀ W, Below w.heap.size w W → Calls Tryz.prog 28 #[.agg #[.string x.name, .bool x.keep, .bool x.leaf, xc, xr], .agg #[.string y.name, .bool y.keep, .bool y.leaf, yc, yr]] W fun e w' => Says e (x = y) ∧ Below W.heap.size W w') := fun W hW => samefunc_any ⟨_, _, rfl, x5.keep (Stay.of_below hW), x6.keep (Stay.of_below hW)⟩ ⟨_, _, rfl, y5.keep (Stay.of_below hW), y6.keep (Stay.of_below hW)⟩
      obtain ⟨xa1, xc1, rfl, -⟩ := x5.1
      obtain ⟨xa2, xc2, rfl, -⟩ := x6
      obtain ⟨ya1, yc1, rfl, -⟩ := y5.1
      obtain ⟨ya2, yc2, rfl, -⟩ := y6
      have UB : Hid (Below w.heap.size w wr) := bnext UP.out HB.out
      have z0 := cell_any x0 UB.out
      have z1 := cell_any x1 UB.out
      have z2 := cell_any x2 UB.out
      have z3 := cell_any x3 UB.out
      have z4 := cell_any x4 UB.out
      have t0 := cell_any y0 UB.out
      have t1 := cell_any y1 UB.out
      have t2 := cell_any y2 UB.out
      have t3 := cell_any y3 UB.out
      have t4 := cell_any y4 UB.out
      have PZ : Hid (wr.cell? ⟨w.heap.size, 0, none⟩ = some (.slice (some ⟨o1, off, none⟩) n fc) ∧ wr.cell? ⟨w.heap.size + 1, 0, none⟩ = some (.slice (some ⟨o2, off', none⟩) n gc)) := ⟨p0, q0⟩
      clear x0 x1 x2 x3 x4 y0 y1 y2 y3 y4 hx hy p1 q1
      have BC : Hid (∀ W, Below wr.heap.size wr W → Below wr.heap.size wr W ∧ W.cell? ⟨w.heap.size, 0, none⟩ = some (.slice (some ⟨o1, off, none⟩) n fc) ∧ W.cell? ⟨w.heap.size + 1, 0, none⟩ = some (.slice (some ⟨o2, off', none⟩) n gc) ∧ W.cell? ⟨o1, off + k * 5, none⟩ = some (.string x.name) ∧ W.cell? ⟨o1, off + k * 5 + 1, none⟩ = some (.bool x.keep) ∧ W.cell? ⟨o1, off + k * 5 + 2, none⟩ = some (.bool x.leaf) ∧ W.cell? ⟨o1, off + k * 5 + 3, none⟩ = some (.slice xa1 x.code.length xc1) ∧ W.cell? ⟨o1, off + k * 5 + 4, none⟩ = some (.slice xa2 x.rels.length xc2) ∧ W.cell? ⟨o2, off' + k * 5, none⟩ = some (.string y.name) ∧ W.cell? ⟨o2, off' + k * 5 + 1, none⟩ = some (.bool y.keep) ∧ W.cell? ⟨o2, off' + k * 5 + 2, none⟩ = some (.bool y.leaf) ∧ W.cell? ⟨o2, off' + k * 5 + 3, none⟩ = some (.slice ya1 y.code.length yc1) ∧ W.cell? ⟨o2, off' + k * 5 + 4, none⟩ = some (.slice ya2 y.rels.length yc2)) := fun W hW => ⟨hW, cell_any PZ.out.1 hW, cell_any PZ.out.2 hW, cell_any z0 hW, cell_any z1 hW, cell_any z2 hW, cell_any z3 hW, cell_any z4 hW, cell_any t0 hW, cell_any t1 hW, cell_any t2 hW, cell_any t3 hW, cell_any t4 hW⟩
      by_cases e : x = y
      · have EE : Hid (x = y) := e
        clear e
        go_upto_region 6 with fail
        go_region_held3 (fun W => Below wr.heap.size wr W ∧ W.cell? ⟨w.heap.size, 0, none⟩ = some (.slice (some ⟨o1, off, none⟩) n fc) ∧ W.cell? ⟨w.heap.size + 1, 0, none⟩ = some (.slice (some ⟨o2, off', none⟩) n gc) ∧ W.cell? ⟨o1, off + k * 5, none⟩ = some (.string x.name) ∧ W.cell? ⟨o1, off + k * 5 + 1, none⟩ = some (.bool x.keep) ∧ W.cell? ⟨o1, off + k * 5 + 2, none⟩ = some (.bool x.leaf) ∧ W.cell? ⟨o1, off + k * 5 + 3, none⟩ = some (.slice xa1 x.code.length xc1) ∧ W.cell? ⟨o1, off + k * 5 + 4, none⟩ = some (.slice xa2 x.rels.length xc2) ∧ W.cell? ⟨o2, off' + k * 5, none⟩ = some (.string y.name) ∧ W.cell? ⟨o2, off' + k * 5 + 1, none⟩ = some (.bool y.keep) ∧ W.cell? ⟨o2, off' + k * 5 + 2, none⟩ = some (.bool y.leaf) ∧ W.cell? ⟨o2, off' + k * 5 + 3, none⟩ = some (.slice ya1 y.code.length yc1) ∧ W.cell? ⟨o2, off' + k * 5 + 4, none⟩ = some (.slice ya2 y.rels.length yc2))
          (first
          | exact BC.out _ k5
          | exact BC.out _ (Below.refl _ _)
          | exact BC.out _ (Below.refl _ _).drew)
          (first
          | (go_at_call 28; refine (SM.out _ (by first | exact UB.out | exact bnext UB.out (Below.refl _ _).drew)).mono ?_; rintro e w5 ⟨hs5, b5⟩; obtain rfl := hs5.yes EE.out; clear hs5; have k5 : Below wr.heap.size wr w5 := (by first | exact b5 | exact (Below.refl _ _).drew.trans b5))
          | fail)
        all_goals
          go_wp2
          go_roundw
          case rel => exact ⟨k + 1, by omega, by go_num, same_next HS.out HX.out.1 HX.out.2 EE.out, bnext HB.out k5⟩
          case measure => simp [intOf]; omega
      · have EE : Hid (¬ x = y) := e
        clear e
        go_upto_region 6 with fail
        go_region_held3 (fun W => Below wr.heap.size wr W ∧ W.cell? ⟨w.heap.size, 0, none⟩ = some (.slice (some ⟨o1, off, none⟩) n fc) ∧ W.cell? ⟨w.heap.size + 1, 0, none⟩ = some (.slice (some ⟨o2, off', none⟩) n gc) ∧ W.cell? ⟨o1, off + k * 5, none⟩ = some (.string x.name) ∧ W.cell? ⟨o1, off + k * 5 + 1, none⟩ = some (.bool x.keep) ∧ W.cell? ⟨o1, off + k * 5 + 2, none⟩ = some (.bool x.leaf) ∧ W.cell? ⟨o1, off + k * 5 + 3, none⟩ = some (.slice xa1 x.code.length xc1) ∧ W.cell? ⟨o1, off + k * 5 + 4, none⟩ = some (.slice xa2 x.rels.length xc2) ∧ W.cell? ⟨o2, off' + k * 5, none⟩ = some (.string y.name) ∧ W.cell? ⟨o2, off' + k * 5 + 1, none⟩ = some (.bool y.keep) ∧ W.cell? ⟨o2, off' + k * 5 + 2, none⟩ = some (.bool y.leaf) ∧ W.cell? ⟨o2, off' + k * 5 + 3, none⟩ = some (.slice ya1 y.code.length yc1) ∧ W.cell? ⟨o2, off' + k * 5 + 4, none⟩ = some (.slice ya2 y.rels.length yc2))
          (first
          | exact BC.out _ k5
          | exact BC.out _ (Below.refl _ _)
          | exact BC.out _ (Below.refl _ _).drew)
          (first
          | (go_at_call 28; refine (SM.out _ (by first | exact UB.out | exact bnext UB.out (Below.refl _ _).drew)).mono ?_; rintro e w5 ⟨hs5, b5⟩; obtain rfl := hs5.no EE.out; clear hs5; have k5 : Below wr.heap.size wr w5 := (by first | exact b5 | exact (Below.refl _ _).drew.trans b5))
          | fail)
        all_goals
          go_wp2
          go_ret
          exact ⟨⟨_, rfl, iff_no (fun h => list_at_ne HX.out.1 HX.out.2 EE.out (PE.out.1 h).2.1)⟩, bnext UP.out (bnext HB.out k5)⟩
    · have ek : n = k := by omega
      subst ek
      have FE : Hid (p.funcs = q.funcs) := list_upto HN.out.1 HN.out.2.1 HS.out
      have UB0 : Hid (Below w.heap.size w wr) := bnext UP.out HB.out
      go_wp2
      clear p0 q0 HS
      go_loopw [6] (fun i wr => ∃ k : Nat, k ≤ r ∧ i = .int .i64 k ∧ (∀ j, j < k → p.datas[j]? = q.datas[j]?) ∧ Below W0.heap.size W0 wr) (fun i _ => r - (intOf i).toNat)
      case atStart => exact ⟨0, Nat.zero_le _, rfl, (fun j hj => by omega), HB.out⟩
      case round =>
        obtain ⟨k, hk, rfl, hs, hbel⟩ := hrel
        have HS : Hid (∀ j, j < k → p.datas[j]? = q.datas[j]?) := hs
        clear hs p1 q1 HB UB0
        have HB : Hid (Below W0.heap.size W0 wr) := hbel
        clear hbel
        have p1 := cell_any (XA.out.1 1 _ rfl) HB.out
        have q1 := cell_any (XB.out.1 1 _ rfl) HB.out
        by_cases hlt : k < r
        · have hlt' : (k : Int) < r := by omega
          obtain ⟨o1, off, x, rfl, -, hx, xc, xr, x0, x1, x2, x3, x4, x5, x6⟩ := DX.out k hlt
          obtain ⟨o2, off', y, rfl, -, hy, yc, yr, y0, y1, y2, y3, y4, y5, y6⟩ := EX.out k hlt
          have HX : Hid (p.datas[k]? = some x ∧ q.datas[k]? = some y) := ⟨hx, hy⟩
          have SM : Hid (∀ W, Below w.heap.size w W → Calls Tryz.prog 29 #[.agg #[.int .i64 x.align, .bool x.fixed, .int .i64 x.size, xc, xr], .agg #[.int .i64 y.align, .bool y.fixed, .int .i64 y.size, yc, yr]] W fun e w' => Says e (x = y) ∧ Below W.heap.size W w') := fun W hW => samedata_any ⟨_, _, rfl, x5.keep (Stay.of_below hW), x6.keep (Stay.of_below hW)⟩ ⟨_, _, rfl, y5.keep (Stay.of_below hW), y6.keep (Stay.of_below hW)⟩
          obtain ⟨xa1, xc1, rfl, -⟩ := x5.1
          obtain ⟨xa2, xc2, rfl, -⟩ := x6
          obtain ⟨ya1, yc1, rfl, -⟩ := y5.1
          obtain ⟨ya2, yc2, rfl, -⟩ := y6
          have UB : Hid (Below w.heap.size w wr) := bnext UP.out HB.out
          have z0 := cell_any x0 UB.out
          have z1 := cell_any x1 UB.out
          have z2 := cell_any x2 UB.out
          have z3 := cell_any x3 UB.out
          have z4 := cell_any x4 UB.out
          have t0 := cell_any y0 UB.out
          have t1 := cell_any y1 UB.out
          have t2 := cell_any y2 UB.out
          have t3 := cell_any y3 UB.out
          have t4 := cell_any y4 UB.out
          have PZ : Hid (wr.cell? ⟨w.heap.size, 1, none⟩ = some (.slice (some ⟨o1, off, none⟩) r dc) ∧ wr.cell? ⟨w.heap.size + 1, 1, none⟩ = some (.slice (some ⟨o2, off', none⟩) r ec)) := ⟨p1, q1⟩
          clear x0 x1 x2 x3 x4 y0 y1 y2 y3 y4 hx hy
          have BC : Hid (∀ W, Below wr.heap.size wr W → Below wr.heap.size wr W ∧ W.cell? ⟨w.heap.size, 1, none⟩ = some (.slice (some ⟨o1, off, none⟩) r dc) ∧ W.cell? ⟨w.heap.size + 1, 1, none⟩ = some (.slice (some ⟨o2, off', none⟩) r ec) ∧ W.cell? ⟨o1, off + k * 5, none⟩ = some (.int .i64 x.align) ∧ W.cell? ⟨o1, off + k * 5 + 1, none⟩ = some (.bool x.fixed) ∧ W.cell? ⟨o1, off + k * 5 + 2, none⟩ = some (.int .i64 x.size) ∧ W.cell? ⟨o1, off + k * 5 + 3, none⟩ = some (.slice xa1 x.bytes.length xc1) ∧ W.cell? ⟨o1, off + k * 5 + 4, none⟩ = some (.slice xa2 x.rels.length xc2) ∧ W.cell? ⟨o2, off' + k * 5, none⟩ = some (.int .i64 y.align) ∧ W.cell? ⟨o2, off' + k * 5 + 1, none⟩ = some (.bool y.fixed) ∧ W.cell? ⟨o2, off' + k * 5 + 2, none⟩ = some (.int .i64 y.size) ∧ W.cell? ⟨o2, off' + k * 5 + 3, none⟩ = some (.slice ya1 y.bytes.length yc1) ∧ W.cell? ⟨o2, off' + k * 5 + 4, none⟩ = some (.slice ya2 y.rels.length yc2)) := fun W hW => ⟨hW, cell_any PZ.out.1 hW, cell_any PZ.out.2 hW, cell_any z0 hW, cell_any z1 hW, cell_any z2 hW, cell_any z3 hW, cell_any z4 hW, cell_any t0 hW, cell_any t1 hW, cell_any t2 hW, cell_any t3 hW, cell_any t4 hW⟩
          by_cases e : x = y
          · have EE : Hid (x = y) := e
            clear e
            go_upto_region 11 with fail
            go_region_held3 (fun W => Below wr.heap.size wr W ∧ W.cell? ⟨w.heap.size, 1, none⟩ = some (.slice (some ⟨o1, off, none⟩) r dc) ∧ W.cell? ⟨w.heap.size + 1, 1, none⟩ = some (.slice (some ⟨o2, off', none⟩) r ec) ∧ W.cell? ⟨o1, off + k * 5, none⟩ = some (.int .i64 x.align) ∧ W.cell? ⟨o1, off + k * 5 + 1, none⟩ = some (.bool x.fixed) ∧ W.cell? ⟨o1, off + k * 5 + 2, none⟩ = some (.int .i64 x.size) ∧ W.cell? ⟨o1, off + k * 5 + 3, none⟩ = some (.slice xa1 x.bytes.length xc1) ∧ W.cell? ⟨o1, off + k * 5 + 4, none⟩ = some (.slice xa2 x.rels.length xc2) ∧ W.cell? ⟨o2, off' + k * 5, none⟩ = some (.int .i64 y.align) ∧ W.cell? ⟨o2, off' + k * 5 + 1, none⟩ = some (.bool y.fixed) ∧ W.cell? ⟨o2, off' + k * 5 + 2, none⟩ = some (.int .i64 y.size) ∧ W.cell? ⟨o2, off' + k * 5 + 3, none⟩ = some (.slice ya1 y.bytes.length yc1) ∧ W.cell? ⟨o2, off' + k * 5 + 4, none⟩ = some (.slice ya2 y.rels.length yc2))
              (first
              | exact BC.out _ k5
              | exact BC.out _ (Below.refl _ _)
              | exact BC.out _ (Below.refl _ _).drew)
              (first
              | (go_at_call 29; refine (SM.out _ (by first | exact UB.out | exact bnext UB.out (Below.refl _ _).drew)).mono ?_; rintro e w5 ⟨hs5, b5⟩; obtain rfl := hs5.yes EE.out; clear hs5; have k5 : Below wr.heap.size wr w5 := (by first | exact b5 | exact (Below.refl _ _).drew.trans b5))
              | fail)
            all_goals
              go_wp2
              go_roundw
              case rel => exact ⟨k + 1, by omega, by go_num, same_next HS.out HX.out.1 HX.out.2 EE.out, bnext HB.out k5⟩
              case measure => simp [intOf]; omega
          · have EE : Hid (¬ x = y) := e
            clear e
            go_upto_region 11 with fail
            go_region_held3 (fun W => Below wr.heap.size wr W ∧ W.cell? ⟨w.heap.size, 1, none⟩ = some (.slice (some ⟨o1, off, none⟩) r dc) ∧ W.cell? ⟨w.heap.size + 1, 1, none⟩ = some (.slice (some ⟨o2, off', none⟩) r ec) ∧ W.cell? ⟨o1, off + k * 5, none⟩ = some (.int .i64 x.align) ∧ W.cell? ⟨o1, off + k * 5 + 1, none⟩ = some (.bool x.fixed) ∧ W.cell? ⟨o1, off + k * 5 + 2, none⟩ = some (.int .i64 x.size) ∧ W.cell? ⟨o1, off + k * 5 + 3, none⟩ = some (.slice xa1 x.bytes.length xc1) ∧ W.cell? ⟨o1, off + k * 5 + 4, none⟩ = some (.slice xa2 x.rels.length xc2) ∧ W.cell? ⟨o2, off' + k * 5, none⟩ = some (.int .i64 y.align) ∧ W.cell? ⟨o2, off' + k * 5 + 1, none⟩ = some (.bool y.fixed) ∧ W.cell? ⟨o2, off' + k * 5 + 2, none⟩ = some (.int .i64 y.size) ∧ W.cell? ⟨o2, off' + k * 5 + 3, none⟩ = some (.slice ya1 y.bytes.length yc1) ∧ W.cell? ⟨o2, off' + k * 5 + 4, none⟩ = some (.slice ya2 y.rels.length yc2))
              (first
              | exact BC.out _ k5
              | exact BC.out _ (Below.refl _ _)
              | exact BC.out _ (Below.refl _ _).drew)
              (first
              | (go_at_call 29; refine (SM.out _ (by first | exact UB.out | exact bnext UB.out (Below.refl _ _).drew)).mono ?_; rintro e w5 ⟨hs5, b5⟩; obtain rfl := hs5.no EE.out; clear hs5; have k5 : Below wr.heap.size wr w5 := (by first | exact b5 | exact (Below.refl _ _).drew.trans b5))
              | fail)
            all_goals
              go_wp2
              go_ret
              exact ⟨⟨_, rfl, iff_no (fun h => list_at_ne HX.out.1 HX.out.2 EE.out (PE.out.1 h).2.2)⟩, bnext UP.out (bnext HB.out k5)⟩
        · have ek : r = k := by omega
          subst ek
          go_wp2
          go_ret
          exact ⟨⟨_, rfl, iff_yes (PE.out.2 ⟨by first | rfl | trivial, FE.out, list_upto HN.out.2.2.1 HN.out.2.2.2 HS.out⟩)⟩, bnext UP.out HB.out⟩
end Go.Proofs.YteakbpcmafdikaaGreatDoor
