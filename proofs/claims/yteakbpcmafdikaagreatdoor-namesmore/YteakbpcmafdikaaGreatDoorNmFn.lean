/- What is asked of a function's instructions and relocations: one contract a function. Has each call a relocation, and does each way lead into the code? One contract a function. -/
import Derived.Test.YteakbpcmafdikaaGreatDoorNmData
namespace Go.Proofs.YteakbpcmafdikaaGreatDoor
open Go.ChangeShapes Go.WideShapes Go.ChangeAt Go.RowKit Go.Deep
set_option linter.unusedVariables false
set_option linter.unusedSimpArgs false
set_option maxRecDepth 100000
theorem leads_any (op a b c imm : Int) (w : World) (h0 : 0 ≤ op) (h1 : op < 26) : Calls Tryz.prog 129 #[.agg #[.int .i64 op, .int .i64 a, .int .i64 b, .int .i64 c, .int .i64 imm]] w fun e w' => e = .returned (.bool (decide (kindZ op = 2 ∨ kindZ op = 3))) ∧ Below w.heap.size w w' := by
  have HK : Hid (∀ W, Calls Tryz.prog 130 #[.agg #[.int .i64 op, .int .i64 a, .int .i64 b, .int .i64 c, .int .i64 imm]] W fun e w' => e = .returned (.int .i64 (kindZ op)) ∧ Below W.heap.size W w') := fun W => kind_any op a b c imm W h0 h1
  generalize kindZ op = k at HK ⊢
  by_cases h2 : k = 2
  · subst h2
    go_enter Tryz.func129, Tryz.ntmps129
    go_wp2_with (go_at_call 130; refine (HK.out _).mono ?_; rintro e w1 ⟨rfl, hb⟩)
    go_ret
    exact ⟨ret_bool (by simp), bnext (keep_alloc8 (Below.refl _ _) _) hb⟩
  by_cases h3 : k = 3
  · subst h3
    go_enter Tryz.func129, Tryz.ntmps129
    go_wp2_with (go_at_call 130; refine (HK.out _).mono ?_; rintro e w1 ⟨rfl, hb⟩)
    go_ret
    exact ⟨ret_bool (by simp), bnext (keep_alloc8 (Below.refl _ _) _) hb⟩
  have q2 : (k == 2) = false := by simpa using h2
  have q3 : (k == 3) = false := by simpa using h3
  have E : Hid (decide (k = 2 ∨ k = 3) = false) := by unfold Hid; simp [h2, h3]
  rw [E.out]
  clear h2 h3 E
  go_enter Tryz.func129, Tryz.ntmps129
  go_wp2_with (go_at_call 130; refine (HK.out _).mono ?_; rintro e w1 ⟨rfl, hb⟩)
  go_ret
  exact ⟨rfl, bnext (keep_alloc8 (Below.refl _ _) _) hb⟩
theorem falls10 (op a b c imm : Int) (w : World) (h0 : 0 ≤ op) (h1 : op < 26) : Calls Tryz.prog 115 #[.agg #[.int .i64 op, .int .i64 a, .int .i64 b, .int .i64 c, .int .i64 imm]] w fun e w' => e = .returned (.bool (decide (kindZ op ≠ 3 ∧ kindZ op ≠ 5))) ∧ Below w.heap.size w w' := by
  have HK : Hid (∀ W, Calls Tryz.prog 130 #[.agg #[.int .i64 op, .int .i64 a, .int .i64 b, .int .i64 c, .int .i64 imm]] W fun e w' => e = .returned (.int .i64 (kindZ op)) ∧ Below W.heap.size W w') := fun W => kind_any op a b c imm W h0 h1
  generalize kindZ op = k at HK ⊢
  by_cases h2 : k = 3
  · subst h2
    go_enter Tryz.func115, Tryz.ntmps115
    go_wp2_with (go_at_call 130; refine (HK.out _).mono ?_; rintro e w1 ⟨rfl, hb⟩)
    go_ret
    exact ⟨ret_bool (by simp), bnext (keep_alloc8 (Below.refl _ _) _) hb⟩
  by_cases h3 : k = 5
  · subst h3
    go_enter Tryz.func115, Tryz.ntmps115
    go_wp2_with (go_at_call 130; refine (HK.out _).mono ?_; rintro e w1 ⟨rfl, hb⟩)
    go_ret
    exact ⟨ret_bool (by simp), bnext (keep_alloc8 (Below.refl _ _) _) hb⟩
  have q2 : (k != 3) = true := by simpa using h2
  have q3 : (k != 5) = true := by simpa using h3
  have E : Hid (decide (k ≠ 3 ∧ k ≠ 5) = true) := by unfold Hid; simp [h2, h3]
  rw [E.out]
  clear h2 h3 E
  go_enter Tryz.func115, Tryz.ntmps115
  go_wp2_with (go_at_call 130; refine (HK.out _).mono ?_; rintro e w1 ⟨rfl, hb⟩)
  go_ret
  exact ⟨rfl, bnext (keep_alloc8 (Below.refl _ _) _) hb⟩
theorem goes_any (xp xk xd : Int) (xm : ByteArray) (op a b c imm : Int) (w : World) : Calls Tryz.prog 128 #[.agg #[.int .i64 xp, .int .i64 xk, .string xm, .int .i64 xd], .agg #[.int .i64 op, .int .i64 a, .int .i64 b, .int .i64 c, .int .i64 imm]] w fun e w' => e = .returned (.bool (goesB ⟨xp, xk, xm, xd⟩ op imm)) ∧ Below w.heap.size w w' := by
  have UP : Hid (Below w.heap.size w ((w.alloc (.cells #[.int .i64 xp, .int .i64 xk, .string xm, .int .i64 xd] 55)).alloc (.cells #[.int .i64 op, .int .i64 a, .int .i64 b, .int .i64 c, .int .i64 imm] 112))) := keep_alloc8 (keep_alloc8 (Below.refl _ _) _) _
  obtain ⟨G, eG⟩ : ∃ G, G = goesB ⟨xp, xk, xm, xd⟩ op imm := ⟨_, rfl⟩
  have HG : Hid (G = decide (imm = 0 ∧ (xk = 1 ∧ (op = 20 ∨ op = 19) ∧ xd = 0 ∨ xk = 2 ∧ op = 9 ∨ xk = 3 ∧ op = 10))) := by rw [eG]; rfl
  rw [← eG]
  clear eG
  by_cases hi : imm = 0
  · subst hi
    by_cases k1 : xk = 1
    · subst k1
      by_cases o1 : op = 20
      · subst o1
        by_cases d0 : xd = 0
        · subst d0
          go_enter Tryz.func128, Tryz.ntmps128
          go_wp2
          go_ret
          exact ⟨ret_bool (by rw [HG.out]; simp), UP.out⟩
        · have q : (xd == 0) = false := by simpa using d0
          have E : Hid (G = false) := by rw [HG.out]; unfold Hid; simp [d0]
          clear d0
          go_enter Tryz.func128, Tryz.ntmps128
          go_wp2
          go_ret
          exact ⟨ret_bool E.out.symm, UP.out⟩
      · have p : (op == 20) = false := by simpa using o1
        by_cases o2 : op = 19
        · subst o2
          by_cases d0 : xd = 0
          · subst d0
            go_enter Tryz.func128, Tryz.ntmps128
            go_wp2
            go_ret
            exact ⟨ret_bool (by rw [HG.out]; simp), UP.out⟩
          · have q : (xd == 0) = false := by simpa using d0
            have E : Hid (G = false) := by rw [HG.out]; unfold Hid; simp [d0]
            clear d0 o1
            go_enter Tryz.func128, Tryz.ntmps128
            go_wp2
            go_ret
            exact ⟨ret_bool E.out.symm, UP.out⟩
        · have q : (op == 19) = false := by simpa using o2
          have E : Hid (G = false) := by rw [HG.out]; unfold Hid; simp [o1, o2]
          clear o1 o2
          go_enter Tryz.func128, Tryz.ntmps128
          go_wp2
          go_ret
          exact ⟨ret_bool E.out.symm, UP.out⟩
    by_cases k2 : xk = 2
    · subst k2
      by_cases o1 : op = 9
      · subst o1
        go_enter Tryz.func128, Tryz.ntmps128
        go_wp2
        go_ret
        exact ⟨ret_bool (by rw [HG.out]; simp), UP.out⟩
      · have q : (op == 9) = false := by simpa using o1
        have E : Hid (G = false) := by rw [HG.out]; unfold Hid; simp [o1]
        clear o1 k1
        go_enter Tryz.func128, Tryz.ntmps128
        go_wp2
        go_ret
        exact ⟨ret_bool E.out.symm, UP.out⟩
    by_cases k3 : xk = 3
    · subst k3
      by_cases o1 : op = 10
      · subst o1
        go_enter Tryz.func128, Tryz.ntmps128
        go_wp2
        go_ret
        exact ⟨ret_bool (by rw [HG.out]; simp), UP.out⟩
      · have q : (op == 10) = false := by simpa using o1
        have E : Hid (G = false) := by rw [HG.out]; unfold Hid; simp [o1]
        clear o1 k1 k2
        go_enter Tryz.func128, Tryz.ntmps128
        go_wp2
        go_ret
        exact ⟨ret_bool E.out.symm, UP.out⟩
    have q1 : (xk == 1) = false := by simpa using k1
    have q2 : (xk == 2) = false := by simpa using k2
    have q3 : (xk == 3) = false := by simpa using k3
    have E : Hid (G = false) := by rw [HG.out]; unfold Hid; simp [k1, k2, k3]
    clear k1 k2 k3
    go_enter Tryz.func128, Tryz.ntmps128
    go_wp2
    go_ret
    exact ⟨ret_bool E.out.symm, UP.out⟩
  · have q : (imm != 0) = true := by simpa using hi
    have E : Hid (G = false) := by rw [HG.out]; unfold Hid; simp [hi]
    clear hi
    go_enter Tryz.func128, Tryz.ntmps128
    go_wp2
    go_ret
    exact ⟨ret_bool E.out.symm, UP.out⟩
/-- The block h tells of n places whether a relocation of L has them. -/
def HasAt (w : World) (h n : Nat) (L : List RelM) : Prop := (∀ i, i < n → w.cell? ⟨h, i, none⟩ = some (.bool (hasB L i))) ∧ (∀ i, w.frozen? ⟨h, i, none⟩ = false) ∧ h < w.heap.size
theorem HasAt.later {w w' : World} {h n : Nat} {L : List RelM} (H : HasAt w h n L) (hb : Below w.heap.size w w') : HasAt w' h n L :=
  ⟨fun i hi => cell_later' (H.1 i hi) hb, fun i => (hb.frozen (p := ⟨h, i, none⟩) H.2.2).trans (H.2.1 i), Nat.lt_of_lt_of_le H.2.2 hb.size⟩
theorem HasAt.start (w : World) (n : Nat) (t : TypeId) : HasAt (w.alloc (.cells (madeCells #[.bool false] n) t)) w.heap.size n [] := by
  refine ⟨fun i hi => ?_, fun i => by simp [go_sem], by simp⟩
  have hs : i < (madeCells #[Value.bool false] n).size := by rw [size_madeCells]; exact hi
  rw [new_cell' w _ t i _ (Array.getElem?_eq_getElem hs)]
  simp [madeCells, hasB, Nat.mod_one]
theorem HasAt.set {w : World} {h n p : Nat} {L : List RelM} {k : Nat} {r : RelM} (H : HasAt w h n (L.take k)) (hr : L[k]? = some r) (hp : r.at_ = (p : Int)) (hn : p < n) : HasAt (w.setCell ⟨h, p, none⟩ (.bool true)) h n (L.take (k + 1)) := by
  refine ⟨fun i hi => ?_, fun i => by have := H.2.1 i; simpa using this, by simpa using H.2.2⟩
  rw [has_take hr, hp]
  by_cases e : p = i
  · subst e
    rw [World.cell?_setCell_same _ _ _ (H.1 p hn)]
    simp
  · rw [World.cell?_setCell_other _ _ _ _ (fun q => e (by injection q)), H.1 i hi]
    have : ¬ ((p : Int) = (i : Int)) := by omega
    simp [this]
theorem infoBool : (Tryz.prog.info? 4).map (fun i => (i.zero, i.size, i.bytes)) = some (some (.bool false), 1, 1) := by kernel_rfl
set_option maxHeartbeats 4000000 in
theorem relocated_any {A : Nat → Prop} {w : World} {vr : Value} {l : List Int} {rels : List RelM} (g : Nat) (hc : RowAt w g l.length (gF l)) (hl : l.length ≤ 5000) (hr : IsRels A w vr rels) (hrl : rels.length ≤ 100000) :
    Calls Tryz.prog 112 #[.slice (some ⟨g, 0, none⟩) l.length l.length, vr] w fun e w' => ((relsUpto l rels rels.length ∧ e = .returned (.tuple #[.slice (some ⟨w.heap.size, 0, none⟩) l.length l.length, .bool true]) ∧ HasAt w' w.heap.size l.length rels) ∨ (¬ relsUpto l rels rels.length ∧ e = .returned (.tuple #[.slice none 0 0, .bool false]))) ∧ Below w.heap.size w w' := by
  obtain ⟨ra, rc, rfl, rm, -, rx⟩ := LstA.open hr
  obtain ⟨n, en⟩ : ∃ n, l.length = n := ⟨_, rfl⟩
  obtain ⟨m, em⟩ : ∃ m, rels.length = m := ⟨_, rfl⟩
  rw [en] at hc hl ⊢
  rw [em] at rx hrl ⊢
  have HC : Hid (RowAt w g n (gF l)) := hc
  have RX : Hid (∀ k, k < m → ∃ b off x, ra = some ⟨b, off, none⟩ ∧ A b ∧ rels[k]? = some x ∧ RelAt w b (off + k * 4) x) := rx
  have HN : Hid (l.length = n ∧ rels.length = m) := ⟨en, em⟩
  have hn' : (n : Int) ≤ 5000 := by omega
  have hm' : (m : Int) ≤ 100000 := by omega
  obtain ⟨i0, hi, hz0, hz1, hz2⟩ := info_parts infoBool
  have hmk : ∀ w, (Instr.makeSlice 166 (.int .i64 (n : Int)) (.int .i64 (n : Int))).run Tryz.prog w = .ok (.slice (some ⟨w.heap.size, 0, none⟩) n n) (w.alloc (.cells (madeCells #[.bool false] n) 4)) := by
    intro w
    have h := run_make (P := Tryz.prog) w 166 4 i0 _ Tryz.underlying166 hi hz0 .i64 .i64 n n (by omega) (Int.le_refl _) (by rw [hz2]; omega) (by omega)
    simp only [Int.toNat_natCast, hz1, Nat.mul_one] at h
    exact h
  clear hc rx en em rm hr hi hz0 hz1 hz2
  go_enter Tryz.func112, Tryz.ntmps112
  go_wp2
  go_loopw [15, 7] (fun i ah wr => ∃ k : Nat, k ≤ m ∧ i = .int .i64 k ∧ ah = .int .i64 (aheadZ rels k) ∧ relsUpto l rels k ∧ HasAt wr w.heap.size n (rels.take k) ∧ Below w.heap.size w wr) (fun i _ _ => m - (intOf i).toNat)
  case atStart => exact ⟨0, Nat.zero_le _, rfl, rfl, (fun i r hi => by omega), HasAt.start w n _, keep_alloc8 (Below.refl _ _) _⟩
  case round =>
    obtain ⟨k, hk, rfl, rfl, hs, hhas, hbel⟩ := hrel
    have HB : Hid (Below w.heap.size w wr) := hbel
    have HS : Hid (relsUpto l rels k) := hs
    have HH : Hid (HasAt wr w.heap.size n (rels.take k)) := hhas
    have bd : -1 ≤ aheadZ rels k ∧ aheadZ rels k < 5000 := by rcases ahead_bd hs (by rw [HN.out.2]; exact hk) with h | h <;> (have := HN.out.1; omega)
    clear hbel hs hhas
    by_cases hlt : k < m
    · have hlt' : (k : Int) < m := by omega
      obtain ⟨q, off, ⟨xp, xk, xm, xd⟩, rfl, -, hx, x0, x1, x2, x3, -⟩ := RX.out k hlt
      dsimp only at x0 x1 x2 x3
      have HX : Hid (rels[k]? = some ⟨xp, xk, xm, xd⟩) := hx
      have SU : Hid (aheadZ rels (k + 1) = xp) := ahead_succ hx
      have NO : Hid (¬ relAtOk l (aheadZ rels k) ⟨xp, xk, xm, xd⟩ → ¬ relsUpto l rels m) := fun h1 h2 => h1 (h2 k _ hlt hx)
      have YES : Hid (relAtOk l (aheadZ rels k) ⟨xp, xk, xm, xd⟩ → relsUpto l rels (k + 1)) := fun h => relsUpto_next HS.out hx h
      generalize aheadZ rels k = ah at bd NO YES ⊢
      have HR : Hid (relAtOk l ah ⟨xp, xk, xm, xd⟩ ↔ ah < xp ∧ xp < n ∧ goesB ⟨xp, xk, xm, xd⟩ (gO (gF l xp.toNat)) (gI (gF l xp.toNat)) = true) := by unfold Hid relAtOk; rw [HN.out.1]; exact Iff.rfl
      replace x0 := cell_any x0 HB.out
      replace x1 := cell_any x1 HB.out
      replace x2 := cell_any x2 HB.out
      replace x3 := cell_any x3 HB.out
      clear hx
      go_upto_region 6 with fail
      have B2 : Hid (Below w.heap.size w (wr.alloc (.cells #[.int .i64 xp, .int .i64 xk, .string xm, .int .i64 xd] 55))) := keep_alloc8 HB.out _
      have X3 : Hid (XAt (wr.alloc (.cells #[.int .i64 xp, .int .i64 xk, .string xm, .int .i64 xd] 55)) wr.heap.size [.int .i64 xp, .int .i64 xk, .string xm, .int .i64 xd]) := XAt.new _ _ _
      have H2 : Hid (HasAt (wr.alloc (.cells #[.int .i64 xp, .int .i64 xk, .string xm, .int .i64 xd] 55)) w.heap.size n (rels.take k)) := HH.out.later (keep_alloc8 (Below.refl _ _) _)
      generalize wr.alloc (.cells #[.int .i64 xp, .int .i64 xk, .string xm, .int .i64 xd] 55) = w2 at B2 X3 H2 ⊢
      have hX : Hid (wr.heap.size < w2.heap.size) := X3.out.lt (by simp)
      clear x0 x1 x2 x3
      have x0 := X3.out.1 0 _ rfl
      have x1 := X3.out.1 1 _ rfl
      have x2 := X3.out.1 2 _ rfl
      have x3 := X3.out.1 3 _ rfl
      by_cases h1 : ah < xp
      · by_cases h2 : xp < n
        · obtain ⟨p, rfl⟩ := Int.eq_ofNat_of_zero_le (a := xp) (by omega)
          have hpn : p < n := by omega
          obtain ⟨c0, c1, c2, c3, c4⟩ := HC.out.later B2.out p hpn
          have GO : Hid (∀ W, Calls Tryz.prog 128 #[.agg #[.int .i64 (p : Int), .int .i64 xk, .string xm, .int .i64 xd], .agg #[.int .i64 (gO (gF l p)), .int .i64 (gA (gF l p)), .int .i64 (gB (gF l p)), .int .i64 (gC (gF l p)), .int .i64 (gI (gF l p))]] W fun e w' => e = .returned (.bool (goesB ⟨p, xk, xm, xd⟩ (gO (gF l p)) (gI (gF l p)))) ∧ Below W.heap.size W w') := fun W => goes_any _ _ _ _ _ _ _ _ _ _
          rw [Int.toNat_natCast] at HR
          generalize goesB ⟨p, xk, xm, xd⟩ (gO (gF l p)) (gI (gF l p)) = G at GO HR
          generalize gO (gF l p) = vO at c0 GO
          generalize gA (gF l p) = vA at c1 GO
          generalize gB (gF l p) = vB at c2 GO
          generalize gC (gF l p) = vC at c3 GO
          generalize gI (gF l p) = vI at c4 GO
          have KEEP : Hid (∀ W, Below w2.heap.size w2 W → Below w2.heap.size w2 W ∧ W.cell? ⟨wr.heap.size, 0, none⟩ = some (.int .i64 (p : Int)) ∧ W.cell? ⟨wr.heap.size, 1, none⟩ = some (.int .i64 xk) ∧ W.cell? ⟨wr.heap.size, 2, none⟩ = some (.string xm) ∧ W.cell? ⟨wr.heap.size, 3, none⟩ = some (.int .i64 xd) ∧ W.cell? ⟨g, p * 5, none⟩ = some (.int .i64 vO) ∧ W.cell? ⟨g, p * 5 + 1, none⟩ = some (.int .i64 vA) ∧ W.cell? ⟨g, p * 5 + 2, none⟩ = some (.int .i64 vB) ∧ W.cell? ⟨g, p * 5 + 3, none⟩ = some (.int .i64 vC) ∧ W.cell? ⟨g, p * 5 + 4, none⟩ = some (.int .i64 vI)) := fun W hW => ⟨hW, cell_any x0 hW, cell_any x1 hW, cell_any x2 hW, cell_any x3 hW, cell_any c0 hW, cell_any c1 hW, cell_any c2 hW, cell_any c3 hW, cell_any c4 hW⟩
          have g1 : decide ((p : Int) ≤ ah) = false := by simp; omega
          have g2 : decide ((n : Int) ≤ (p : Int)) = false := by simp; omega
          have g3 : decide (n ≤ p) = false := by simp; omega
          cases G
          all_goals
            go_region_held3 (fun W => Below w2.heap.size w2 W ∧ W.cell? ⟨wr.heap.size, 0, none⟩ = some (.int .i64 (p : Int)) ∧ W.cell? ⟨wr.heap.size, 1, none⟩ = some (.int .i64 xk) ∧ W.cell? ⟨wr.heap.size, 2, none⟩ = some (.string xm) ∧ W.cell? ⟨wr.heap.size, 3, none⟩ = some (.int .i64 xd) ∧ W.cell? ⟨g, p * 5, none⟩ = some (.int .i64 vO) ∧ W.cell? ⟨g, p * 5 + 1, none⟩ = some (.int .i64 vA) ∧ W.cell? ⟨g, p * 5 + 2, none⟩ = some (.int .i64 vB) ∧ W.cell? ⟨g, p * 5 + 3, none⟩ = some (.int .i64 vC) ∧ W.cell? ⟨g, p * 5 + 4, none⟩ = some (.int .i64 vI))
              (first | exact KEEP.out _ (Below.refl _ _) | exact KEEP.out _ (Below.refl _ _).drew | exact KEEP.out _ hb3 | fail)
              (first | (go_at_call 128; refine (GO.out _).mono ?_; rintro e w3 ⟨rfl, hb3'⟩; have hb3 : Below w2.heap.size w2 w3 := (by first | exact bnext (Below.refl _ _).drew hb3' | exact hb3')))
          · all_goals
              go_wp2
              go_ret2
              exact ⟨.inr ⟨NO.out (fun h => by have := (HR.out.1 h).2.2; cases this), rfl⟩, bnext B2.out hb3⟩
          · all_goals
              have H3 : Hid (HasAt w3 w.heap.size n (rels.take k)) := H2.out.later hb3
              have z0 := H3.out.1 p hpn
              have zf := H3.out.2.1 p
              have B3 : Hid (Below w.heap.size w w3) := bnext B2.out hb3
              have x0' := (X3.out.later hX.out hb3).1 0 _ rfl
              have hne : Hid (wr.heap.size ≠ w.heap.size) := by have := HB.out.size; have := HH.out.2.2; unfold Hid; omega
              have x0'' : ∀ v, (w3.setCell ⟨w.heap.size, p, none⟩ v).cell? ⟨wr.heap.size, 0, none⟩ = some (.int .i64 (p : Int)) := fun v => (World.cell?_setCell_other _ _ _ _ (fun e => by injection e with e _ _; exact hne.out e.symm)).trans x0'
              clear hb3
              go_wp2
              go_roundw
              case rel => exact ⟨k + 1, by omega, by go_num, by rw [SU.out], YES.out (HR.out.2 ⟨h1, h2, by first | rfl | trivial⟩), H3.out.set HX.out rfl hpn, B3.out.setCell (p := ⟨w.heap.size, p, none⟩) (Nat.le_refl _) _⟩
              case measure => simp [intOf]; omega
        · have q2 : decide (xp ≤ ah) = false := by simpa using h1
          have q3 : decide ((n : Int) ≤ xp) = true := by simpa using h2
          have E : Hid (¬ relsUpto l rels m) := NO.out fun h => h2 (HR.out.1 h).2.1
          go_quiet (fail)
          go_wp2
          go_ret2
          exact ⟨.inr ⟨E.out, rfl⟩, below_drewN B2.out _⟩
      · have q2 : decide (xp ≤ ah) = true := by simp; omega
        have E : Hid (¬ relsUpto l rels m) := NO.out fun h => h1 (HR.out.1 h).1
        go_quiet (fail)
        go_wp2
        go_ret2
        exact ⟨.inr ⟨E.out, rfl⟩, below_drewN B2.out _⟩
    · obtain rfl : k = m := by omega
      have H4 : Hid (HasAt wr w.heap.size n rels) := by have h := HH.out; rw [← HN.out.2, List.take_length] at h; exact h
      go_wp2
      go_ret2
      exact ⟨.inl ⟨HS.out, rfl, H4.out⟩, HB.out⟩
open Go.ChangeShapes Go.WideShapes Go.ChangeAt Go.RowKit Go.Deep
set_option linter.unusedVariables false
set_option linter.unusedSimpArgs false
set_option maxRecDepth 100000
set_option maxHeartbeats 2000000 in
theorem resolved_any {w : World} {l : List Int} {rels : List RelM} (g h : Nat) (hc : RowAt w g l.length (gF l)) (hl : l.length ≤ 5000) (hh : HasAt w h l.length rels) :
    Calls Tryz.prog 113 #[.slice (some ⟨g, 0, none⟩) l.length l.length, .slice (some ⟨h, 0, none⟩) l.length l.length] w fun e w' => Says e (resolvedUpto l rels l.length) ∧ Below w.heap.size w w' := by
  obtain ⟨n, en⟩ : ∃ n, l.length = n := ⟨_, rfl⟩
  rw [en] at hc hl hh ⊢
  have HC : Hid (RowAt w g n (gF l)) := hc
  have HH : Hid (HasAt w h n rels) := hh
  have HN : Hid (l.length = n) := en
  have hn' : (n : Int) ≤ 5000 := by omega
  clear hc hh en
  go_enter Tryz.func113, Tryz.ntmps113
  go_wp2
  go_loopw [9] (fun i wr => ∃ k : Nat, k ≤ n ∧ i = .int .i64 k ∧ resolvedUpto l rels k ∧ Below w.heap.size w wr) (fun i _ => n - (intOf i).toNat)
  case atStart => exact ⟨0, Nat.zero_le _, rfl, (fun i x hi => by omega), Below.refl _ _⟩
  case round =>
    obtain ⟨k, hk, rfl, hs, hbel⟩ := hrel
    have HB : Hid (Below w.heap.size w wr) := hbel
    have HS : Hid (resolvedUpto l rels k) := hs
    clear hbel hs
    by_cases hlt : k < n
    · have hlt' : (k : Int) < n := by omega
      obtain ⟨c0, c1, c2, c3, c4⟩ := HC.out.later HB.out k hlt
      have HX : Hid (l[k]? = some (gF l k)) := gF_get (by rw [HN.out]; exact hlt)
      have YES : Hid ((gO (gF l k) = 20 → hasB rels k = true) → resolvedUpto l rels (k + 1)) := fun h => resolvedUpto_next HS.out HX.out h
      have NO : Hid (gO (gF l k) = 20 → hasB rels k = false → ¬ resolvedUpto l rels n) := fun h1 h2 h3 => by have := h3 k _ hlt HX.out h1; rw [h2] at this; cases this
      have z0 := (HH.out.later HB.out).1 k hlt
      generalize hasB rels k = H at z0 YES NO
      generalize gO (gF l k) = vO at c0 YES NO
      generalize gA (gF l k) = vA at c1
      generalize gB (gF l k) = vB at c2
      generalize gC (gF l k) = vC at c3
      generalize gI (gF l k) = vI at c4
      go_upto_region 4 with fail
      have B2 : Hid (Below w.heap.size w (wr.alloc (.cells #[.int .i64 vO, .int .i64 vA, .int .i64 vB, .int .i64 vC, .int .i64 vI] 112))) := keep_alloc8 HB.out _
      have X3 : Hid (XAt (wr.alloc (.cells #[.int .i64 vO, .int .i64 vA, .int .i64 vB, .int .i64 vC, .int .i64 vI] 112)) wr.heap.size [.int .i64 vO, .int .i64 vA, .int .i64 vB, .int .i64 vC, .int .i64 vI]) := XAt.new _ _ _
      have z1 := cell_any z0 (keep_alloc8 (Below.refl _ wr) (.cells #[.int .i64 vO, .int .i64 vA, .int .i64 vB, .int .i64 vC, .int .i64 vI] 112))
      generalize wr.alloc (.cells #[.int .i64 vO, .int .i64 vA, .int .i64 vB, .int .i64 vC, .int .i64 vI] 112) = w2 at B2 X3 z1 ⊢
      clear c0 c1 c2 c3 c4 z0
      have x0 := X3.out.1 0 _ rfl
      by_cases ho : vO = 20
      · subst ho
        cases H
        · go_wp2
          go_ret
          exact ⟨⟨_, rfl, iff_no (NO.out (by first | rfl | trivial) (by first | rfl | trivial))⟩, B2.out⟩
        · go_wp2
          go_roundw
          case rel => exact ⟨k + 1, by omega, by go_num, YES.out (fun _ => by first | rfl | trivial), B2.out⟩
          case measure => simp [intOf]; omega
      · have q : (vO == 20) = false := by simpa using ho
        have R : Hid (resolvedUpto l rels (k + 1)) := YES.out fun h => absurd h ho
        clear ho
        go_wp2
        go_roundw
        case rel => exact ⟨k + 1, by omega, by go_num, R.out, B2.out⟩
        case measure => simp [intOf]; omega
    · obtain rfl : k = n := by omega
      go_wp2
      go_ret
      exact ⟨⟨_, rfl, iff_yes HS.out⟩, HB.out⟩
set_option maxHeartbeats 4000000 in
theorem inside_any {w : World} {l : List Int} {rels : List RelM} (g h : Nat) (hc : RowAt w g l.length (gF l)) (hl : l.length ≤ 5000) (hok : codesOk l) (hh : HasAt w h l.length rels) :
    Calls Tryz.prog 114 #[.slice (some ⟨g, 0, none⟩) l.length l.length, .slice (some ⟨h, 0, none⟩) l.length l.length] w fun e w' => Says e (insideUpto l rels l.length) ∧ Below w.heap.size w w' := by
  obtain ⟨n, en⟩ : ∃ n, l.length = n := ⟨_, rfl⟩
  have HI : Hid (∀ k x, insideAt l rels k x ↔ ((kindZ (gO x) = 2 ∨ kindZ (gO x) = 3) → hasB rels k = false → 0 ≤ (k : Int) + 1 + gI x ∧ (k : Int) + 1 + gI x < n)) := fun k x => by rw [← en]; exact Iff.rfl
  rw [en] at hc hl hh ⊢
  have HC : Hid (RowAt w g n (gF l)) := hc
  have HH : Hid (HasAt w h n rels) := hh
  have HN : Hid (l.length = n) := en
  have OKC : Hid (codesOk l) := hok
  have hn' : (n : Int) ≤ 5000 := by omega
  clear hc hh en hok
  go_enter Tryz.func114, Tryz.ntmps114
  go_wp2
  go_loopw [10] (fun i wr => ∃ k : Nat, k ≤ n ∧ i = .int .i64 k ∧ insideUpto l rels k ∧ Below w.heap.size w wr) (fun i _ => n - (intOf i).toNat)
  case atStart => exact ⟨0, Nat.zero_le _, rfl, (fun i x hi => by omega), Below.refl _ _⟩
  case round =>
    obtain ⟨k, hk, rfl, hs, hbel⟩ := hrel
    have HB : Hid (Below w.heap.size w wr) := hbel
    have HS : Hid (insideUpto l rels k) := hs
    clear hbel hs
    by_cases hlt : k < n
    · have hlt' : (k : Int) < n := by omega
      obtain ⟨c0, c1, c2, c3, c4⟩ := HC.out.later HB.out k hlt
      have HX : Hid (l[k]? = some (gF l k)) := gF_get (by rw [HN.out]; exact hlt)
      have ob := gO_bd (OKC.out _ (List.mem_of_getElem? HX.out))
      have ib := gI_bd (gF l k)
      obtain ⟨K, eK⟩ : ∃ K, K = decide (kindZ (gO (gF l k)) = 2 ∨ kindZ (gO (gF l k)) = 3) := ⟨_, rfl⟩
      have YES : Hid ((K = true → hasB rels k = false → 0 ≤ (k : Int) + 1 + gI (gF l k) ∧ (k : Int) + 1 + gI (gF l k) < n) → insideUpto l rels (k + 1)) := fun h => insideUpto_next HS.out HX.out ((HI.out k _).2 (fun h1 h2 => h (by rw [eK]; simpa using h1) h2))
      have NO : Hid (¬ (K = true → hasB rels k = false → 0 ≤ (k : Int) + 1 + gI (gF l k) ∧ (k : Int) + 1 + gI (gF l k) < n) → ¬ insideUpto l rels n) := fun h1 h2 => h1 fun h3 h4 => (HI.out k _).1 (h2 k _ hlt HX.out) (by rw [eK] at h3; simpa using h3) h4
      have LD : Hid (∀ W, Calls Tryz.prog 129 #[.agg #[.int .i64 (gO (gF l k)), .int .i64 (gA (gF l k)), .int .i64 (gB (gF l k)), .int .i64 (gC (gF l k)), .int .i64 (gI (gF l k))]] W fun e w' => e = .returned (.bool K) ∧ Below W.heap.size W w') := fun W => by rw [eK]; exact leads_any _ _ _ _ _ W ob.1 ob.2
      have z0 := (HH.out.later HB.out).1 k hlt
      clear eK ob
      generalize hasB rels k = H at z0 YES NO
      generalize gO (gF l k) = vO at c0 LD
      generalize gA (gF l k) = vA at c1 LD
      generalize gB (gF l k) = vB at c2 LD
      generalize gC (gF l k) = vC at c3 LD
      generalize gI (gF l k) = vI at c4 LD YES NO ib
      go_upto_region 4 with fail
      have B2 : Hid (Below w.heap.size w (wr.alloc (.cells #[.int .i64 vO, .int .i64 vA, .int .i64 vB, .int .i64 vC, .int .i64 vI] 112))) := keep_alloc8 HB.out _
      have X3 : Hid (XAt (wr.alloc (.cells #[.int .i64 vO, .int .i64 vA, .int .i64 vB, .int .i64 vC, .int .i64 vI] 112)) wr.heap.size [.int .i64 vO, .int .i64 vA, .int .i64 vB, .int .i64 vC, .int .i64 vI]) := XAt.new _ _ _
      have z1 := cell_any z0 (keep_alloc8 (Below.refl _ wr) (.cells #[.int .i64 vO, .int .i64 vA, .int .i64 vB, .int .i64 vC, .int .i64 vI] 112))
      generalize wr.alloc (.cells #[.int .i64 vO, .int .i64 vA, .int .i64 vB, .int .i64 vC, .int .i64 vI] 112) = w2 at B2 X3 z1 ⊢
      clear c0 c1 c2 c3 c4 z0
      have x0 := X3.out.1 0 _ rfl
      have x1 := X3.out.1 1 _ rfl
      have x2 := X3.out.1 2 _ rfl
      have x3 := X3.out.1 3 _ rfl
      have x4 := X3.out.1 4 _ rfl
      cases K
      · have R : Hid (insideUpto l rels (k + 1)) := YES.out fun h => by cases h
        go_wp2_with (go_at_call 129; refine (LD.out _).mono ?_; rintro e w3 ⟨rfl, hb3⟩)
        go_roundw
        case rel => exact ⟨k + 1, by omega, by go_num, R.out, bnext B2.out hb3⟩
        case measure => simp [intOf]; omega
      cases H
      · by_cases h1 : (k : Int) + 1 + vI < 0
        · have E : Hid (¬ insideUpto l rels n) := NO.out fun h => by have := h (by first | rfl | trivial) (by first | rfl | trivial); omega
          go_wp2_with (go_at_call 129; refine (LD.out _).mono ?_; rintro e w3 ⟨rfl, hb3⟩; have z1 := cell_any z1 hb3)
          go_ret
          exact ⟨⟨_, rfl, iff_no E.out⟩, bnext B2.out hb3⟩
        by_cases h2 : (k : Int) + 1 + vI < n
        · have R : Hid (insideUpto l rels (k + 1)) := YES.out fun _ _ => ⟨by omega, h2⟩
          have h1' : 0 ≤ (k : Int) + 1 + vI := by omega
          clear h1
          go_wp2_with (go_at_call 129; refine (LD.out _).mono ?_; rintro e w3 ⟨rfl, hb3⟩; have z1 := cell_any z1 hb3)
          go_roundw
          case rel => exact ⟨k + 1, by omega, by go_num, R.out, bnext B2.out hb3⟩
          case measure => simp [intOf]; omega
        · have E : Hid (¬ insideUpto l rels n) := NO.out fun h => by have := h (by first | rfl | trivial) (by first | rfl | trivial); omega
          have h1' : 0 ≤ (k : Int) + 1 + vI := by omega
          have h2' : (n : Int) ≤ (k : Int) + 1 + vI := by omega
          clear h1 h2
          go_wp2_with (go_at_call 129; refine (LD.out _).mono ?_; rintro e w3 ⟨rfl, hb3⟩; have z1 := cell_any z1 hb3)
          go_ret
          exact ⟨⟨_, rfl, iff_no E.out⟩, bnext B2.out hb3⟩
      · have R : Hid (insideUpto l rels (k + 1)) := YES.out fun _ h => by cases h
        go_wp2_with (go_at_call 129; refine (LD.out _).mono ?_; rintro e w3 ⟨rfl, hb3⟩; have z1 := cell_any z1 hb3)
        go_roundw
        case rel => exact ⟨k + 1, by omega, by go_num, R.out, bnext B2.out hb3⟩
        case measure => simp [intOf]; omega
    · obtain rfl : k = n := by omega
      go_wp2
      go_ret
      exact ⟨⟨_, rfl, iff_yes HS.out⟩, HB.out⟩
end Go.Proofs.YteakbpcmafdikaaGreatDoor
