/- An offer of a part for a name: what is held then. No condition. Rows of one's own, whose elements have more than one cell. Has an object few parts? As the document says it. Are lists alike, are objects? As the document says it. -/
import Derived.Test.YteakbpcmafdikaaGreatDoorNmMath
import Derived.Test.YteakbpcmafdikaaGreatDoorNmObj
import Derived.Deep.RegionHeld3
import Derived.Lib.SmallJoins
import Derived.BigQuiet
import Derived.Test.YteakbpcmafdikaaGreatDoorNmBase
import Derived.Laws.Strings
namespace Go.Proofs.YteakbpcmafdikaaGreatDoor
open Go.ChangeShapes Go.WideShapes Go.ChangeAt Go.RowKit Go.Maps
set_option linter.unusedVariables false
set_option linter.unusedSimpArgs false
/-- What is held of all names behind an offer. -/
def offerR (H : Held) (s : ByteArray) (q : HoldM) : Option Held := if q.bind = 3 then some H else (offerZ (H s) q).map (H.put s)
theorem put_self {H : Held} {s : ByteArray} {h : HoldM} (e : H s = some h) : H.put s h = H := by
  funext y
  unfold Held.put
  split
  · rename_i c; rw [c, e]
  · rfl
theorem HeldAt.later {w w' : World} {b n : Nat} {H : Held} (h : HeldAt w b n H) (hb : Below w.heap.size w w') : HeldAt w' b n H := MapAt.later h hb
theorem apart_map {w w1 w2 : World} {b : Nat} (h : Below w.heap.size w w1) (hg : w1.grownBy w2 (some b)) : Apart (G1 b) w w2 :=
  ⟨hg.os.trans h.os, hg.tape.trans h.tape, hg.output.trans h.output, Nat.le_trans h.size hg.size, fun k hk hn => (hg.block k (Nat.lt_of_lt_of_le hk h.size) fun e => hn (by injection e)).trans (h.block k hk)⟩
theorem run_max11 {P : Program} {a : Act} {o : Oper} {x y : Operand} {t t' : TypeId} (ho : o.op = .call { callee := .builtin .max, args := #[x, y], argTypes := #[t, t'] }) {p q r : Int} (hx : a.eval x = .int .i64 p) (hy : a.eval y = .int .i64 q) (hr : max p q = r) (w : World) : (execOp a.eval o).run P w = .ok (.value (.int .i64 r)) w := by
  have e : (if q > p then q else p) = r := by rw [← hr]; split <;> omega
  unfold execOp
  simp only [ho, resolve, invoke, builtin, Sem.run_bind, Sem.run_pure, Result.andThen_ok, List.map_toArray, List.map_cons, List.map_nil, hx, hy, run_max_int2, e]
set_option maxRecDepth 100000 in
set_option maxHeartbeats 4000000 in
theorem offer_any {w : World} {b n : Nat} {H : Held} (h : HeldAt w b n H) (hn : n < maxLen) (s : ByteArray) (hs : s.size ≤ maxLen) (q : HoldM) :
    Calls Tryz.prog 38 #[.map (some b), .string s, .agg #[.int .i64 (q.obj : Int), .int .i64 q.bind, .int .i64 q.size, .int .i64 q.align]] w fun e w' =>
      e = .returned (.bool (offerR H s q).isSome) ∧ (∀ H', offerR H s q = some H' → HeldAt w' b (n + 1) H') ∧ Apart (G1 b) w w' := by
  obtain ⟨qo, qb, qs, qa⟩ := q
  have HM : Hid (HeldAt w b n H) := h
  have HN : Hid (n < maxLen) := hn
  have HS : Hid (s.size ≤ maxLen) := hs
  have hlt := h.lt
  clear h hn hs
  dsimp only
  by_cases h3 : qb = 3
  · subst h3
    have e : offerR H s ⟨qo, 3, qs, qa⟩ = some H := if_pos rfl
    rw [e]
    clear e
    go_enter Tryz.func38, Tryz.ntmps38
    go_wp2
    go_ret
    exact ⟨rfl, fun H' e => by cases e; exact MapAt.mono (HM.out.later (keep_alloc8 (Below.refl _ _) _)) (Nat.le_succ n), Apart.of_below (keep_alloc8 (Below.refl _ _) _)⟩
  have g3 : (qb == 3) = false := by simpa using h3
  have e0 : offerR H s ⟨qo, qb, qs, qa⟩ = (offerZ (H s) ⟨qo, qb, qs, qa⟩).map (H.put s) := if_neg h3
  have UP1 : Hid (Below w.heap.size w (w.alloc (.cells #[.int .i64 (qo : Int), .int .i64 qb, .int .i64 qs, .int .i64 qa] 90))) := keep_alloc8 (Below.refl _ _) _
  cases hH : H s with
  | none =>
    have e : offerR H s ⟨qo, qb, qs, qa⟩ = some (H.put s ⟨qo, qb, qs, qa⟩) := by rw [e0, hH]; rfl
    rw [e]
    have HH : Hid (H s = none) := hH
    clear e e0 hH
    go_enter Tryz.func38, Tryz.ntmps38
    go_wp2_with (first
      | (at_lookup; refine wpList_held_ok (by rfl) (.tmp 13) (.tmp 14) (by rfl) (HM.out.later UP1.out) (by rfl) s (by rfl) HS.out none HH.out (.agg #[.int .i64 0, .int .i64 0, .int .i64 0, .int .i64 0]) rfl false rfl ?_)
      | (at_mapUpdate; refine wpList_held_store (by rfl) (.tmp 28) (.tmp 29) (.tmp 30) (by rfl) (HM.out.later (keep_alloc8 UP1.out _)) HN.out (by rfl) s (by rfl) HS.out ⟨qo, qb, qs, qa⟩ (by rfl) ?_; intro w1 hm1 hg1))
    go_ret
    exact ⟨rfl, fun H' e => by cases e; exact hm1, apart_map (keep_alloc8 UP1.out _) hg1⟩
  | some old =>
    obtain ⟨xo, xb, xs, xa⟩ := old
    have HH : Hid (H s = some ⟨xo, xb, xs, xa⟩) := hH
    have UP2 : Hid (Below w.heap.size w ((w.alloc (.cells #[.int .i64 (qo : Int), .int .i64 qb, .int .i64 qs, .int .i64 qa] 90)).alloc (.cells #[.int .i64 (xo : Int), .int .i64 xb, .int .i64 xs, .int .i64 xa] 90))) := keep_alloc8 UP1.out _
    by_cases c1 : qb < xb
    · have e : offerR H s ⟨qo, qb, qs, qa⟩ = some (H.put s ⟨qo, qb, qs, qa⟩) := by rw [e0, hH]; unfold offerZ; dsimp only; rw [if_pos c1]; rfl
      rw [e]
      clear e e0 hH
      go_enter Tryz.func38, Tryz.ntmps38
      go_wp2_with (first
        | (at_lookup; refine wpList_held_ok (by rfl) (.tmp 13) (.tmp 14) (by rfl) (HM.out.later UP1.out) (by rfl) s (by rfl) HS.out _ HH.out (.agg #[.int .i64 (xo : Int), .int .i64 xb, .int .i64 xs, .int .i64 xa]) rfl true rfl ?_)
        | (at_mapUpdate; refine wpList_held_store (by rfl) (.tmp 28) (.tmp 29) (.tmp 30) (by rfl) (HM.out.later UP2.out) HN.out (by rfl) s (by rfl) HS.out ⟨qo, qb, qs, qa⟩ (by rfl) ?_; intro w1 hm1 hg1))
      go_ret
      exact ⟨rfl, fun H' e => by cases e; exact hm1, apart_map UP2.out hg1⟩
    by_cases c2 : qb = 1
    · have e : offerR H s ⟨qo, qb, qs, qa⟩ = none := by rw [e0, hH]; unfold offerZ; dsimp only; rw [if_neg c1, if_pos c2]; rfl
      rw [e]
      have c1' : xb ≤ qb := by omega
      have g2 : (qb == 1) = true := by simpa using c2
      clear e e0 hH c1 c2
      go_enter Tryz.func38, Tryz.ntmps38
      go_wp2_with (first
        | (at_lookup; refine wpList_held_ok (by rfl) (.tmp 13) (.tmp 14) (by rfl) (HM.out.later UP1.out) (by rfl) s (by rfl) HS.out _ HH.out (.agg #[.int .i64 (xo : Int), .int .i64 xb, .int .i64 xs, .int .i64 xa]) rfl true rfl ?_))
      go_ret
      exact ⟨rfl, fun H' e => (by cases e), Apart.of_below UP2.out⟩
    have c1' : xb ≤ qb := by omega
    have g2 : (qb == 1) = false := by simpa using c2
    by_cases c3 : xb = 4
    · have e : offerR H s ⟨qo, qb, qs, qa⟩ = some (H.put s ⟨xo, xb, max xs qs, max xa qa⟩) := by rw [e0, hH]; unfold offerZ; dsimp only; rw [if_neg c1, if_neg c2, if_pos c3]; rfl
      rw [e]
      obtain ⟨ms, ems⟩ : ∃ ms, max xs qs = ms := ⟨_, rfl⟩
      obtain ⟨ma, ema⟩ : ∃ ma, max xa qa = ma := ⟨_, rfl⟩
      rw [ems, ema]
      have EMS : Hid (max xs qs = ms) := ems
      have EMA : Hid (max xa qa = ma) := ema
      clear ems ema
      have g4 : (xb == 4) = true := by simpa using c3
      clear e e0 hH c1 c2 c3
      go_enter Tryz.func38, Tryz.ntmps38
      go_upto_region 9 with (first
        | (at_lookup; refine wpList_held_ok (by rfl) (.tmp 13) (.tmp 14) (by rfl) (HM.out.later UP1.out) (by rfl) s (by rfl) HS.out _ HH.out (.agg #[.int .i64 (xo : Int), .int .i64 xb, .int .i64 xs, .int .i64 xa]) rfl true rfl ?_))
      generalize hW : (w.alloc (.cells #[.int .i64 (qo : Int), .int .i64 qb, .int .i64 qs, .int .i64 qa] 90)).alloc (.cells #[.int .i64 (xo : Int), .int .i64 xb, .int .i64 xs, .int .i64 xa] 90) = W2 at UP2 ⊢
      have X2 : Hid (XAt W2 (w.heap.size + 1) [.int .i64 (xo : Int), .int .i64 xb, .int .i64 xs, .int .i64 xa]) := by
        rw [← hW]
        have := XAt.new (w.alloc (.cells #[.int .i64 (qo : Int), .int .i64 qb, .int .i64 qs, .int .i64 qa] 90)) #[.int .i64 (xo : Int), .int .i64 xb, .int .i64 xs, .int .i64 xa] 90
        rwa [World.size_alloc] at this
      have y2 : W2.cell? ⟨w.heap.size, 2, none⟩ = some (.int .i64 qs) := by rw [← hW]; exact cell_any (new_cell' _ _ _ 2 _ rfl) (keep_alloc8 (Below.refl _ _) _)
      have y3 : W2.cell? ⟨w.heap.size, 3, none⟩ = some (.int .i64 qa) := by rw [← hW]; exact cell_any (new_cell' _ _ _ 3 _ rfl) (keep_alloc8 (Below.refl _ _) _)
      have z2 := X2.out.1 2 _ rfl
      have z3 := X2.out.1 3 _ rfl
      have fz := X2.out.2
      clear hW
      refine wp_region_held_drew (S := fun w' => w'.cell? ⟨w.heap.size, 2, none⟩ = some (.int .i64 qs) ∧ w'.cell? ⟨w.heap.size, 3, none⟩ = some (.int .i64 qa)) (by kernel_rfl) ?_ (fun hHeld => ?_)
      · exact ⟨y2, y3⟩
      refine wpAnyH_take (i := 0) (v := ?_) rfl (by kernel_rfl) (by kernel_rfl) (by kernel_rfl) (fun _ _ _ h => h) (Or.inl ⟨by rfl, ?_⟩) (by assumption) ?_
      rotate_left
      · intro w hSw; (try dsimp only at hSw); first | (go_simp; done) | (go_simp; with_reducible rfl)
      try simp only [Act.put, List.setIfInBounds_toArray, List.set_cons_zero, List.set_cons_succ]
      refine wpAnyH_take (i := 2) (v := ?_) rfl (by kernel_rfl) (by kernel_rfl) (by kernel_rfl) (fun _ _ _ h => h) (Or.inl ⟨by rfl, ?_⟩) (by assumption) ?_
      rotate_left
      · intro w hSw; (try dsimp only at hSw); first | (go_simp; done) | (go_simp; with_reducible rfl)
      try simp only [Act.put, List.setIfInBounds_toArray, List.set_cons_zero, List.set_cons_succ]
      refine wpAnyH_take (i := 5) (v := ?_) rfl (by kernel_rfl) (by kernel_rfl) (by kernel_rfl) (fun _ _ _ h => h) (Or.inl ⟨by rfl, ?_⟩) (by assumption) ?_
      rotate_left
      · intro w hSw; (try dsimp only at hSw); first | (go_simp; done) | (go_simp; with_reducible rfl)
      try simp only [Act.put, List.setIfInBounds_toArray, List.set_cons_zero, List.set_cons_succ]
      refine wpAnyH_take (i := 7) (v := ?_) rfl (by kernel_rfl) (by kernel_rfl) (by kernel_rfl) (fun _ _ _ h => h) (Or.inl ⟨by rfl, ?_⟩) (by assumption) ?_
      rotate_left
      · intro w hSw; (try dsimp only at hSw); first | (go_simp; done) | (go_simp; with_reducible rfl)
      try simp only [Act.put, List.setIfInBounds_toArray, List.set_cons_zero, List.set_cons_succ]
      refine wpAnyH_take (i := 3) (v := ?_) rfl (by kernel_rfl) (by kernel_rfl) (by kernel_rfl) (fun _ _ _ h => h) (Or.inl ⟨by rfl, ?_⟩) (by assumption) ?_
      rotate_left
      · intro w hSw; (try dsimp only at hSw); first | (go_simp; done) | (go_simp; with_reducible rfl)
      try simp only [Act.put, List.setIfInBounds_toArray, List.set_cons_zero, List.set_cons_succ]
      refine wpAnyH_take (i := 8) (v := ?_) rfl (by kernel_rfl) (by kernel_rfl) (by kernel_rfl) (fun _ _ _ h => h) (Or.inl ⟨by rfl, ?_⟩) (by assumption) ?_
      rotate_left
      · intro w hSw; (try dsimp only at hSw); first | (go_simp; done) | (go_simp; with_reducible rfl)
      try simp only [Act.put, List.setIfInBounds_toArray, List.set_cons_zero, List.set_cons_succ]
      refine wpAnyH_ready (rs := [1, 6]) (by kernel_rfl) (by simp) (AllReadyH.cons rfl (fun K hK => ?_) (AllReadyH.cons rfl (fun K hK => ?_) AllReadyH.nil))
      · go_simp
        refine hK.out _ _ ?_ (fun hHeld => ?_)
        · exact hHeld
        clear hK K
        try simp only [Act.put, List.setIfInBounds_toArray, List.set_cons_zero, List.set_cons_succ]
        refine wpAnyH_take (i := 4) (oi := { dst := some 43, op := Op.call { callee := .builtin .max, args := #[.tmp 40, .tmp 42], argTypes := #[3, 3] }, type := _, pos := _, after := _, guard := none }) (v := .int .i64 ms) rfl (by kernel_rfl) (by kernel_rfl) (by kernel_rfl) (fun _ _ _ h => h) (Or.inl ⟨by rfl, fun W _ => run_max11 (by rfl) (by rfl) (by rfl) EMS.out W⟩) (by assumption) ?_
        try simp only [Act.put, List.setIfInBounds_toArray, List.set_cons_zero, List.set_cons_succ]
        refine wpAnyH_ready (rs := [6]) (by kernel_rfl) (by simp) (AllReadyH.cons rfl (fun K hK => ?_) AllReadyH.nil)
        go_simp
        refine hK.out _ _ ?_ (fun hHeld => ?_)
        · exact hHeld
        clear hK K
        try simp only [Act.put, List.setIfInBounds_toArray, List.set_cons_zero, List.set_cons_succ]
        refine wpAnyH_take (i := 9) (oi := { dst := some 48, op := Op.call { callee := .builtin .max, args := #[.tmp 45, .tmp 47], argTypes := #[3, 3] }, type := _, pos := _, after := _, guard := none }) (v := .int .i64 ma) rfl (by kernel_rfl) (by kernel_rfl) (by kernel_rfl) (fun _ _ _ h => h) (Or.inl ⟨by rfl, fun W _ => run_max11 (by rfl) (by rfl) (by rfl) EMA.out W⟩) (by assumption) ?_
        try simp only [Act.put, List.setIfInBounds_toArray, List.set_cons_zero, List.set_cons_succ]
        refine wpAnyH_take (i := 10) (v := ?_) rfl (by kernel_rfl) (by kernel_rfl) (by kernel_rfl) (fun _ _ _ h => h) (Or.inl ⟨by rfl, ?_⟩) (by assumption) ?_
        rotate_left
        · intro w hSw; (try dsimp only at hSw); first | (go_simp; done) | (go_simp; with_reducible rfl)
        try simp only [Act.put, List.setIfInBounds_toArray, List.set_cons_zero, List.set_cons_succ]
        refine wpAnyH_ready (rs := [11]) (by kernel_rfl) (by simp) (AllReadyH.cons rfl (fun K hK => ?_) AllReadyH.nil)
        go_simp
        refine hK.out _ _ ?_ (fun hHeld => ?_)
        · exact ⟨(World.cell?_setCell_far _ _ _ _ (by simp)).trans hHeld.1, (World.cell?_setCell_far _ _ _ _ (by simp)).trans hHeld.2⟩
        clear hK K
        try simp only [Act.put, List.setIfInBounds_toArray, List.set_cons_zero, List.set_cons_succ]
        refine wpAnyH_take (i := 12) (v := ?_) rfl (by kernel_rfl) (by kernel_rfl) (by kernel_rfl) (fun _ _ _ h => h) (Or.inl ⟨by rfl, ?_⟩) (by assumption) ?_
        rotate_left
        · intro w hSw; (try dsimp only at hSw); first | (go_simp; done) | (go_simp; with_reducible rfl)
        try simp only [Act.put, List.setIfInBounds_toArray, List.set_cons_zero, List.set_cons_succ]
        have z3' : (W2.drew.setCell ⟨w.heap.size + 1, 2, none⟩ (.int .i64 ms)).cell? ⟨w.heap.size + 1, 3, none⟩ = some (.int .i64 xa) := (World.cell?_setCell_other _ _ _ _ (by simp)).trans (cell_any z3 (Below.refl _ _).drew)
        refine wpAnyH_ready (rs := [13]) (by kernel_rfl) (by simp) (AllReadyH.cons rfl (fun K hK => ?_) AllReadyH.nil)
        go_simp
        refine hK.out _ _ ?_ (fun hHeld => ?_)
        · exact ⟨(World.cell?_setCell_far _ _ _ _ (by simp)).trans hHeld.1, (World.cell?_setCell_far _ _ _ _ (by simp)).trans hHeld.2⟩
        clear hK K
        try simp only [Act.put, List.setIfInBounds_toArray, List.set_cons_zero, List.set_cons_succ]
        refine wpAnyH_done (by kernel_rfl) ?_ _
        have X3 : Hid (XAt ((W2.setCell ⟨w.heap.size + 1, 2, none⟩ (.int .i64 ms)).setCell ⟨w.heap.size + 1, 3, none⟩ (.int .i64 ma)).drew (w.heap.size + 1) [.int .i64 (xo : Int), .int .i64 xb, .int .i64 ms, .int .i64 ma]) :=
          XAt.keep ((X2.out.set 2 (by simp) _).set 3 (by simp) _) rfl
        have UP3 : Hid (Below w.heap.size w ((W2.setCell ⟨w.heap.size + 1, 2, none⟩ (.int .i64 ms)).setCell ⟨w.heap.size + 1, 3, none⟩ (.int .i64 ma)).drew) :=
          ((UP2.out.setCell (p := ⟨w.heap.size + 1, 2, none⟩) (Nat.le_succ _) _).setCell (p := ⟨w.heap.size + 1, 3, none⟩) (Nat.le_succ _) _).drew
        clear hHeld z3' z2 z3 y2 y3 fz X2 UP2
        generalize ((W2.setCell ⟨w.heap.size + 1, 2, none⟩ (.int .i64 ms)).setCell ⟨w.heap.size + 1, 3, none⟩ (.int .i64 ma)).drew = W3 at X3 UP3 ⊢
        have u0 := X3.out.1 0 _ rfl
        have u1 := X3.out.1 1 _ rfl
        have u2 := X3.out.1 2 _ rfl
        have u3 := X3.out.1 3 _ rfl
        go_wp2_with (at_mapUpdate; refine wpList_held_store (by rfl) (.tmp 51) (.tmp 52) (.tmp 53) (by rfl) (HM.out.later UP3.out) HN.out (by rfl) s (by rfl) HS.out ⟨xo, xb, ms, ma⟩ (by rfl) ?_; intro w1 hm1 hg1)
        go_ret
        exact ⟨rfl, fun H' e => by cases e; exact hm1, apart_map UP3.out hg1⟩
      · go_simp
        refine hK.out _ _ ?_ (fun hHeld => ?_)
        · exact hHeld
        clear hK K
        try simp only [Act.put, List.setIfInBounds_toArray, List.set_cons_zero, List.set_cons_succ]
        refine wpAnyH_take (i := 9) (oi := { dst := some 48, op := Op.call { callee := .builtin .max, args := #[.tmp 45, .tmp 47], argTypes := #[3, 3] }, type := _, pos := _, after := _, guard := none }) (v := .int .i64 ma) rfl (by kernel_rfl) (by kernel_rfl) (by kernel_rfl) (fun _ _ _ h => h) (Or.inl ⟨by rfl, fun W _ => run_max11 (by rfl) (by rfl) (by rfl) EMA.out W⟩) (by assumption) ?_
        try simp only [Act.put, List.setIfInBounds_toArray, List.set_cons_zero, List.set_cons_succ]
        refine wpAnyH_ready (rs := [1]) (by kernel_rfl) (by simp) (AllReadyH.cons rfl (fun K hK => ?_) AllReadyH.nil)
        go_simp
        refine hK.out _ _ ?_ (fun hHeld => ?_)
        · exact hHeld
        clear hK K
        try simp only [Act.put, List.setIfInBounds_toArray, List.set_cons_zero, List.set_cons_succ]
        refine wpAnyH_take (i := 4) (oi := { dst := some 43, op := Op.call { callee := .builtin .max, args := #[.tmp 40, .tmp 42], argTypes := #[3, 3] }, type := _, pos := _, after := _, guard := none }) (v := .int .i64 ms) rfl (by kernel_rfl) (by kernel_rfl) (by kernel_rfl) (fun _ _ _ h => h) (Or.inl ⟨by rfl, fun W _ => run_max11 (by rfl) (by rfl) (by rfl) EMS.out W⟩) (by assumption) ?_
        try simp only [Act.put, List.setIfInBounds_toArray, List.set_cons_zero, List.set_cons_succ]
        refine wpAnyH_take (i := 10) (v := ?_) rfl (by kernel_rfl) (by kernel_rfl) (by kernel_rfl) (fun _ _ _ h => h) (Or.inl ⟨by rfl, ?_⟩) (by assumption) ?_
        rotate_left
        · intro w hSw; (try dsimp only at hSw); first | (go_simp; done) | (go_simp; with_reducible rfl)
        try simp only [Act.put, List.setIfInBounds_toArray, List.set_cons_zero, List.set_cons_succ]
        refine wpAnyH_ready (rs := [11]) (by kernel_rfl) (by simp) (AllReadyH.cons rfl (fun K hK => ?_) AllReadyH.nil)
        go_simp
        refine hK.out _ _ ?_ (fun hHeld => ?_)
        · exact ⟨(World.cell?_setCell_far _ _ _ _ (by simp)).trans hHeld.1, (World.cell?_setCell_far _ _ _ _ (by simp)).trans hHeld.2⟩
        clear hK K
        try simp only [Act.put, List.setIfInBounds_toArray, List.set_cons_zero, List.set_cons_succ]
        refine wpAnyH_take (i := 12) (v := ?_) rfl (by kernel_rfl) (by kernel_rfl) (by kernel_rfl) (fun _ _ _ h => h) (Or.inl ⟨by rfl, ?_⟩) (by assumption) ?_
        rotate_left
        · intro w hSw; (try dsimp only at hSw); first | (go_simp; done) | (go_simp; with_reducible rfl)
        try simp only [Act.put, List.setIfInBounds_toArray, List.set_cons_zero, List.set_cons_succ]
        have z3' : (W2.drew.setCell ⟨w.heap.size + 1, 2, none⟩ (.int .i64 ms)).cell? ⟨w.heap.size + 1, 3, none⟩ = some (.int .i64 xa) := (World.cell?_setCell_other _ _ _ _ (by simp)).trans (cell_any z3 (Below.refl _ _).drew)
        refine wpAnyH_ready (rs := [13]) (by kernel_rfl) (by simp) (AllReadyH.cons rfl (fun K hK => ?_) AllReadyH.nil)
        go_simp
        refine hK.out _ _ ?_ (fun hHeld => ?_)
        · exact ⟨(World.cell?_setCell_far _ _ _ _ (by simp)).trans hHeld.1, (World.cell?_setCell_far _ _ _ _ (by simp)).trans hHeld.2⟩
        clear hK K
        try simp only [Act.put, List.setIfInBounds_toArray, List.set_cons_zero, List.set_cons_succ]
        refine wpAnyH_done (by kernel_rfl) ?_ _
        have X3 : Hid (XAt ((W2.setCell ⟨w.heap.size + 1, 2, none⟩ (.int .i64 ms)).setCell ⟨w.heap.size + 1, 3, none⟩ (.int .i64 ma)).drew (w.heap.size + 1) [.int .i64 (xo : Int), .int .i64 xb, .int .i64 ms, .int .i64 ma]) :=
          XAt.keep ((X2.out.set 2 (by simp) _).set 3 (by simp) _) rfl
        have UP3 : Hid (Below w.heap.size w ((W2.setCell ⟨w.heap.size + 1, 2, none⟩ (.int .i64 ms)).setCell ⟨w.heap.size + 1, 3, none⟩ (.int .i64 ma)).drew) :=
          ((UP2.out.setCell (p := ⟨w.heap.size + 1, 2, none⟩) (Nat.le_succ _) _).setCell (p := ⟨w.heap.size + 1, 3, none⟩) (Nat.le_succ _) _).drew
        clear hHeld z3' z2 z3 y2 y3 fz X2 UP2
        generalize ((W2.setCell ⟨w.heap.size + 1, 2, none⟩ (.int .i64 ms)).setCell ⟨w.heap.size + 1, 3, none⟩ (.int .i64 ma)).drew = W3 at X3 UP3 ⊢
        have u0 := X3.out.1 0 _ rfl
        have u1 := X3.out.1 1 _ rfl
        have u2 := X3.out.1 2 _ rfl
        have u3 := X3.out.1 3 _ rfl
        go_wp2_with (at_mapUpdate; refine wpList_held_store (by rfl) (.tmp 51) (.tmp 52) (.tmp 53) (by rfl) (HM.out.later UP3.out) HN.out (by rfl) s (by rfl) HS.out ⟨xo, xb, ms, ma⟩ (by rfl) ?_; intro w1 hm1 hg1)
        go_ret
        exact ⟨rfl, fun H' e => by cases e; exact hm1, apart_map UP3.out hg1⟩
    · have e : offerR H s ⟨qo, qb, qs, qa⟩ = some H := by rw [e0, hH]; unfold offerZ; dsimp only; rw [if_neg c1, if_neg c2, if_neg c3]; exact congrArg some (put_self hH)
      rw [e]
      have g4 : (xb == 4) = false := by simpa using c3
      clear e e0 hH c1 c2 c3
      go_enter Tryz.func38, Tryz.ntmps38
      go_wp2_with (first
        | (at_lookup; refine wpList_held_ok (by rfl) (.tmp 13) (.tmp 14) (by rfl) (HM.out.later UP1.out) (by rfl) s (by rfl) HS.out _ HH.out (.agg #[.int .i64 (xo : Int), .int .i64 xb, .int .i64 xs, .int .i64 xa]) rfl true rfl ?_))
      go_ret
      exact ⟨rfl, fun H' e => by cases e; exact MapAt.mono (HM.out.later UP2.out) (Nat.le_succ n), Apart.of_below UP2.out⟩
open Go.ChangeShapes Go.WideShapes Go.ChangeAt Go.RowKit
set_option linter.unusedVariables false
set_option linter.unusedSimpArgs false
theorem flat_get {α : Type} {cells : α → List Value} {sz : Nat} (hc : ∀ x, (cells x).length = sz) : ∀ (l : List α) (i : Nat) (x : α), l[i]? = some x → ∀ j v, (cells x)[j]? = some v → (l.flatMap cells)[i * sz + j]? = some v := by
  intro l
  induction l with
  | nil => intro i x h; simp at h
  | cons y l ih =>
    intro i x h j v hv
    have hj : j < sz := by
      rw [← hc x]
      exact (List.getElem?_eq_some_iff.1 hv).1
    rw [List.flatMap_cons]
    rcases i with _ | i
    · simp at h
      subst h
      rw [List.getElem?_append_left (by rw [hc]; omega), Nat.zero_mul, Nat.zero_add]
      exact hv
    · rw [List.getElem?_append_right (by rw [hc, Nat.add_mul]; omega), hc]
      rw [show (i + 1) * sz + j - sz = i * sz + j from by rw [Nat.add_mul]; omega]
      exact ih i x (by simpa using h) j v hv
theorem flat_len {α : Type} {cells : α → List Value} {sz : Nat} (hc : ∀ x, (cells x).length = sz) (l : List α) : (l.flatMap cells).length = l.length * sz := by
  induction l with
  | nil => simp
  | cons y l ih => rw [List.flatMap_cons, List.length_append, ih, hc, List.length_cons, Nat.add_mul]; omega
/-- A row of one's own as a list. -/
theorem own_lst {α : Type} {cells : α → List Value} {sz : Nat} (hc : ∀ x, (cells x).length = sz) {w : World} {base : Nat} {e : TypeId} {v : Value} {l : List α} (h : w.ownsRow base e sz v l.length (l.flatMap cells)) {el : Nat → Nat → α → Prop} (hel : ∀ b o x, x ∈ l → (∀ j u, (cells x)[j]? = some u → w.cell? ⟨b, o + j, none⟩ = some u) → el b o x) :
    LstA sz el (fun k => base ≤ k ∧ k < w.heap.size) v l := by
  rcases id h.2 with ⟨rfl, h0⟩ | ⟨g, cap', cur, rfl, hb, hg, hn, hm, _⟩
  · obtain rfl := List.eq_nil_of_length_eq_zero h0
    exact LstA.nil
  · refine ⟨some ⟨g, 0, none⟩, cap', rfl, ⟨⟨hn, fun e => by cases e⟩, hm⟩, fun x e => ?_, .inr ⟨g, 0, rfl, fun i x hx => ?_⟩⟩
    · cases e
      refine ⟨hb, ?_⟩
      rcases Nat.lt_or_ge g w.heap.size with h | h
      · exact h
      · rw [Array.getElem?_eq_none h] at hg; cases hg
    · refine hel g _ x (List.mem_of_getElem? hx) fun j u hu => ?_
      have := h.cells (g := g) rfl _ _ (flat_get hc l i x hx j u hu)
      rw [Nat.zero_add]
      rwa [show (⟨g, 0, none⟩ : Addr).add (i * sz + j) = ⟨g, i * sz + j, none⟩ from by simp only [Addr.add]; split <;> simp_all] at this
theorem own_less {w : World} {base base' : Nat} {e : TypeId} {size : Nat} {v : Value} {n : Nat} {xs : List Value} (h : w.ownsRow base e size v n xs) (hb : base' ≤ base) : w.ownsRow base' e size v n xs :=
  ⟨h.1, h.2.imp id fun ⟨g, cap, cur, h1, h2, h3⟩ => ⟨g, cap, cur, h1, Nat.le_trans hb h2, h3⟩⟩
/-- It stands where its block isn't written to. -/
theorem own_apart {O : Nat → Prop} {w w' : World} {base : Nat} {e : TypeId} {size : Nat} {v : Value} {n : Nat} {xs : List Value} (h : w.ownsRow base e size v n xs) (hA : Apart O w w') (hO : ∀ k, base ≤ k → ¬ O k) : w'.ownsRow base e size v n xs := by
  refine ⟨h.1, h.2.imp id fun ⟨g, cap, cur, h1, h2, h3, h4⟩ => ⟨g, cap, cur, h1, h2, ?_, h4⟩⟩
  have hl : g < w.heap.size := by
    rcases Nat.lt_or_ge g w.heap.size with h | h
    · exact h
    · rw [Array.getElem?_eq_none h] at h3; cases h3
  rw [hA.block g hl (hO g h2)]; exact h3
def relC (r : RelM) : List Value := [.int .i64 r.at_, .int .i64 r.kind, .string r.name, .int .i64 r.add]
theorem relC_len (r : RelM) : (relC r).length = 4 := rfl
theorem own_rels {w : World} {base : Nat} {e : TypeId} {v : Value} {l : List RelM} (h : w.ownsRow base e 4 v l.length (l.flatMap relC)) (hs : ∀ r ∈ l, r.name.size ≤ 255) : IsRels (fun k => base ≤ k ∧ k < w.heap.size) w v l :=
  own_lst relC_len h fun b o x hx hc => ⟨hc 0 _ rfl, hc 1 _ rfl, hc 2 _ rfl, hc 3 _ rfl, by have := hs x hx; unfold maxLen; omega⟩
def noteC (x : NoteM) : List Value := [.string x.name, .int .i64 x.kind]
theorem noteC_len (x : NoteM) : (noteC x).length = 2 := rfl
theorem own_notes {w : World} {base : Nat} {e : TypeId} {v : Value} {l : List NoteM} (h : w.ownsRow base e 2 v l.length (l.flatMap noteC)) (hs : ∀ r ∈ l, r.name.size ≤ 255) : IsNotes (fun k => base ≤ k ∧ k < w.heap.size) w v l :=
  own_lst noteC_len h fun b o x hx hc => ⟨hc 0 _ rfl, hc 1 _ rfl, by have := hs x hx; unfold maxLen; omega⟩
theorem cellsK_flat (k : IntKind) (l : List Int) : l.flatMap (fun x => [Value.int k x]) = l.map fun x => .int k x := by
  induction l with
  | nil => rfl
  | cons x l ih => simp [List.flatMap_cons, ih]
theorem own_words {w : World} {base : Nat} {e : TypeId} {v : Value} {l : List Int} (h : w.ownsRow base e 1 v l.length (l.map fun x => .int .u32 x)) (hs : Wrd l) : IsWords (fun k => base ≤ k ∧ k < w.heap.size) w v l :=
  ⟨own_lst (cells := fun x => [Value.int .u32 x]) (fun _ => rfl) (by rw [cellsK_flat]; exact h) fun b o x hx hc => hc 0 _ rfl, hs⟩
theorem own_bytesL {w : World} {base : Nat} {e : TypeId} {v : Value} {l : List Int} (h : w.ownsRow base e 1 v l.length (l.map fun x => .int .u8 x)) (hs : Byt l) : IsBytes (fun k => base ≤ k ∧ k < w.heap.size) w v l :=
  ⟨own_lst (cells := fun x => [Value.int .u8 x]) (fun _ => rfl) (by rw [cellsK_flat]; exact h) fun b o x hx hc => hc 0 _ rfl, hs⟩
theorem cellsK_map (k : IntKind) (l : List Int) : cellsK k l.length (gF l) = l.map fun x => .int k x := by
  refine List.ext_getElem? fun i => ?_
  by_cases h : i < l.length
  · rw [cellsK_get _ _ _ _ h, List.getElem?_map, gF_get h]; rfl
  · rw [List.getElem?_eq_none (by rw [cellsK_len]; omega), List.getElem?_eq_none (by rw [List.length_map]; omega)]
theorem nameR_size {s : St} (h : ∀ b, s = .good b → Byt b) : (nameR s).1.size ≤ 255 := by
  have hn : (nameR s).1 = textL (takeR (numR 1 s).1.toNat (numR 1 s).2).1 := rfl
  rw [hn, textL_size]
  have hb : 0 ≤ (numR 1 s).1 ∧ (numR 1 s).1 < 256 ^ 1 := by
    have hl : ((takeR 1 s).1).length = 1 := by
      cases s with
      | bad e => simp [takeR]
      | good b => unfold takeR; dsimp only; split <;> simp; omega
    have hy : Byt (takeR 1 s).1 := by
      cases s with
      | bad e => intro x hx; simp [takeR] at hx; omega
      | good b =>
        unfold takeR
        dsimp only
        split
        · exact fun x hx => h b rfl x (List.mem_of_mem_take hx)
        · intro x hx; simp at hx; omega
    have := sumL_bd _ hy
    rwa [hl] at this
  rw [p256_1] at hb
  have hl : ((takeR (numR 1 s).1.toNat (numR 1 s).2).1).length = (numR 1 s).1.toNat := by
    generalize (numR 1 s).1.toNat = n
    cases (numR 1 s).2 with
    | bad e => simp [takeR]
    | good b => unfold takeR; dsimp only; split <;> simp; omega
  rw [hl]; omega
open Go.ChangeShapes Go.WideShapes Go.ChangeAt Go.RowKit
set_option linter.unusedVariables false
set_option linter.unusedSimpArgs false
def fewF (f : FuncM) : Prop := f.code.length ≤ 2100 ∧ f.rels.length ≤ 70 ∧ f.name.size ≤ 100
def fewD (d : DataM) : Prop := d.bytes.length ≤ 5000 ∧ d.rels.length ≤ 70 ∧ d.name.size ≤ 100
def fewO (o : ObjM) : Prop := (o.funcs.length ≤ 70 ∧ o.datas.length ≤ 70 ∧ o.notes.length ≤ 70) ∧ (∀ f ∈ o.funcs, fewF f) ∧ ∀ d ∈ o.datas, fewD d
theorem iff_no {P : Prop} (h : ¬ P) : (false = true ↔ P) := ⟨(fun e => by cases e), fun e => absurd e h⟩
theorem iff_yes {P : Prop} (h : P) : (true = true ↔ P) := ⟨fun _ => h, fun _ => rfl⟩
/-- The answer is whether it is so. -/
def Says (e : Ending) (P : Prop) : Prop := ∃ b, e = .returned (.bool b) ∧ (b = true ↔ P)
/-- All up to k, and the next one. -/
theorem upto_next {α : Type} {P : α → Prop} {l : List α} {k : Nat} {x : α} (h : ∀ j y, j < k → l[j]? = some y → P y) (hx : l[k]? = some x) (hp : P x) : ∀ j y, j < k + 1 → l[j]? = some y → P y := fun j y hj hy => by
  rcases (by omega : j < k ∨ j = k) with h1 | rfl
  · exact h j y h1 hy
  · rw [hx] at hy; cases hy; exact hp
theorem upto_all {α : Type} {P : α → Prop} {l : List α} (h : ∀ j y, j < l.length → l[j]? = some y → P y) : ∀ x ∈ l, P x := fun x hx => by
  obtain ⟨j, hj⟩ := List.mem_iff_getElem?.mp hx
  exact h j x ((List.getElem?_eq_some_iff.1 hj).1) hj
theorem LstA.open {α : Type} {sz : Nat} {el : Nat → Nat → α → Prop} {A : Nat → Prop} {v : Value} {l : List α} (h : LstA sz el A v l) : ∃ a c, v = .slice a l.length c ∧ l.length ≤ maxLen ∧ (Head a l.length c) ∧ ∀ k, k < l.length → ∃ b off x, a = some ⟨b, off, none⟩ ∧ A b ∧ l[k]? = some x ∧ el b (off + k * sz) x := by
  obtain ⟨a, c, e, ⟨hh, hc⟩, hA, hl⟩ := h
  refine ⟨a, c, e, Nat.le_trans hh.1 hc, hh, fun k hk => ?_⟩
  rcases hl with rfl | ⟨b, off, e, hx⟩
  · simp at hk
  · exact ⟨b, off, l[k], e, hA _ e, List.getElem?_eq_getElem hk, hx k _ (List.getElem?_eq_getElem hk)⟩
set_option maxRecDepth 100000 in
set_option maxHeartbeats 2000000 in
theorem few_any {A : Nat → Prop} {w : World} {v : Value} {o : ObjM} (h : IsObj A w v o) :
    Calls Tryz.prog 17 #[v] w fun e w' => Says e (fewO o) ∧ Below w.heap.size w w' := by
  obtain ⟨vf, vd, vn, rfl, hf, hd, hn⟩ := h
  obtain ⟨fa, fc, rfl, fm, fh, fx⟩ := LstA.open hf
  obtain ⟨da, dc, rfl, dm, dh, dx⟩ := LstA.open hd
  obtain ⟨na, nc, rfl, nm, nh, nx⟩ := LstA.open hn
  obtain ⟨F, eF⟩ : ∃ F, o.funcs.length = F := ⟨_, rfl⟩
  obtain ⟨D, eD⟩ : ∃ D, o.datas.length = D := ⟨_, rfl⟩
  obtain ⟨N, eN⟩ : ∃ N, o.notes.length = N := ⟨_, rfl⟩
  rw [eF] at fm fh fx ⊢
  rw [eD] at dm dh dx ⊢
  rw [eN] at nm nh nx ⊢
  have EF : Hid (o.funcs.length = F ∧ o.datas.length = D ∧ o.notes.length = N) := ⟨eF, eD, eN⟩
  have FX : Hid (∀ k, k < F → ∃ b off x, fa = some ⟨b, off, none⟩ ∧ A b ∧ o.funcs[k]? = some x ∧ FuncAt A w b (off + k * 4) x) := fx
  have DX : Hid (∀ k, k < D → ∃ b off x, da = some ⟨b, off, none⟩ ∧ A b ∧ o.datas[k]? = some x ∧ DataAt A w b (off + k * 7) x) := dx
  have up : Below w.heap.size w (w.alloc (.cells #[.slice fa F fc, .slice da D dc, .slice na N nc] 46)) := keep_alloc8 (Below.refl _ _) _
  have c0 := new_cell' w #[.slice fa F fc, .slice da D dc, .slice na N nc] 46 0 _ rfl
  have c1 := new_cell' w #[.slice fa F fc, .slice da D dc, .slice na N nc] 46 1 _ rfl
  have c2 := new_cell' w #[.slice fa F fc, .slice da D dc, .slice na N nc] 46 2 _ rfl
  have UP : Hid (Below w.heap.size w (w.alloc (.cells #[.slice fa F fc, .slice da D dc, .slice na N nc] 46))) := up
  clear hf hd hn eF eD eN fx dx nx up fm dm nm fh dh nh
  go_enter Tryz.func17, Tryz.ntmps17
  go_upto_region 1 with fail
  generalize w.alloc (.cells #[.slice fa F fc, .slice da D dc, .slice na N nc] 46) = w0 at c0 c1 c2 UP ⊢
  rcases (by omega : 70 < (F : Int) ∨ ((F : Int) ≤ 70 ∧ 70 < (D : Int)) ∨ ((F : Int) ≤ 70 ∧ (D : Int) ≤ 70 ∧ 70 < (N : Int)) ∨ ((F : Int) ≤ 70 ∧ (D : Int) ≤ 70 ∧ (N : Int) ≤ 70)) with h1 | ⟨h1, h2⟩ | ⟨h1, h2, h3⟩ | ⟨h1, h2, h3⟩
  · go_wp2
    go_ret
    exact ⟨⟨false, rfl, iff_no (fun e => by have := e.1.1; have := EF.out; omega)⟩, UP.out⟩
  · go_wp2
    go_ret
    exact ⟨⟨false, rfl, iff_no (fun e => by have := e.1.2.1; have := EF.out; omega)⟩, UP.out⟩
  · go_wp2
    go_ret
    exact ⟨⟨false, rfl, iff_no (fun e => by have := e.1.2.2; have := EF.out; omega)⟩, UP.out⟩
  · go_wp2
    go_loop [3] (fun i => ∃ k : Nat, k ≤ F ∧ i = .int .i64 k ∧ ∀ j y, j < k → o.funcs[j]? = some y → fewF y) (fun i => F - (intOf i).toNat)
    case atStart => exact ⟨0, Nat.zero_le _, rfl, fun j y hj => by omega⟩
    case round =>
      obtain ⟨k, hk, rfl, hp⟩ := hrel
      have HP : Hid (∀ j y, j < k → o.funcs[j]? = some y → fewF y) := hp
      clear hp
      by_cases hlt : k < F
      · have hlt' : (k : Int) < F := by omega
        obtain ⟨b, off, x, rfl, hA, hx, vc, vr, x0, x1, x2, x3, wc, wr, hs⟩ := FX.out k hlt
        obtain ⟨ca, cc, rfl, -, -, -⟩ := LstA.open wc.1
        obtain ⟨ra, rc, rfl, -, -, -⟩ := LstA.open wr
        have HX : Hid (o.funcs[k]? = some x) := hx
        have y0 := cell_any x0 UP.out
        have y2 := cell_any x2 UP.out
        have y3 := cell_any x3 UP.out
        clear x0 x1 x2 x3 wc wr hx
        have no : ¬ fewF x → ¬ fewO o := fun h1 h2 => h1 (h2.2.1 x (List.mem_of_getElem? HX.out))
        have NO : Hid (¬ fewF x → ¬ fewO o) := no
        clear no
        rcases (by omega : 2100 < (x.code.length : Int) ∨ ((x.code.length : Int) ≤ 2100 ∧ 70 < (x.rels.length : Int)) ∨ ((x.code.length : Int) ≤ 2100 ∧ (x.rels.length : Int) ≤ 70 ∧ 100 < (x.name.size : Int)) ∨ ((x.code.length : Int) ≤ 2100 ∧ (x.rels.length : Int) ≤ 70 ∧ (x.name.size : Int) ≤ 100)) with q1 | ⟨q1, q2⟩ | ⟨q1, q2, q3⟩ | ⟨q1, q2, q3⟩
        · go_wp2
          go_ret
          exact ⟨⟨false, rfl, iff_no (NO.out fun e => by have := e.1; omega)⟩, UP.out⟩
        · go_wp2
          go_ret
          exact ⟨⟨false, rfl, iff_no (NO.out fun e => by have := e.2.1; omega)⟩, UP.out⟩
        · go_wp2
          go_ret
          exact ⟨⟨false, rfl, iff_no (NO.out fun e => by have := e.2.2; omega)⟩, UP.out⟩
        · go_wp2
          go_round
          case rel => exact ⟨k + 1, by omega, by go_num, upto_next HP.out HX.out ⟨by omega, by omega, by omega⟩⟩
          case measure => simp [intOf]; omega
      · obtain rfl : k = F := by omega
        have HF : Hid (∀ f ∈ o.funcs, fewF f) := upto_all (by rw [EF.out.1]; exact HP.out)
        clear HP
        go_wp2
        go_loop [4] (fun i => ∃ k : Nat, k ≤ D ∧ i = .int .i64 k ∧ ∀ j y, j < k → o.datas[j]? = some y → fewD y) (fun i => D - (intOf i).toNat)
        case atStart => exact ⟨0, Nat.zero_le _, rfl, fun j y hj => by omega⟩
        case round =>
          obtain ⟨k, hk, rfl, hp⟩ := hrel
          have HP : Hid (∀ j y, j < k → o.datas[j]? = some y → fewD y) := hp
          clear hp
          by_cases hlt : k < D
          · have hlt' : (k : Int) < D := by omega
            obtain ⟨b, off, x, rfl, hA, hx, vb, vr, x0, x1, x2, x3, x4, x5, x6, wb, wr, hs⟩ := DX.out k hlt
            obtain ⟨ca, cc, rfl, -, -, -⟩ := LstA.open wb.1
            obtain ⟨ra, rc, rfl, -, -, -⟩ := LstA.open wr
            have HX : Hid (o.datas[k]? = some x) := hx
            have y0 := cell_any x0 UP.out
            have y5 := cell_any x5 UP.out
            have y6 := cell_any x6 UP.out
            have NO : Hid (¬ fewD x → ¬ fewO o) := fun h1 h2 => h1 (h2.2.2 x (List.mem_of_getElem? HX.out))
            clear x0 x1 x2 x3 x4 x5 x6 wb wr hx
            rcases (by omega : 5000 < (x.bytes.length : Int) ∨ ((x.bytes.length : Int) ≤ 5000 ∧ 70 < (x.rels.length : Int)) ∨ ((x.bytes.length : Int) ≤ 5000 ∧ (x.rels.length : Int) ≤ 70 ∧ 100 < (x.name.size : Int)) ∨ ((x.bytes.length : Int) ≤ 5000 ∧ (x.rels.length : Int) ≤ 70 ∧ (x.name.size : Int) ≤ 100)) with q1 | ⟨q1, q2⟩ | ⟨q1, q2, q3⟩ | ⟨q1, q2, q3⟩
            · go_wp2
              go_ret
              exact ⟨⟨false, rfl, iff_no (NO.out fun e => by have := e.1; omega)⟩, UP.out⟩
            · go_wp2
              go_ret
              exact ⟨⟨false, rfl, iff_no (NO.out fun e => by have := e.2.1; omega)⟩, UP.out⟩
            · go_wp2
              go_ret
              exact ⟨⟨false, rfl, iff_no (NO.out fun e => by have := e.2.2; omega)⟩, UP.out⟩
            · go_wp2
              go_round
              case rel => exact ⟨k + 1, by omega, by go_num, upto_next HP.out HX.out ⟨by omega, by omega, by omega⟩⟩
              case measure => simp [intOf]; omega
          · obtain rfl : k = D := by omega
            go_wp2
            go_ret
            exact ⟨⟨true, rfl, iff_yes ⟨by have := EF.out; omega, HF.out, upto_all (by rw [EF.out.2.1]; exact HP.out)⟩⟩, UP.out⟩
open Go.ChangeShapes Go.WideShapes Go.ChangeAt Go.RowKit
set_option linter.unusedVariables false
set_option linter.unusedSimpArgs false
theorem Says.yes {e : Ending} {P : Prop} (h : Says e P) (hp : P) : e = .returned (.bool true) := by
  obtain ⟨b, rfl, hb⟩ := h
  rw [hb.mpr hp]
theorem Says.no {e : Ending} {P : Prop} (h : Says e P) (hp : ¬ P) : e = .returned (.bool false) := by
  obtain ⟨b, rfl, hb⟩ := h
  cases b
  · rfl
  · exact absurd (hb.mp rfl) hp
theorem says_of {b : Bool} {P : Prop} (hb : b = true ↔ P) : Says (.returned (.bool b)) P := ⟨b, rfl, hb⟩
theorem str_beq (s t : ByteArray) : (s.toList == t.toList) = true ↔ s = t := by
  rw [beq_iff_eq, ByteArray.toList_eq, ByteArray.toList_eq]
  constructor
  · intro h
    cases s; cases t
    congr
    exact Array.toList_inj.mp h
  · rintro rfl; rfl
theorem str_ne {s t : ByteArray} (h : ¬ s = t) : (s.toList == t.toList) = false := by
  cases hb : (s.toList == t.toList)
  · rfl
  · exact absurd ((str_beq s t).mp hb) h
theorem list_len_ne {α : Type} {a b : List α} (h : a.length ≠ b.length) : ¬ a = b := fun e => h (by rw [e])
/-- Two lists that are alike up to k, and there not. -/
theorem list_at_ne {α : Type} {a b : List α} {k : Nat} {x y : α} (hx : a[k]? = some x) (hy : b[k]? = some y) (h : ¬ x = y) : ¬ a = b := fun e => by
  rw [e, hy] at hx; cases hx; exact h rfl
theorem list_upto {α : Type} {a b : List α} {n : Nat} (ha : a.length = n) (hb : b.length = n) (h : ∀ j, j < n → a[j]? = b[j]?) : a = b := by
  refine List.ext_getElem? fun j => ?_
  rcases Nat.lt_or_ge j n with h1 | h1
  · exact h j h1
  · rw [List.getElem?_eq_none (by omega), List.getElem?_eq_none (by omega)]
theorem same_next {α : Type} {a b : List α} {k : Nat} {x y : α} (h : ∀ j, j < k → a[j]? = b[j]?) (hx : a[k]? = some x) (hy : b[k]? = some y) (e : x = y) : ∀ j, j < k + 1 → a[j]? = b[j]? := fun j hj => by
  rcases (by omega : j < k ∨ j = k) with h1 | rfl
  · exact h j h1
  · rw [hx, hy, e]
set_option maxRecDepth 100000 in
theorem rwords_any {A A' : Nat → Prop} {w : World} {v v' : Value} {l m : List Int} (h1 : IsWords A w v l) (h2 : IsWords A' w v' m) :
    Calls Tryz.prog 44 #[v, v'] w fun e w' => Says e (l = m) ∧ Below w.heap.size w w' := by
  obtain ⟨a, c, rfl, lm, -, lx⟩ := LstA.open h1.1
  obtain ⟨b, d, rfl, mm, -, mx⟩ := LstA.open h2.1
  obtain ⟨n, en⟩ : ∃ n, l.length = n := ⟨_, rfl⟩
  rw [en] at lm lx ⊢
  clear h1 h2
  by_cases hlen : m.length = n
  · rw [hlen] at mm mx ⊢
    have LX : Hid (∀ k, k < n → ∃ b off x, a = some ⟨b, off, none⟩ ∧ A b ∧ l[k]? = some x ∧ NumAt .u32 w b (off + k * 1) x) := lx
    have MX : Hid (∀ k, k < n → ∃ c off x, b = some ⟨c, off, none⟩ ∧ A' c ∧ m[k]? = some x ∧ NumAt .u32 w c (off + k * 1) x) := mx
    have HN : Hid (l.length = n ∧ m.length = n ∧ n ≤ maxLen) := ⟨en, hlen, lm⟩
    have hn : (n : Int) ≤ 9223372036854775807 := by unfold maxLen at lm; omega
    clear lx mx en hlen lm mm
    go_enter Tryz.func44, Tryz.ntmps44
    go_wp2
    go_loopw [5] (fun i wr => ∃ k : Nat, k ≤ n ∧ i = .int .i64 k ∧ (∀ j, j < k → l[j]? = m[j]?) ∧ Below w.heap.size w wr) (fun i _ => n - (intOf i).toNat)
    case atStart => exact ⟨0, Nat.zero_le _, rfl, (fun j hj => by omega), Below.refl _ _⟩
    case round =>
      obtain ⟨k, hk, rfl, hs, hbel⟩ := hrel
      have HB : Hid (Below w.heap.size w wr) := hbel
      have HS : Hid (∀ j, j < k → l[j]? = m[j]?) := hs
      clear hbel hs
      by_cases hlt : k < n
      · have hlt' : (k : Int) < n := by omega
        obtain ⟨q, off, x, rfl, -, hx, x0⟩ := LX.out k hlt
        obtain ⟨q', off', y, rfl, -, hy, y0⟩ := MX.out k hlt
        have HX : Hid (l[k]? = some x ∧ m[k]? = some y) := ⟨hx, hy⟩
        unfold NumAt at x0 y0
        rw [Nat.mul_one] at x0 y0
        replace x0 := cell_any x0 HB.out
        replace y0 := cell_any y0 HB.out
        clear hx hy
        by_cases e : x = y
        · subst e
          go_wp2
          go_quiet (fail)
          go_wp2
          go_roundw
          case rel => exact ⟨k + 1, by omega, by go_num, same_next HS.out HX.out.1 HX.out.2 rfl, below_drewN HB.out _⟩
          case measure => simp [intOf]; omega
        · have ne : (x != y) = true := by simpa using e
          have E : Hid (¬ x = y) := e
          clear e
          go_wp2
          go_quiet (fail)
          go_wp2
          go_ret
          exact ⟨says_of (iff_no (list_at_ne HX.out.1 HX.out.2 E.out)), below_drewN HB.out _⟩
      · obtain rfl : k = n := by omega
        go_wp2
        go_ret
        exact ⟨says_of (iff_yes (list_upto HN.out.1 HN.out.2.1 HS.out)), HB.out⟩
  · have ne : ((n : Int) != (m.length : Int)) = true := by simp; omega
    have E : Hid (¬ l = m) := list_len_ne (by omega)
    clear lx mx
    go_enter Tryz.func44, Tryz.ntmps44
    go_wp2
    go_ret
    exact ⟨says_of (iff_no E.out), Below.refl _ _⟩
end Go.Proofs.YteakbpcmafdikaaGreatDoor
