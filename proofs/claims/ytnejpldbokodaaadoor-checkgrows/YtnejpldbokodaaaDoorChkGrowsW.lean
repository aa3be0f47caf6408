/- The statement on what grows, walked. -/
import Derived.Test.YtnejpldbokodaaaDoorChkAwakeAll
import Derived.Test.YtnejpldbokodaaaDoorChkGrowAll
namespace Go.Proofs.YtnejpldbokodaaaDoor
open Go.ChangeShapes Go.WideShapes Go.ChangeAt Go.RowKit
set_option linter.unusedVariables false
set_option linter.unusedSimpArgs false
set_option maxRecDepth 100000 in
set_option maxHeartbeats 8000000 in
theorem grows_walk (w : World) (v : Value) (f : FuncM) (h : FuncV (fun _ => True) w v f) (hT : Tab w) : Calls Tryd.prog 4 #[v] w fun e w' => e = .returned (.bool true) ∧ Below w.heap.size w w' := by
  have HV : Hid (FuncV (fun _ => True) w v f) := h
  obtain ⟨vc, vr, rfl, hc, hr, hnm⟩ := h
  obtain ⟨ca, cc, rfl, hcm, -, -⟩ := LstA.open hc.1
  obtain ⟨ra, rc, rfl, hrm, -, rx⟩ := LstA.open hr
  obtain ⟨xn, xb, lc, lr⟩ := f
  dsimp only at *
  have HT : Hid (Tab w) := hT
  obtain ⟨E, eE⟩ : ∃ E, fnE ⟨xn, xb, lc, lr⟩ = E := ⟨_, rfl⟩
  obtain ⟨n, en⟩ : ∃ n, lc.length = n := ⟨_, rfl⟩
  obtain ⟨m, em⟩ : ∃ m, lr.length = m := ⟨_, rfl⟩
  have EN : Hid (lc.length = n ∧ lr.length = m ∧ fnE ⟨xn, xb, lc, lr⟩ = E) := ⟨en, em, eE⟩
  rw [en, em] at HV ⊢
  rw [en] at hcm hc
  rw [em] at hrm rx
  have IC : Hid (IsWords (fun _ => True) w (.slice ca n cc) lc) := hc
  have NM : Hid (xn.size ≤ maxLen) := hnm
  have RX : Hid (∀ k, k < m → ∃ b off x, ra = some ⟨b, off, none⟩ ∧ True ∧ lr[k]? = some x ∧ RelAt w b (off + k * 4) x) := rx
  unfold maxLen at hcm hrm
  have hn9 : (n : Int) ≤ 9223372036854775807 := by omega
  have hm9 : (m : Int) ≤ 9223372036854775807 := by omega
  have UP : Hid (Below w.heap.size w (w.alloc (.cells #[.string xn, .int .i64 xb, .slice ca n cc, .slice ra m rc] 32))) := keep_alloc8 (Below.refl _ _) _
  have X1 : Hid (XAt (w.alloc (.cells #[.string xn, .int .i64 xb, .slice ca n cc, .slice ra m rc] 32)) w.heap.size [.string xn, .int .i64 xb, .slice ca n cc, .slice ra m rc]) := XAt.new _ _ _
  have AW : Hid (∀ X, Below w.heap.size w X → Calls Tryd.prog 5 #[] X fun e w' => e = .returned (.bool true) ∧ Below X.heap.size X w') := fun X hX => awake10 X (HT.out.later hX)
  clear hc hr hT en em eE hcm hrm rx hnm
  go_enter Tryd.func4, Tryd.ntmps4
  go_upto_region 1 with fail
  generalize w.alloc (.cells #[.string xn, .int .i64 xb, .slice ca n cc, .slice ra m rc] 32) = w0 at UP X1 ⊢
  have hX : Hid (w.heap.size < w0.heap.size) := X1.out.lt (by simp)
  by_cases hbig : 300 < (n : Int) ∨ 100 < (m : Int)
  · rcases (by omega : 300 < (n : Int) ∨ ((n : Int) ≤ 300 ∧ 100 < (m : Int))) with q1 | ⟨q1, q2⟩
    all_goals
      clear hbig
      go_wp2_with (first
        | (have q := K1; go_at_call 5; refine (AW.out _ (bnext UP.out K1.out)).mono ?_; rintro e w2 ⟨rfl, b2⟩; have K2 := Hid.mk0 (bnext K1.out b2))
        | (go_at_call 5; refine (AW.out _ UP.out).mono ?_; rintro e w1 ⟨rfl, b1⟩; have K1 := Hid.mk0 b1; have y2 := (X1.out.later hX.out b1).1 2 _ rfl; have y3 := (X1.out.later hX.out b1).1 3 _ rfl; clear b1))
      go_ret
      exact ⟨rfl, bnext UP.out K2.out⟩
  have q1 : (n : Int) ≤ 300 := by omega
  have q2 : (m : Int) ≤ 100 := by omega
  clear hbig
  have CD : Hid (∀ X, Below w.heap.size w X → Calls Tryd.prog 8 #[.agg #[.string xn, .int .i64 xb, .slice ca n cc, .slice ra m rc]] X fun e w' => e = .returned (.int .i64 E) ∧ Below X.heap.size X w') := fun X hX => by
    have h := fun_any (HV.out.keep (Stay.of_below hX)) (by have := EN.out.1; dsimp only; omega) (by have := EN.out.2.1; dsimp only; omega) (HT.out.later hX)
    rwa [EN.out.2.2] at h
  clear HV
  by_cases hE : E = 0
  rotate_left
  · have g1 : (E != 0) = true := by simpa using hE
    clear hE
    go_wp2_with (first
        | (have q := K2; go_at_call 5; refine (AW.out _ (bnext UP.out K2.out)).mono ?_; rintro e w3 ⟨rfl, b3⟩; have K3 := Hid.mk0 (bnext K2.out b3))
        | (go_at_call 8; refine (CD.out _ (bnext UP.out K1.out)).mono ?_; rintro e w2 ⟨rfl, b2⟩; have K2 := Hid.mk0 (bnext K1.out b2))
        | (go_at_call 5; refine (AW.out _ UP.out).mono ?_; rintro e w1 ⟨rfl, b1⟩; have K1 := Hid.mk0 b1; have y0 := (X1.out.later hX.out b1).1 0 _ rfl; have y1 := (X1.out.later hX.out b1).1 1 _ rfl; have y2 := (X1.out.later hX.out b1).1 2 _ rfl; have y3 := (X1.out.later hX.out b1).1 3 _ rfl; clear b1))
    go_ret
    exact ⟨rfl, bnext UP.out K3.out⟩
  subst hE
  have RB : Hid (∀ (k : Nat) (r : RelM), lr[k]? = some r → 0 ≤ r.at_ ∧ r.at_ < 300) := fun k r hk => by
    have h := (fnE_right EN.out.2.2).2.2.1.1
    dsimp only at h
    have hk' := (List.getElem?_eq_some_iff.1 hk).1
    obtain ⟨a1, a2, -⟩ := h k r hk' hk
    have bd : -1 ≤ aheadZ lr k := by
      rcases ahead_bd (k := k) (fun j r hj hr => h j r (by omega) hr) (by omega) with h | h <;> omega
    have := EN.out.1
    omega
  go_upto_region 3 with (first
        | (go_at_call 8; refine (CD.out _ (bnext UP.out K1.out)).mono ?_; rintro e w2 ⟨rfl, b2⟩; have K2 := Hid.mk0 (bnext K1.out b2))
        | (go_at_call 5; refine (AW.out _ UP.out).mono ?_; rintro e w1 ⟨rfl, b1⟩; have K1 := Hid.mk0 b1; have y0 := (X1.out.later hX.out b1).1 0 _ rfl; have y1 := (X1.out.later hX.out b1).1 1 _ rfl; have y2 := (X1.out.later hX.out b1).1 2 _ rfl; have y3 := (X1.out.later hX.out b1).1 3 _ rfl; clear b1))
  have X2 : Hid (XAt w2 w.heap.size [.string xn, .int .i64 xb, .slice ca n cc, .slice ra m rc]) := X1.out.later hX.out K2.out
  have B2 : Hid (Below w.heap.size w w2) := bnext UP.out K2.out
  have hlt2 : Hid (w.heap.size < w2.heap.size) := X2.out.lt (by simp)
  clear y0 y1 y2 y3 K1 b2 CD AW X1 hX
  have y0 := X2.out.1 0 _ rfl
  have y1 := X2.out.1 1 _ rfl
  have y2 := X2.out.1 2 _ rfl
  have y3 := X2.out.1 3 _ rfl
  go_upto_region 4 with fail
  have U3 : Hid (Below w2.heap.size w2 (w2.alloc (.cells #[.string xn, .int .i64 xb, .slice ca n cc, .slice ra m rc] 32))) := keep_alloc8 (Below.refl _ _) _
  have XG : Hid (XAt (w2.alloc (.cells #[.string xn, .int .i64 xb, .slice ca n cc, .slice ra m rc] 32)) w2.heap.size [.string xn, .int .i64 xb, .slice ca n cc, .slice ra m rc]) := XAt.new _ _ _
  generalize w2.alloc (.cells #[.string xn, .int .i64 xb, .slice ca n cc, .slice ra m rc] 32) = w3 at U3 XG ⊢
  have hG3 : Hid (w2.heap.size < w3.heap.size) := XG.out.lt (by simp)
  have B3 : Hid (Below w.heap.size w w3) := bnext B2.out U3.out
  replace y2 := cell_any y2 U3.out
  clear y0 y1 y3
  have l3 : w.heap.size < w3.heap.size := Nat.lt_trans hlt2.out hG3.out
  go_upto_region 5 with (at_builtin; refine wp_more10 rfl (.tmp 28) (.tmp 30) rfl w3 402653184 (by decide) rfl ca n cc rfl EN.out.1 (IC.out.keep (Stay.of_below B3.out)) (by omega) ?_; intro a5 c5 w5 i5 b5; have XG5 := Hid.mk0 (XG.out.later hG3.out b5); have z2 := XG5.out.1 2 _ rfl; have zf := XG5.out.2 2)
  have U6 : Hid (Below w2.heap.size w2 (w5.setCell ⟨w2.heap.size, 2, none⟩ (.slice a5 (1 + n) c5))) := (bnext U3.out b5).setCell (p := ⟨w2.heap.size, 2, none⟩) (Nat.le_refl _) _
  have XG6 : Hid (XAt (w5.setCell ⟨w2.heap.size, 2, none⟩ (.slice a5 (1 + n) c5)) w2.heap.size [.string xn, .int .i64 xb, .slice a5 (1 + n) c5, .slice ra m rc]) := XG5.out.set 2 (by simp) _
  have GW : Hid (IsWords (fun k => w3.heap.size ≤ k ∧ k < w5.heap.size) (w5.setCell ⟨w2.heap.size, 2, none⟩ (.slice a5 (1 + n) c5)) (.slice a5 (1 + n) c5) (402653184 :: lc)) := i5.keep fun k hk _ => Below.heap_setCell _ _ _ _ (by have := hG3.out; have := hk.1; show k ≠ w2.heap.size; omega)
  have S6 : Hid (w5.heap.size = (w5.setCell ⟨w2.heap.size, 2, none⟩ (.slice a5 (1 + n) c5)).heap.size) := by unfold Hid; simp
  generalize w5.setCell ⟨w2.heap.size, 2, none⟩ (.slice a5 (1 + n) c5) = w6 at U6 XG6 GW S6 ⊢
  have B6 : Hid (Below w.heap.size w w6) := bnext B2.out U6.out
  have X6 : Hid (XAt w6 w.heap.size [.string xn, .int .i64 xb, .slice ca n cc, .slice ra m rc]) := X2.out.later hlt2.out U6.out
  have h56 : Hid (w2.heap.size < w6.heap.size) := XG6.out.lt (by simp)
  have hlt6 : Hid (w.heap.size < w6.heap.size) := Nat.lt_trans hlt2.out h56.out
  clear y2 z2 zf i5 b5 XG5 l3
  have y0 := X6.out.1 0 _ rfl
  have y1 := X6.out.1 1 _ rfl
  have y2 := X6.out.1 2 _ rfl
  have y3 := X6.out.1 3 _ rfl
  go_upto_region 6 with fail
  have U7 : Hid (Below w6.heap.size w6 (w6.alloc (.cells #[.string xn, .int .i64 xb, .slice ca n cc, .slice ra m rc] 32))) := keep_alloc8 (Below.refl _ _) _
  have XH : Hid (XAt (w6.alloc (.cells #[.string xn, .int .i64 xb, .slice ca n cc, .slice ra m rc] 32)) w6.heap.size [.string xn, .int .i64 xb, .slice ca n cc, .slice ra m rc]) := XAt.new _ _ _
  generalize w6.alloc (.cells #[.string xn, .int .i64 xb, .slice ca n cc, .slice ra m rc] 32) = w7 at U7 XH ⊢
  have hH7 : Hid (w6.heap.size < w7.heap.size) := XH.out.lt (by simp)
  have B7 : Hid (Below w.heap.size w w7) := bnext B6.out U7.out
  replace y2 := cell_any y2 U7.out
  clear y0 y1 y3
  have l7 : w.heap.size < w7.heap.size := Nat.lt_trans hlt6.out hH7.out
  go_upto_region 7 with (at_builtin; refine wp_more10 rfl (.tmp 34) (.tmp 36) rfl w7 251658495 (by decide) rfl ca n cc rfl EN.out.1 (IC.out.keep (Stay.of_below B7.out)) (by omega) ?_; intro a8 c8 w8 i8 b8; have XH8 := Hid.mk0 (XH.out.later hH7.out b8); have z2 := XH8.out.1 2 _ rfl; have zf := XH8.out.2 2)
  have U9 : Hid (Below w6.heap.size w6 (w8.setCell ⟨w6.heap.size, 2, none⟩ (.slice a8 (1 + n) c8))) := (bnext U7.out b8).setCell (p := ⟨w6.heap.size, 2, none⟩) (Nat.le_refl _) _
  have XH9 : Hid (XAt (w8.setCell ⟨w6.heap.size, 2, none⟩ (.slice a8 (1 + n) c8)) w6.heap.size [.string xn, .int .i64 xb, .slice a8 (1 + n) c8, .slice ra m rc]) := XH8.out.set 2 (by simp) _
  have HW : Hid (IsWords (fun k => w7.heap.size ≤ k ∧ k < w8.heap.size) (w8.setCell ⟨w6.heap.size, 2, none⟩ (.slice a8 (1 + n) c8)) (.slice a8 (1 + n) c8) (251658495 :: lc)) := i8.keep fun k hk _ => Below.heap_setCell _ _ _ _ (by have := hH7.out; have := hk.1; show k ≠ w6.heap.size; omega)
  generalize w8.setCell ⟨w6.heap.size, 2, none⟩ (.slice a8 (1 + n) c8) = w9 at U9 XH9 HW ⊢
  have B9 : Hid (Below w.heap.size w w9) := bnext B6.out U9.out
  have XG9 : Hid (XAt w9 w2.heap.size [.string xn, .int .i64 xb, .slice a5 (1 + n) c5, .slice ra m rc]) := XG6.out.later h56.out U9.out
  have GW9 : Hid (IsWords (fun k => w3.heap.size ≤ k ∧ k < w5.heap.size) w9 (.slice a5 (1 + n) c5) (402653184 :: lc)) := GW.out.keep (Stay.of_below U9.out)
  have h69 : Hid (w6.heap.size < w9.heap.size) := XH9.out.lt (by simp)
  clear y2 z2 zf i8 b8 XH8 l7 XH GW U7 B7 XG
  have z3 := XG9.out.1 3 _ rfl
  have zf := XG9.out.2 3
  go_upto_region 8 with fail
  have AX : Hid (Apart (G1 w2.heap.size) w9 (w9.setCell ⟨w2.heap.size, 3, none⟩ (.slice none 0 0))) := apart_put10 (Apart.refl _ _)
  have XGA : Hid (XAt (w9.setCell ⟨w2.heap.size, 3, none⟩ (.slice none 0 0)) w2.heap.size [.string xn, .int .i64 xb, .slice a5 (1 + n) c5, .slice none 0 0]) := XG9.out.set 3 (by simp) _
  generalize w9.setCell ⟨w2.heap.size, 3, none⟩ (.slice none 0 0) = wA at AX XGA ⊢
  have NE : Hid (w6.heap.size ≠ w2.heap.size ∧ w.heap.size ≠ w2.heap.size ∧ w.heap.size ≤ w2.heap.size ∧ w2.heap.size < wA.heap.size ∧ w6.heap.size < wA.heap.size ∧ w.heap.size < wA.heap.size) := by
    have := h56.out; have := hlt2.out; have := AX.out.size; have := h69.out
    exact ⟨by omega, by omega, by omega, by omega, by omega, by omega⟩
  have HBH : Hid (w.heap.size ≤ w6.heap.size) := Nat.le_of_lt hlt6.out
  have XHA : Hid (XAt wA w6.heap.size [.string xn, .int .i64 xb, .slice a8 (1 + n) c8, .slice ra m rc]) := XH9.out.apart h69.out AX.out (fun e => NE.out.1 e)
  have XFA : Hid (XAt wA w.heap.size [.string xn, .int .i64 xb, .slice ca n cc, .slice ra m rc]) := (X6.out.later hlt6.out U9.out).apart (Nat.lt_trans hlt6.out h69.out) AX.out (fun e => NE.out.2.1 e)
  have GWA : Hid (IsWords (fun k => w3.heap.size ≤ k ∧ k < w5.heap.size) wA (.slice a5 (1 + n) c5) (402653184 :: lc)) := GW9.out.keep (Stay.of_apart AX.out fun k hk e => by have h1 : k = w2.heap.size := e; have := hk.1; have := hG3.out; omega)
  have HWA : Hid (IsWords (fun k => w7.heap.size ≤ k ∧ k < w8.heap.size) wA (.slice a8 (1 + n) c8) (251658495 :: lc)) := HW.out.keep (Stay.of_apart AX.out fun k hk e => by have h1 : k = w2.heap.size := e; have := hk.1; have := hH7.out; have := h56.out; omega)
  have BA : Hid (Below w.heap.size w wA) := below_apart10 B9.out AX.out NE.out.2.2.1
  have OWG : Hid (∀ k, w3.heap.size ≤ k ∧ k < w5.heap.size → k ≠ w2.heap.size ∧ k ≠ w6.heap.size) := fun k hk => by
    have := hG3.out; have := S6.out; exact ⟨by omega, by omega⟩
  have OWH : Hid (∀ k, w7.heap.size ≤ k ∧ k < w8.heap.size → k ≠ w2.heap.size ∧ k ≠ w6.heap.size) := fun k hk => by
    have := hH7.out; have := h56.out; exact ⟨by omega, by omega⟩
  clear z3 zf XG9 GW9 HW XH9 AX U9 B9 X6 hlt6 h69 B6 U6 XG6 S6 X2 hlt2 U3 B3 hG3 hH7 h56
  obtain ⟨bg, ebg⟩ : ∃ bg, w2.heap.size = bg := ⟨_, rfl⟩
  obtain ⟨bh, ebh⟩ : ∃ bh, w6.heap.size = bh := ⟨_, rfl⟩
  rw [ebg] at XGA NE OWG OWH ⊢
  rw [ebh] at XHA NE OWG OWH HBH ⊢
  clear ebg ebh
  go_wp2
  go_loopw [5] (fun i wr => ∃ (k : Nat) (v : Value), k ≤ m ∧ i = .int .i64 k ∧ XAt wr bg [.string xn, .int .i64 xb, .slice a5 (1 + n) c5, v] ∧ wr.ownsRow wA.heap.size 36 4 v k (((lr.take k).map bumpR).flatMap relC) ∧ Apart (G1 bg) wA wr) (fun i _ => m - (intOf i).toNat)
  case atStart => exact ⟨0, .slice none 0 0, Nat.zero_le _, rfl, XGA.out, World.ownsRow_nil _ _ _ _, Apart.refl _ _⟩
  case round =>
    obtain ⟨k, v, hk, rfl, hxg, hown, hap⟩ := hrel
    have XG : Hid (XAt wr bg [.string xn, .int .i64 xb, .slice a5 (1 + n) c5, v]) := hxg
    have OW : Hid (wr.ownsRow wA.heap.size 36 4 v k (((lr.take k).map bumpR).flatMap relC)) := hown
    have AP : Hid (Apart (G1 bg) wA wr) := hap
    have BB : Hid (Below w.heap.size w wr) := below_apart10 BA.out AP.out NE.out.2.2.1
    have XF : Hid (XAt wr w.heap.size [.string xn, .int .i64 xb, .slice ca n cc, .slice ra m rc]) := XFA.out.apart NE.out.2.2.2.2.2 AP.out (fun e => NE.out.2.1 e)
    have hbg : Hid (bg < wr.heap.size) := XG.out.lt (by simp)
    have hAr : Hid (wA.heap.size ≤ wr.heap.size) := AP.out.size
    clear hxg hown hap
    by_cases hlt : k < m
    · have hlt' : (k : Int) < m := by omega
      obtain ⟨q, off, ⟨xp, xk, xm, xd⟩, rfl, -, hx, x0, x1, x2, x3, hsz⟩ := RX.out k hlt
      dsimp only at x0 x1 x2 x3 hsz
      have bp := RB.out k _ hx
      dsimp only at bp
      obtain ⟨bp1, bp2⟩ := bp
      have TK : Hid (((lr.take k).map bumpR).length = k ∧ (lr.take (k + 1)).map bumpR = (lr.take k).map bumpR ++ [bumpR ⟨xp, xk, xm, xd⟩]) := by
        unfold Hid
        rw [List.take_add_one, hx, List.map_append, List.length_map, List.length_take]
        exact ⟨by have := EN.out.2.1; omega, rfl⟩
      generalize (lr.take k).map bumpR = T at OW TK
      replace x0 := cell_any x0 BB.out
      replace x1 := cell_any x1 BB.out
      replace x2 := cell_any x2 BB.out
      replace x3 := cell_any x3 BB.out
      have y3 := XF.out.1 3 _ rfl
      clear hx
      go_upto_region 12 with fail
      have U11 : Hid (Below wr.heap.size wr (wr.alloc (.cells #[.int .i64 xp, .int .i64 xk, .string xm, .int .i64 xd] 36))) := keep_alloc8 (Below.refl _ _) _
      have XR : Hid (XAt (wr.alloc (.cells #[.int .i64 xp, .int .i64 xk, .string xm, .int .i64 xd] 36)) wr.heap.size [.int .i64 xp, .int .i64 xk, .string xm, .int .i64 xd]) := XAt.new _ _ _
      generalize wr.alloc (.cells #[.int .i64 xp, .int .i64 xk, .string xm, .int .i64 xd] 36) = w11 at U11 XR ⊢
      clear x0 x1 x2 x3 y3
      have x0 := XR.out.1 0 _ rfl
      have zf := XR.out.2 0
      go_upto_region 13 with fail
      have U12 : Hid (Below wr.heap.size wr (w11.setCell ⟨wr.heap.size, 0, none⟩ (.int .i64 (xp + 1)))) := U11.out.setCell (p := ⟨wr.heap.size, 0, none⟩) (Nat.le_refl _) _
      have XR12 : Hid (XAt (w11.setCell ⟨wr.heap.size, 0, none⟩ (.int .i64 (xp + 1))) wr.heap.size [.int .i64 (xp + 1), .int .i64 xk, .string xm, .int .i64 xd]) := XR.out.set 0 (by simp) _
      generalize w11.setCell ⟨wr.heap.size, 0, none⟩ (.int .i64 (xp + 1)) = w12 at U12 XR12 ⊢
      clear x0 zf
      have XG12 : Hid (XAt w12 bg [.string xn, .int .i64 xb, .slice a5 (1 + n) c5, v]) := XG.out.later hbg.out U12.out
      have OW12 : Hid (w12.ownsRow wA.heap.size 36 4 v k (T.flatMap relC)) := own_later10 OW.out U12.out
      have AP12 : Hid (Apart (G1 bg) wA w12) := AP.out.then U12.out
      obtain ⟨va, vc, rfl⟩ := own_form OW12.out
      have h12 : Hid (wA.heap.size ≤ w12.heap.size ∧ bg < w12.heap.size) := ⟨Nat.le_trans hAr.out U12.out.size, Nat.lt_of_lt_of_le hbg.out U12.out.size⟩
      have x0 := XR12.out.1 0 _ rfl
      have x1 := XR12.out.1 1 _ rfl
      have x2 := XR12.out.1 2 _ rfl
      have x3 := XR12.out.1 3 _ rfl
      have z3 := XG12.out.1 3 _ rfl
      clear OW XG U11 XR XF
      go_upto_region 10 with (at_builtin; refine wp_relmore10 rfl (.tmp 57) (.tmp 59) rfl w12 wA.heap.size h12.out.1 va k vc T (bumpR ⟨xp, xk, xm, xd⟩) rfl TK.out.1 OW12.out rfl (by omega) ?_; intro a14 c14 w14 o14 b14; have XG14 := Hid.mk0 (XG12.out.keep (b14.block bg NE.out.2.2.2.1)); have z3' := XG14.out.1 3 _ rfl; have zf := XG14.out.2 3)
      have XGN : Hid (XAt (w14.setCell ⟨bg, 3, none⟩ (.slice a14 (k + 1) c14)) bg [.string xn, .int .i64 xb, .slice a5 (1 + n) c5, .slice a14 (k + 1) c14]) := XG14.out.set 3 (by simp) _
      have APN : Hid (Apart (G1 bg) wA (w14.setCell ⟨bg, 3, none⟩ (.slice a14 (k + 1) c14))) := apart_put10 (apart_low AP12.out b14)
      have OWN : Hid ((w14.setCell ⟨bg, 3, none⟩ (.slice a14 (k + 1) c14)).ownsRow wA.heap.size 36 4 (.slice a14 (k + 1) c14) (k + 1) (((lr.take (k + 1)).map bumpR).flatMap relC)) := by
        rw [TK.out.2]
        exact own_lo o14 fun j hj e => Below.heap_setCell _ _ _ _ (by have := (o14.lt j e).1; have := NE.out.2.2.2.1; show j ≠ bg; omega)
      generalize w14.setCell ⟨bg, 3, none⟩ (.slice a14 (k + 1) c14) = wn at XGN APN OWN ⊢
      clear x0 x1 x2 x3 z3 z3' zf XG14 o14 b14
      go_wp2
      go_roundw
      case rel => exact ⟨k + 1, _, by omega, by go_num, XGN.out, OWN.out, APN.out⟩
      case measure => simp [intOf]; omega
    · obtain rfl : k = m := by omega
      have OW2 : Hid (wr.ownsRow wA.heap.size 36 4 v k ((lr.map bumpR).flatMap relC)) := by have h := OW.out; rw [List.take_of_length_le (by have := EN.out.2.1; omega)] at h; exact h
      clear OW
      obtain ⟨va, vc, rfl⟩ := own_form OW2.out
      have XH : Hid (XAt wr bh [.string xn, .int .i64 xb, .slice a8 (1 + n) c8, .slice ra k rc]) := XHA.out.apart NE.out.2.2.2.2.1 AP.out (fun e => NE.out.1 e)
      have y3 := XF.out.1 3 _ rfl
      have g3 := XG.out.1 3 _ rfl
      have h3 := XH.out.1 3 _ rfl
      have hz := XH.out.2 3
      go_upto_region 15 with fail
      have BW : Hid (Below w.heap.size w (wr.setCell ⟨bh, 3, none⟩ (.slice va k vc))) := BB.out.setCell (p := ⟨bh, 3, none⟩) (by have := NE.out; have := XHA.out; have := HBH.out; show w.heap.size ≤ bh; omega) _
      have XHB : Hid (XAt (wr.setCell ⟨bh, 3, none⟩ (.slice va k vc)) bh [.string xn, .int .i64 xb, .slice a8 (1 + n) c8, .slice va k vc]) := XH.out.set 3 (by simp) _
      have XGB : Hid (XAt (wr.setCell ⟨bh, 3, none⟩ (.slice va k vc)) bg [.string xn, .int .i64 xb, .slice a5 (1 + n) c5, .slice va k vc]) := XG.out.keep (Below.heap_setCell _ _ _ _ (by have := NE.out.1; show bg ≠ bh; omega))
      have OWB : Hid ((wr.setCell ⟨bh, 3, none⟩ (.slice va k vc)).ownsRow wA.heap.size 36 4 (.slice va k vc) k ((lr.map bumpR).flatMap relC)) := own_lo OW2.out fun j hj e => Below.heap_setCell _ _ _ _ (by have := (OW2.out.lt j e).1; have := NE.out.2.2.2.2.1; show j ≠ bh; omega)
      have GWB : Hid (IsWords (fun _ => True) (wr.setCell ⟨bh, 3, none⟩ (.slice va k vc)) (.slice a5 (1 + n) c5) (402653184 :: lc)) := ((GWA.out.keep (Stay.of_apart AP.out fun j hj e => (OWG.out j hj).1 e)).keep fun j hj _ => Below.heap_setCell _ _ _ _ (OWG.out j hj).2).wide fun _ _ => trivial
      have HWB : Hid (IsWords (fun _ => True) (wr.setCell ⟨bh, 3, none⟩ (.slice va k vc)) (.slice a8 (1 + n) c8) (251658495 :: lc)) := ((HWA.out.keep (Stay.of_apart AP.out fun j hj e => (OWH.out j hj).1 e)).keep fun j hj _ => Below.heap_setCell _ _ _ _ (OWH.out j hj).2).wide fun _ _ => trivial
      generalize wr.setCell ⟨bh, 3, none⟩ (.slice va k vc) = wB at BW XHB XGB OWB GWB HWB ⊢
      have NS : Hid (∀ r ∈ lr.map bumpR, r.name.size ≤ maxLen) := fun r hr => by
        obtain ⟨r', hr', rfl⟩ := List.mem_map.1 hr
        obtain ⟨j, hj, e⟩ := List.getElem_of_mem hr'
        obtain ⟨b, off, x, -, -, hx, hrel⟩ := RX.out j (by have := EN.out.2.1; omega)
        rw [List.getElem?_eq_getElem hj, e] at hx
        cases hx
        exact hrel.2.2.2.2
      have RLS : Hid (IsRels (fun _ => True) wB (.slice va k vc) (lr.map bumpR)) := by
        have hl : (lr.map bumpR).length = k := by rw [List.length_map]; exact EN.out.2.1
        have ho := OWB.out
        have h9 : wB.ownsRow wA.heap.size 36 4 (.slice va k vc) (lr.map bumpR).length ((lr.map bumpR).flatMap relC) := by rw [hl]; exact ho
        exact IsRels.wide (own_lst relC_len h9 fun b o x hx hc => ⟨hc 0 _ rfl, hc 1 _ rfl, hc 2 _ rfl, hc 3 _ rfl, NS.out x hx⟩) fun _ _ => trivial
      have FG : Hid (∀ X, Below wB.heap.size wB X → Calls Tryd.prog 8 #[.agg #[.string xn, .int .i64 xb, .slice a5 (1 + n) c5, .slice va k vc]] X fun e w' => e = .returned (.int .i64 0) ∧ Below X.heap.size X w') := fun X hX => by
        have h := fun_any (A := fun _ => True) (w := X) (u := .agg #[.string xn, .int .i64 xb, .slice a5 (1 + n) c5, .slice va k vc]) (f := ⟨xn, xb, 402653184 :: lc, lr.map bumpR⟩) ⟨_, _, rfl, GWB.out.keep (Stay.of_below hX), RLS.out.keep (Stay.of_below hX), NM.out⟩ (by have := EN.out.1; simp only [List.length_cons]; omega) (by have := EN.out.2.1; simp only [List.length_map]; omega) ((HT.out.later BW.out).later hX)
        rwa [fnE_more 402653184 word_nop.1 word_nop.2.1 word_nop.2.2 EN.out.2.2] at h
      have FH : Hid (∀ X, Below wB.heap.size wB X → Calls Tryd.prog 8 #[.agg #[.string xn, .int .i64 xb, .slice a8 (1 + n) c8, .slice va k vc]] X fun e w' => e = .returned (.int .i64 0) ∧ Below X.heap.size X w') := fun X hX => by
        have h := fun_any (A := fun _ => True) (w := X) (u := .agg #[.string xn, .int .i64 xb, .slice a8 (1 + n) c8, .slice va k vc]) (f := ⟨xn, xb, 251658495 :: lc, lr.map bumpR⟩) ⟨_, _, rfl, HWB.out.keep (Stay.of_below hX), RLS.out.keep (Stay.of_below hX), NM.out⟩ (by have := EN.out.1; simp only [List.length_cons]; omega) (by have := EN.out.2.1; simp only [List.length_map]; omega) ((HT.out.later BW.out).later hX)
        rwa [fnE_more 251658495 word_back.1 word_back.2.1 word_back.2.2 EN.out.2.2] at h
      clear y3 g3 h3 hz
      have g0 := XGB.out.1 0 _ rfl
      have g1 := XGB.out.1 1 _ rfl
      have g2 := XGB.out.1 2 _ rfl
      have g3 := XGB.out.1 3 _ rfl
      have hbB : Hid (bh < wB.heap.size) := XHB.out.lt (by simp)
      go_wp2_with (first
        | (have q := K16; go_at_call 8; refine (FH.out _ K16.out).mono ?_; rintro e w17 ⟨rfl, b17⟩; have K17 := Hid.mk0 (bnext K16.out b17))
        | (go_at_call 8; refine (FG.out _ (Below.refl _ _)).mono ?_; rintro e w16 ⟨rfl, b16⟩; have K16 := Hid.mk0 b16; have h0 := (XHB.out.later hbB.out b16).1 0 _ rfl; have h1 := (XHB.out.later hbB.out b16).1 1 _ rfl; have h2 := (XHB.out.later hbB.out b16).1 2 _ rfl; have h3 := (XHB.out.later hbB.out b16).1 3 _ rfl; clear b16))
      go_ret
      exact ⟨rfl, bnext BW.out K17.out⟩
end Go.Proofs.YtnejpldbokodaaaDoor
