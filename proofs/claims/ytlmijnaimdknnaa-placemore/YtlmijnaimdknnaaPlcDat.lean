/- Where data stand, as the code has it: one closure for the Fixed ones and the others. -/
import Derived.Test.YtlmijnaimdknnaaPlcRep
namespace Go.Proofs.Ytlmijnaimdknnaa
open Go.ChangeShapes Go.WideShapes Go.ChangeAt Go.RowKit
set_option linter.unusedVariables false
set_option linter.unusedSimpArgs false
theorem upIn {x a : Int} {w : World} (x0 : 0 ≤ x) (x1 : x ≤ 1099511627776) (a0 : 1 ≤ a) (a1 : a ≤ 1048576) : Calls Try.prog 15 #[.int .i64 x, .int .i64 a] w fun e w' => e = .returned (.int .i64 (upA x a)) ∧ w' = w := up_in x a w x0 x1 a0 a1
/-- All elder blocks but g and X stand. -/
def Oth (g X : Nat) (w w' : World) : Prop := ∀ r, r < w.heap.size → r ≠ g → r ≠ X → w'.heap[r]? = w.heap[r]?
theorem Oth.refl (g X : Nat) (w : World) : Oth g X w w := fun _ _ _ _ => rfl
theorem Oth.below {g X : Nat} {w w1 w2 : World} (h : Oth g X w w1) (hs : w.heap.size ≤ w1.heap.size) (hb : Below w1.heap.size w1 w2) : Oth g X w w2 := fun r h1 h2 h3 => (hb.block r (by omega)).trans (h r h1 h2 h3)
theorem Oth.setg {g X : Nat} {w w1 : World} (h : Oth g X w w1) (o : Nat) (v : Value) : Oth g X w (w1.setCell ⟨g, o, none⟩ v).drew := fun r h1 h2 h3 => (heap_setCell_other w1 ⟨g, o, none⟩ r v (by simpa using h2)).trans (h r h1 h2 h3)
theorem Oth.setX {g X : Nat} {w w1 : World} (h : Oth g X w w1) (o : Nat) (v : Value) : Oth g X w (w1.setCell ⟨X, o, none⟩ v).drew := fun r h1 h2 h3 => (heap_setCell_other w1 ⟨X, o, none⟩ r v (by simpa using h3)).trans (h r h1 h2 h3)
set_option maxRecDepth 100000 in
set_option maxHeartbeats 4000000 in
theorem stand_any {w0 w : World} {base L X g n : Nat} {vl : Value} {l : List DatZ} {D : List Int} {b wt : Int} (fx : Bool) (hl : IsPds w0 vl l) (h0 : Below w0.heap.size w0 w) (hb0 : base = w0.heap.size) (hn : l.length = n) (hn3 : n ≤ 301) (ho : DatOk l)
    (hL : XAt w L [vl]) (hX : XAt w X [.slice none 0 0, .slice (some ⟨g, 0, none⟩) n n, .int .i64 0, .int .i64 b, .int .i64 wt]) (hg : XAt w g (nums D)) (hD : D.length = n) (hgs : g < w.heap.size)
    (hLX : base ≤ L ∧ base ≤ X ∧ base ≤ g ∧ L ≠ X ∧ X ≠ g ∧ L ≠ g ∧ L < w.heap.size ∧ X < w.heap.size) (hbb : 0 ≤ b ∧ b ≤ 69664) :
    Calls Try.prog 14 #[.bool fx, .pointer (some ⟨L, 0, none⟩), .pointer (some ⟨X, 0, none⟩)] w fun e w' => e = .returned (.tuple #[]) ∧ XAt w' L [vl] ∧ XAt w' X [.slice none 0 0, .slice (some ⟨g, 0, none⟩) n n, .int .i64 0, .int .i64 (passG fx l D b n).2, .int .i64 wt] ∧ XAt w' g (nums (passG fx l D b n).1) ∧ Below base w w' ∧ Oth g X w w' := by
  obtain ⟨a, c, rfl, lm, -, lx⟩ := LstA.open hl
  rw [hn] at lm lx hL ⊢
  have LX : Hid (∀ k, k < n → ∃ b off x, a = some ⟨b, off, none⟩ ∧ Any8 b ∧ l[k]? = some x ∧ PdAt w0 b (off + k * 5) x) := lx
  have HO : Hid (DatOk l) := ho
  have HS : Hid ((base ≤ L ∧ base ≤ X ∧ base ≤ g ∧ L ≠ X ∧ X ≠ g ∧ L ≠ g ∧ L < w.heap.size ∧ X < w.heap.size) ∧ g < w.heap.size ∧ base = w0.heap.size ∧ l.length = n ∧ D.length = n) := ⟨hLX, hgs, hb0, hn, hD⟩
  have hn' : (n : Int) ≤ 301 := by omega
  have HB0 : Hid (Below w0.heap.size w0 w) := h0
  have l0 := hL.1 0 _ rfl
  have GU : Hid (∀ k, b ≤ (passG fx l D b k).2 ∧ (passG fx l D b k).2 ≤ 69664) := fun k => guard_up ho (by omega) (by omega) k
  clear lx ho hl h0 hLX hgs hb0 hn hD lm
  go_enter Try.func14, Try.ntmps14
  go_wp2
  go_loopw [8] (fun i wr => ∃ k : Nat, k ≤ n ∧ i = .int .i64 k ∧ XAt wr L [.slice a n c] ∧ XAt wr X [.slice none 0 0, .slice (some ⟨g, 0, none⟩) n n, .int .i64 0, .int .i64 (passG fx l D b k).2, .int .i64 wt] ∧ XAt wr g (nums (passG fx l D b k).1) ∧ Below base w wr ∧ Oth g X w wr) (fun i _ => n - (intOf i).toNat)
  case atStart => exact ⟨0, Nat.zero_le _, rfl, hL, hX, hg, Below.refl _ _, Oth.refl _ _ _⟩
  case round =>
    obtain ⟨k, hk, rfl, hL1, hX1, hg1, hbel, hoth⟩ := hrel
    have HOT : Hid (Oth g X w wr) := hoth
    have HL : Hid (XAt wr L [.slice a n c]) := hL1
    have HX : Hid (XAt wr X [.slice none 0 0, .slice (some ⟨g, 0, none⟩) n n, .int .i64 0, .int .i64 (passG fx l D b k).2, .int .i64 wt]) := hX1
    have HG : Hid (XAt wr g (nums (passG fx l D b k).1)) := hg1
    have HB : Hid (Below base w wr) := hbel
    clear hL1 hX1 hg1 hbel hoth hL hX hg l0
    by_cases hlt : k < n
    · have hlt' : (k : Int) < n := by omega
      obtain ⟨q, off, x, rfl, -, hx, x0, x1, x2, x3, x4, -, -⟩ := LX.out k hlt
      have HXE : Hid (l[k]? = some x) := hx
      obtain ⟨d1, d2, d3, d4⟩ := HO.out x (List.mem_of_getElem? hx)
      obtain ⟨al, fi, si, ba, bn, bc, ra, rn, rc⟩ := x
      dsimp only at *
      have W0R : Hid (Below w0.heap.size w0 wr) := by have := HS.out.2.2.1; subst this; exact HB0.out.trans HB.out
      have y0 := cell_any x0 W0R.out
      have y1 := cell_any x1 W0R.out
      have y2 := cell_any x2 W0R.out
      have y3 := cell_any x3 W0R.out
      have y4 := cell_any x4 W0R.out
      clear x0 x1 x2 x3 x4 hx
      have hsz : g < wr.heap.size ∧ base ≤ L ∧ base ≤ X ∧ base ≤ g ∧ L ≠ X ∧ X ≠ g ∧ L ≠ g ∧ L < wr.heap.size ∧ X < wr.heap.size := by have h1 := HS.out; have h2 := HB.out.size; omega
      have PE : Hid (∃ Dk bk, passG fx l D b k = (Dk, bk)) := ⟨_, _, rfl⟩
      obtain ⟨Dk, bk, ek⟩ := PE.out
      have EK : Hid (passG fx l D b k = (Dk, bk)) := ek
      have hbk := GU.out k
      rw [ek] at HX HG hbk
      have HDl : Hid (Dk.length = n) := by have := guard_len (fx := fx) (l := l) (D := D) (b := b) k; rw [ek] at this; rw [this]; exact HS.out.2.2.2.2
      clear ek PE
      obtain ⟨w4, e4⟩ : ∃ w4, wr.alloc (.cells #[.int .i64 al, .bool fi, .int .i64 si, .slice ba bn bc, .slice ra rn rc] 32) = w4 := ⟨_, rfl⟩
      have UP : Hid (Below wr.heap.size wr w4) := by rw [← e4]; exact keep_alloc8 (Below.refl _ _) _
      have D4 : Hid (XAt w4 wr.heap.size [.int .i64 al, .bool fi, .int .i64 si, .slice ba bn bc, .slice ra rn rc]) := by rw [← e4]; exact XAt.new wr _ _
      have L4 : Hid (XAt w4 L [.slice (some ⟨q, off, none⟩) n c]) := HL.out.later (by omega) UP.out
      have X4 : Hid (XAt w4 X [.slice none 0 0, .slice (some ⟨g, 0, none⟩) n n, .int .i64 0, .int .i64 bk, .int .i64 wt]) := HX.out.later (by omega) UP.out
      have G4 : Hid (XAt w4 g (nums Dk)) := HG.out.later (by omega) UP.out
      have B4 : Hid (Below base w w4) := HB.out.trans (UP.out.mono (by omega))
      have T4 : Hid (Oth g X w w4) := HOT.out.below HB.out.size UP.out
      have HZ : Hid ((g < wr.heap.size ∧ base ≤ L ∧ base ≤ X ∧ base ≤ g ∧ L ≠ X ∧ X ≠ g ∧ L ≠ g ∧ L < wr.heap.size ∧ X < wr.heap.size) ∧ wr.heap.size < w4.heap.size) := ⟨hsz, by rw [← e4]; simp⟩
      go_upto_region 3 with fail
      try rw [e4]
      clear e4 hsz HL HX HG HB y0 y1 y2 y3 y4
      have t0 := D4.out.1 0 _ rfl
      have t1 := D4.out.1 1 _ rfl
      have t2 := D4.out.1 2 _ rfl
      have s1 := X4.out.1 1 _ rfl
      have s3 := X4.out.1 3 _ rfl
      have s4 := X4.out.2 3
      obtain ⟨ok, hok⟩ := get_some (l := Dk) (k := k) (by have := HDl.out; omega)
      have g0 := G4.out.1 k _ (nums_get hok)
      have g1 := G4.out.2 k
      clear hok
      by_cases e : fi = fx
      · subst e
        have eb : (fi == fi) = true := by simp
        by_cases hle : bk ≤ 65536
        · have ST : Hid (passG fi l D b (k + 1) = (Dk.set k (upA bk al), upA bk al + si)) := by
            have h := guard_step (fx := fi) (D := D) (b := b) HXE.out ⟨rfl, by rw [EK.out]; exact hle⟩
            rw [EK.out] at h; exact h
          have UPc : Hid (∀ W, Calls Try.prog 15 #[.int .i64 bk, .int .i64 al] W fun e w' => e = .returned (.int .i64 (upA bk al)) ∧ w' = W) := fun W => upIn (by omega) (by omega) (by omega) (by omega)
          have hu := up_facts bk al d1
          generalize upA bk al = u at ST UPc hu
          have hs : wrap64 (u + si) = u + si := IntWalk.wrap64_in _ (by omega)
          go_upto_region 4 with fail
          go_region_with ((go_at_call 15); refine (UPc.out _).mono ?_; rintro e w5 ⟨rfl, e5⟩; subst e5)
          all_goals
            have X5 : Hid (XAt (w4.setCell ⟨g, k, none⟩ (.int .i64 u)).drew X [.slice none 0 0, .slice (some ⟨g, 0, none⟩) n n, .int .i64 0, .int .i64 bk, .int .i64 wt]) := xat_other (w := w4) X4.out (by have := HZ.out; omega) _
            have L5 : Hid (XAt (w4.setCell ⟨g, k, none⟩ (.int .i64 u)).drew L [.slice (some ⟨q, off, none⟩) n c]) := xat_other (w := w4) L4.out (by have := HZ.out; omega) _
            have D5 : Hid (XAt (w4.setCell ⟨g, k, none⟩ (.int .i64 u)).drew wr.heap.size [.int .i64 al, .bool fi, .int .i64 si, .slice ba bn bc, .slice ra rn rc]) := xat_other (w := w4) D4.out (by have := HZ.out; omega) _
            have G5 : Hid (XAt (w4.setCell ⟨g, k, none⟩ (.int .i64 u)).drew g (nums (Dk.set k u))) := xnum_set (w := w4) G4.out (by have := HDl.out; omega) u
            have B5 : Hid (Below base w (w4.setCell ⟨g, k, none⟩ (.int .i64 u)).drew) := (B4.out.setCell (by show base ≤ g; have := HZ.out; omega) _).drew
            have T5 : Hid (Oth g X w (w4.setCell ⟨g, k, none⟩ (.int .i64 u)).drew) := T4.out.setg _ _
            have S5 : Hid ((w4.setCell ⟨g, k, none⟩ (.int .i64 u)).drew.heap.size = w4.heap.size) := by simp [Hid]
            go_upto_region 5 with fail
            generalize (w4.setCell ⟨g, k, none⟩ (.int .i64 u)).drew = w5 at X5 L5 D5 G5 B5 S5 T5 ⊢
            clear t0 t1 t2 s1 s3 s4 g0 g1 X4 L4 D4 G4 B4 UPc
            have t2 := D5.out.1 2 _ rfl
            have s1 := X5.out.1 1 _ rfl
            have s3 := X5.out.1 3 _ rfl
            have s4 := X5.out.2 3
            have g0 := G5.out.1 k _ (nums_get (List.getElem?_set_self (by have := HDl.out; omega)))
            go_region
            all_goals
              have X6 : Hid (XAt (w5.setCell ⟨X, 3, none⟩ (.int .i64 (u + si))).drew X [.slice none 0 0, .slice (some ⟨g, 0, none⟩) n n, .int .i64 0, .int .i64 (u + si), .int .i64 wt]) := X5.out.set 3 (by simp) _
              have L6 : Hid (XAt (w5.setCell ⟨X, 3, none⟩ (.int .i64 (u + si))).drew L [.slice (some ⟨q, off, none⟩) n c]) := xat_other (w := w5) L5.out (by have := HZ.out; omega) _
              have G6 : Hid (XAt (w5.setCell ⟨X, 3, none⟩ (.int .i64 (u + si))).drew g (nums (Dk.set k u))) := xat_other (w := w5) G5.out (by have := HZ.out; omega) _
              have B6 : Hid (Below base w (w5.setCell ⟨X, 3, none⟩ (.int .i64 (u + si))).drew) := (B5.out.setCell (by show base ≤ X; have := HZ.out; omega) _).drew
              have T6 : Hid (Oth g X w (w5.setCell ⟨X, 3, none⟩ (.int .i64 (u + si))).drew) := T5.out.setX _ _
              go_upto_region 6 with fail
              generalize (w5.setCell ⟨X, 3, none⟩ (.int .i64 (u + si))).drew = w6 at X6 L6 G6 B6 T6 ⊢
              go_wp2
              go_roundw
              case rel => exact ⟨k + 1, by omega, by go_num, L6.out, by rw [ST.out]; exact X6.out, by rw [ST.out]; exact G6.out, B6.out, T6.out⟩
              case measure => simp [intOf]; omega
        · have hle' : decide (bk ≤ 65536) = false := by simpa using hle
          have ST : Hid (passG fi l D b (k + 1) = (Dk, bk)) := by
            rw [← EK.out]; exact guard_skip HXE.out (fun q => hle (by have := q.2; rwa [EK.out] at this))
          clear hle
          go_wp2
          go_roundw
          case rel => exact ⟨k + 1, by omega, by go_num, L4.out, by rw [ST.out]; exact X4.out, by rw [ST.out]; exact G4.out, B4.out, T4.out⟩
          case measure => simp [intOf]; omega
      · have eb : (fi == fx) = false := by simpa using e
        have ST : Hid (passG fx l D b (k + 1) = (Dk, bk)) := by
          rw [← EK.out]; exact guard_skip HXE.out (fun q => e q.1)
        clear e
        go_wp2
        go_roundw
        case rel => exact ⟨k + 1, by omega, by go_num, L4.out, by rw [ST.out]; exact X4.out, by rw [ST.out]; exact G4.out, B4.out, T4.out⟩
        case measure => simp [intOf]; omega
    · obtain rfl : k = n := by omega
      go_wp2
      exact bodyPost_end (v := Value.tuple #[]) (by simp [results, Try.results14, go_sem]) rfl ⟨rfl, HL.out, HX.out, HG.out, HB.out, HOT.out⟩
end Go.Proofs.Ytlmijnaimdknnaa
