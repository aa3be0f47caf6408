/- A range over a function whose rounds go on at 0 and return at any other number: what such a function must do, and what comes of the loop. What check.first answers of a function that tells zeros, and then an error. What the code's own functions of the scanner return (over the guess). What the code's own functions of the scanner return. What the code's Try returns. What the code's scanner takes, told as what is read of bytes. Is a number within bounds? -/
import Derived.Test.YteakbpcmafdikaaGreatDoorNmObj
import Derived.RangeFuncNested
import Derived.RangeFuncBound
import Derived.RangeFuncCalls
import Derived.RangeFuncLeaves
import Derived.Shelf.Abstract
import Derived.Shelf.RegionOpen
import Derived.OwnWalkIn
import Derived.TacticsInMore
import Derived.LoopNIn
import Derived.LoopIn
import Derived.Test.YteakbpcmafdikaaGreatDoorNmBase
import Derived.Lib.AppendStr
import Derived.BigQuiet
import Derived.Lib.ConvBytes
import Derived.Test.YteakbpcmafdikaaGreatDoorObjGr
namespace Go.Proofs.YteakbpcmafdikaaGreatDoor
open Go.ChangeShapes Go.WideShapes Go.ChangeAt Go.RowKit Go.Shelf
set_option linter.unusedVariables false
set_option linter.unusedSimpArgs false
/-- The blocks that a round may turn. -/
def Win (B D : Nat) : Nat → Prop := fun k => B ≤ k ∧ k < D
/-- Whatever the loop's body: as long as it goes on at 0, and doesn't at another number, the function tells zeros, and then r, if r isn't 0. -/
def Tells (P : Program) (gf : Nat) (lb : Array Value) (r : Int) (B : Nat) (w : World) : Prop :=
  ∀ (l : Nat) (J : World → Prop) (Jx : Int → World → Prop) (W : World), Below w.heap.size w W → (∀ X Y, J X → Below X.heap.size X Y → J Y) → (∀ x X Y, Jx x X → Below X.heap.size X Y → Jx x Y) →
    (∀ W1, J W1 → YieldAt Fence.wide 0 P l #[.int .i64 0] W1 fun e W' => e = .returned (.bool true) ∧ J W' ∧ Apart (Win B W.heap.size) W1 W') →
    (∀ x W1, x ≠ 0 → J W1 → YieldAt Fence.wide 0 P l #[.int .i64 x] W1 fun e W' => e = .returned (.bool false) ∧ Jx x W') →
    J W → CallsIn Fence.wide 0 P gf (#[.func (.yield l) #[] #[]] ++ lb) W fun e W' => (∃ v, e = .returned v) ∧ (r = 0 ∧ J W' ∨ r ≠ 0 ∧ Jx r W')
/-- How a round's body may be left. -/
def toldPost (B D : Nat) (I : World → Prop) (Ix : Int → World → Prop) (x : Int) (W : World) : Exit → Act → World → Prop
  | .normal, _, W' => x = 0 ∧ KeepsOthers W W' ∧ Apart (Win B D) W W' ∧ I W'
  | .ret, _, W' => x ≠ 0 ∧ KeepsOthers W W' ∧ Ix x W'
  | _, _, _ => False
theorem own_grow {β : Type} {B : Nat} {I : β → World → Prop} (h : OwnFrom B I) {s : β} {X Y : World} (hs : I s X) (hb : Below X.heap.size X Y) : I s Y :=
  h s X Y none hs ⟨hb.os, hb.tape, hb.output, hb.size, fun k hk _ => hb.block k hk⟩ (fun r e => by cases e)
theorem apart_put {B D : Nat} {W : World} {l : Nat} (o : Obj) (hB : B ≤ l) (hD : l < D) : Apart (Win B D) W (W.putObj l o) :=
  ⟨rfl, rfl, rfl, by simp, fun k _ hn => World.putObj_heap_other (fun e => hn ⟨by omega, by omega⟩)⟩
theorem Apart.wide {O O' : Nat → Prop} {w w' : World} (h : Apart O w w') (hO : ∀ k, O k → O' k) : Apart O' w w' := ⟨h.os, h.tape, h.output, h.size, fun k hk hn => h.block k hk (fun hh => hn (hO k hh))⟩
theorem wpIn_told {P : Program} {g : Operand} {ps : Array Tmp} {assign body : Code} {Q : Exit → Act → World → Prop} {a : Act} {w : World}
    {gf : Nat} {lb : Array Value} (hg : a.eval g = .func (.func gf) #[] lb) (eg : ∀ args w, (callFunc gf args).run P w = .ok (.enter gf args) w)
    {B : Nat} {r : Int} (hseq : Tells P gf lb r B w) (hB : B ≤ w.heap.size) (hps : ps.size = 1)
    (I : World → Prop) (Ix : Int → World → Prop) (hI : OwnFrom w.heap.size (fun (_ : Unit) W => I W)) (hIx : OwnFrom w.heap.size Ix) (h0 : I w) (a₁ : Int → Act)
    (hassign : ∀ (l : Nat) (x : Int) (W : World) (K : Act → World → Prop), K (a₁ x) W →
      assign.wpIn (Fence.wide.inRound l) 0 P (Exit.then K (fun _ _ _ => False)) { tmps := (ps.zip #[.int .i64 x]).foldl (fun t (p, v) => t.setIfInBounds p v) a.tmps, defers := [] } W)
    (hbody : ∀ (l : Nat) (x : Int) (W : World), I W → body.wpIn (Fence.wide.inRound l) 0 P (toldPost B w.heap.size I Ix x W) (a₁ x) W)
    (hdone : ∀ (D : Nat) (W : World), w.heap.size ≤ D → r = 0 → I W → W.heap[D]? = some (.deferred (some [])) → Q .normal { a with defers := { target := .collected D, args := #[] } :: a.defers } W)
    (hstop : ∀ (D : Nat) (W : World), w.heap.size ≤ D → r ≠ 0 → Ix r W → W.heap[D]? = some (.deferred (some [])) → Code.ret.wpIn Fence.wide 0 P Q { a with defers := { target := .collected D, args := #[] } :: a.defers } W) :
    (Code.rangeFunc g ps assign body).wpIn Fence.wide 0 P Q a w := by
  refine wpIn_rangeFunc fun fn hfn => ?_
  show ∃ (l : Nat) (mark : List Deferred) (w₁ : World) (d : Deferred) (w₁' : World) (f : FuncId) (args : Array Value) (w₂ : World), (Instr.enterLoop fn a.tmps ps assign body none).run P w = _ ∧ _
  obtain ⟨rec, hrec⟩ : ∃ rec : LoopState → Option Code → Loop, rec = fun st pe => { state := st, pending := pe, fn, tmps := a.tmps, params := ps, assign, body, defers := w.heap.size } := ⟨_, rfl⟩
  obtain ⟨V, hV⟩ : ∃ V, (w.alloc (.deferred (some []))).alloc (.loop (rec .ready none)) = V := ⟨_, rfl⟩
  have hVs : V.heap.size = w.heap.size + 2 := by rw [← hV]; simp
  have hL : V.heap[w.heap.size + 1]? = some (.loop (rec .ready none)) := by
    rw [← hV]; have h := World.alloc_heap_new (w.alloc (.deferred (some []))) (.loop (rec .ready none)); rwa [World.size_alloc] at h
  have hK : V.heap[w.heap.size]? = some (.deferred (some [])) := by
    rw [← hV]; exact (Below.heap_alloc _ _ _ (by simp)).trans (World.alloc_heap_new w _)
  have hIV : I V := by rw [← hV]; exact hI.alloc (s := ()) _ (hI.alloc (s := ()) _ h0)
  have hb : Below w.heap.size w V := by rw [← hV]; exact ((Below.refl _ w).alloc (Nat.le_refl _) _).alloc (by simp) _
  refine ⟨w.heap.size + 1, [{ target := .collected w.heap.size, args := #[] }], V, { target := .fn (.func gf) lb, args := #[.func (.yield (w.heap.size + 1)) #[] #[]] }, V, gf,
    #[.func (.yield (w.heap.size + 1)) #[] #[]] ++ lb, V, ?_, ?_, ?_, ?_, fun h => by simp [Fence.wide] at h, ?_⟩
  · rw [← hV, hrec]; exact run_enterLoop_outer _ _ _ _ _
  · simp only [resolve, hg]
    simp [go_sem]
  · exact fun _ _ => trivial
  · simp [invoke, go_sem, eg]
  · have hend : ∀ (jump : Option Code) (X Y : World), X.heap[w.heap.size + 1]? = some (.loop (rec .busy none)) → X.heap[w.heap.size]? = some (.deferred (some [])) → KeepsOthers X Y →
        (Instr.endRound (w.heap.size + 1) jump).run P Y = .ok (.bool jump.isNone) (Y.putObj (w.heap.size + 1) (.loop (rec (if jump.isNone then .ready else .done) jump))) ∧ Y.heap[w.heap.size + 1]? = some (.loop (rec .busy none)) ∧
        (Y.putObj (w.heap.size + 1) (.loop (rec (if jump.isNone then .ready else .done) jump))).heap[w.heap.size + 1]? = some (.loop (rec (if jump.isNone then .ready else .done) jump)) ∧
        (Y.putObj (w.heap.size + 1) (.loop (rec (if jump.isNone then .ready else .done) jump))).heap[w.heap.size]? = some (.deferred (some [])) := fun jump X Y h1 h2 hk => by
      have h3 := hk.same _ _ h1 rfl
      have h4 := run_endRound (P := P) jump h3
      rw [hrec] at h4 h3 ⊢
      exact ⟨h4, h3, World.putObj_heap_same (Array.getElem?_eq_some_iff.1 h3).1, (World.putObj_heap_other (by omega)).trans (hk.same _ _ h2 rfl)⟩
    have round : ∀ (x : Int) (X : World) (R : Ending → World → Prop), (I X ∧ X.heap[w.heap.size + 1]? = some (.loop (rec .ready none)) ∧ X.heap[w.heap.size]? = some (.deferred (some []))) →
        (∀ Y, x = 0 → I Y → Y.heap[w.heap.size + 1]? = some (.loop (rec .ready none)) → Y.heap[w.heap.size]? = some (.deferred (some [])) → Apart (Win B V.heap.size) X Y → R (.returned (.bool true)) Y) →
        (∀ Y, x ≠ 0 → Ix x Y → Y.heap[w.heap.size + 1]? = some (.loop (rec .done (some .ret))) → Y.heap[w.heap.size]? = some (.deferred (some [])) → R (.returned (.bool false)) Y) →
        YieldAt Fence.wide 0 P (w.heap.size + 1) #[.int .i64 x] X R := fun x X R hX hgo hno => by
      obtain ⟨hi, hl, hk⟩ := hX
      have hlt : w.heap.size + 1 < X.heap.size := (Array.getElem?_eq_some_iff.1 hl).1
      have hy := run_yield (P := P) (args := #[.int .i64 x]) hl (by rw [hrec]; exact hps.symm)
      rw [hrec] at hy
      refine ⟨fn, _, assign, body, hy, roundIn_of_wpIn hfn (hassign _ x X _ ⟨_, run_beginRound hl (by rw [hrec]), ?_⟩)⟩
      have e : ({ rec .ready none with state := .busy } : Loop) = rec .busy none := by rw [hrec]
      rw [e]
      have hl2 : (X.putObj (w.heap.size + 1) (.loop (rec .busy none))).heap[w.heap.size + 1]? = some (.loop (rec .busy none)) := World.putObj_heap_same hlt
      have hk2 : (X.putObj (w.heap.size + 1) (.loop (rec .busy none))).heap[w.heap.size]? = some (.deferred (some [])) := (World.putObj_heap_other (by omega)).trans hk
      have hp1 : Apart (Win B V.heap.size) X (X.putObj (w.heap.size + 1) (.loop (rec .busy none))) := apart_put _ (by omega) (by omega)
      refine wpIn_mono (hbody _ x _ (hI.putObj (s := ()) _ hi (by omega) hl rfl)) ?_
      intro ex a3 Y hp
      cases ex with
      | normal =>
        obtain ⟨hx, hk3, ha3, hi3⟩ := hp
        obtain ⟨hr, hl3, hl4, hk4⟩ := hend none _ Y hl2 hk2 hk3
        refine ⟨_, _, hr, hgo _ hx (hI.putObj (s := ()) _ hi3 (by omega) hl3 rfl) hl4 hk4 ?_⟩
        exact (hp1.trans (ha3.wide fun k hk => ⟨hk.1, by have := hk.2; omega⟩) fun _ h => .inl h).trans (apart_put _ (by omega) (by omega)) fun _ h => .inl h
      | ret =>
        obtain ⟨hx, hk3, hi3⟩ := hp
        obtain ⟨hr, hl3, hl4, hk4⟩ := hend (some .ret) _ Y hl2 hk2 hk3
        exact ⟨_, _, hr, hno _ hx (hIx.putObj _ hi3 (by omega) hl3 rfl) hl4 hk4⟩
      | exit id => exact hp.elim
      | goto t => exact hp.elim
      | panic ch => exact hp.elim
      | outgrown => exact hp.elim
    refine (hseq (w.heap.size + 1) (fun X => I X ∧ X.heap[w.heap.size + 1]? = some (.loop (rec .ready none)) ∧ X.heap[w.heap.size]? = some (.deferred (some [])))
      (fun x X => Ix x X ∧ X.heap[w.heap.size + 1]? = some (.loop (rec .done (some .ret))) ∧ X.heap[w.heap.size]? = some (.deferred (some []))) V hb
      (fun X Y h hXY => ⟨own_grow (s := ()) hI h.1 hXY, (hXY.block _ (Array.getElem?_eq_some_iff.1 h.2.1).1).trans h.2.1, (hXY.block _ (Array.getElem?_eq_some_iff.1 h.2.2).1).trans h.2.2⟩)
      (fun x X Y h hXY => ⟨own_grow hIx h.1 hXY, (hXY.block _ (Array.getElem?_eq_some_iff.1 h.2.1).1).trans h.2.1, (hXY.block _ (Array.getElem?_eq_some_iff.1 h.2.2).1).trans h.2.2⟩)
      (fun X hX => round 0 X _ hX (fun Y _ h1 h2 h3 h4 => ⟨rfl, ⟨h1, h2, h3⟩, h4⟩) (fun Y h => absurd rfl h))
      (fun x X hx hX => round x X _ hX (fun Y h => absurd h hx) (fun Y _ h1 h2 h3 => ⟨rfl, h1, h2, h3⟩)) ⟨hIV, hL, hK⟩).mono ?_
    rintro e Y ⟨⟨v, rfl⟩, (⟨hr, hi, hl, hk⟩ | ⟨hr, hi, hl, hk⟩)⟩
    · exact ⟨none, _, by have h := run_endLoop (P := P) hl (by rw [hrec]; simp); rw [hrec] at h; exact h, hdone _ _ (Nat.le_refl _) hr (hI.putObj (s := ()) _ hi (by omega) hl rfl) ((World.putObj_heap_other (by omega)).trans hk)⟩
    · exact ⟨some .ret, _, by have h := run_endLoop (P := P) hl (by rw [hrec]; simp); rw [hrec] at h; exact h, hstop _ _ (Nat.le_refl _) hr (hIx.putObj _ hi (by omega) hl rfl) ((World.putObj_heap_other (by omega)).trans hk)⟩
open Go.ChangeShapes Go.WideShapes Go.ChangeAt Go.RowKit Go.Shelf
set_option linter.unusedVariables false
set_option linter.unusedSimpArgs false
attribute [local go_sem] Oper.semAt_some
set_option maxRecDepth 100000 in
set_option maxHeartbeats 2000000 in
theorem first_told {w : World} {gf : Nat} {lb : Array Value} {r : Int} (eg : ∀ args w, (callFunc gf args).run Tryz.prog w = .ok (.enter gf args) w)
    (hT : Tells Tryz.prog gf lb r w.heap.size (w.alloc (.cells #[.int .i64 0] 29))) :
    Calls Tryz.prog 55 #[.func (.func gf) #[] lb] w fun e w' => e = .returned (.int .i64 r) ∧ Below w.heap.size w w' := by
  refine callsIn_wide.1 (callsIn_of_wp_marks (n := 0) Tryz.func55 rfl trivial ?_ rfl)
  simp only [Tryz.ntmps55, List.size_toArray, List.length_cons, List.length_nil, Nat.reduceAdd, Nat.reduceSub, Array.replicate_succ, Array.replicate_zero, List.push_toArray, List.append_toArray, List.nil_append, List.cons_append]
  gi_wp2
  have hc := new_cell' w #[.int .i64 0] 29 0 _ rfl
  have hf : (w.alloc (.cells #[.int .i64 0] 29)).frozen? ⟨w.heap.size, 0, none⟩ = false := by simp [go_sem]
  have hB0 : Below w.heap.size w (w.alloc (.cells #[.int .i64 0] 29)) := keep_alloc8 (Below.refl _ _) _
  refine wpIn_told (gf := gf) (lb := lb) rfl eg hT (by simp) rfl
    (fun W => (W.cell? ⟨w.heap.size, 0, none⟩ = some (.int .i64 0) ∧ W.frozen? ⟨w.heap.size, 0, none⟩ = false) ∧ Below w.heap.size w W)
    (fun x W => W.cell? ⟨w.heap.size, 0, none⟩ = some (.int .i64 x) ∧ Below w.heap.size w W)
    (OwnFrom.and (Own.from (fun s A B row hs hg hr => ⟨cell_kept hs.1 hg hr, (frozen_kept hs.1 hg hr).trans hs.2⟩) _) (ownFrom_below (Nat.le_refl _) (by simp)))
    (OwnFrom.and (Own.from (I := fun (x : Int) (W : World) => W.cell? ⟨w.heap.size, 0, none⟩ = some (.int .i64 x)) (fun s A B row hs hg hr => cell_kept hs hg hr) _) (ownFrom_below (Nat.le_refl _) (by simp)))
    ⟨⟨hc, hf⟩, hB0⟩
    (fun x => { tmps := #[.func (.func gf) #[] lb, undef, .pointer (some ⟨w.heap.size, 0, none⟩), .int .i64 x, .func (.func gf) #[] lb, .int .i64 x, undef, undef, undef], defers := [] }) ?assign ?body ?done ?stop
  case assign =>
    intro l x W K hK
    gi_wp2
    exact hK
  case body =>
    rintro l x W ⟨⟨hc, hf⟩, hB⟩
    by_cases hx : x = 0
    · subst hx
      gi_wp2
      exact ⟨rfl, KeepsOthers.refl _, Apart.refl _ _, ⟨hc, hf⟩, hB⟩
    · have q : (x != 0) = true := by simpa using hx
      have E : Hid (x ≠ 0) := hx
      clear hx
      gi_wp2
      exact ⟨E.out, KeepsOthers.setCell _ _ _, World.cell?_setCell_same' _ _ _ (by rw [hc]; rfl), hB.setCell (p := ⟨w.heap.size, 0, none⟩) (Nat.le_refl _) _⟩
  case done =>
    rintro D W hD rfl ⟨⟨hcr, hfr⟩, hB⟩ hK
    gi_wp2
    have hK' := (KeepsOthers.setCell W ⟨w.heap.size, 0, none⟩ (.int .i64 0)).same D _ hK rfl
    refine ⟨by simp, .inl ⟨_, _, rfl, run_takeDeferred hK', ?_⟩⟩
    have hc5 := cell_kept (World.cell?_setCell_same' W ⟨w.heap.size, 0, none⟩ (.int .i64 0) (by rw [hcr]; rfl)) (grownBy_putObj' _ D (.deferred none)) (fun r e => by cases e; exact ⟨_, hK', rfl⟩)
    refine ⟨.int .i64 0, ?_, rfl, (hB.setCell (p := ⟨w.heap.size, 0, none⟩) (Nat.le_refl _) _).trans (belowK_b (w := w) (Nat.le_refl _) _ D _ _ (by simp at hD; omega) hK' rfl rfl)⟩
    simp [results, Tryz.f55, go_sem, hc5]
  case stop =>
    rintro D W hD hr ⟨hcr, hB⟩ hK
    gi_wp2
    refine ⟨by simp, .inl ⟨_, _, rfl, run_takeDeferred hK, ?_⟩⟩
    have hc5 := cell_kept hcr (grownBy_putObj' _ D (.deferred none)) (fun r e => by cases e; exact ⟨_, hK, rfl⟩)
    refine ⟨.int .i64 r, ?_, rfl, hB.trans (belowK_b (w := w) (Nat.le_refl _) W D _ _ (by simp at hD; omega) hK rfl rfl)⟩
    simp [results, Tryz.f55, go_sem, hc5]
open Go.ChangeShapes Go.WideShapes Go.ChangeAt Go.RowKit
set_option linter.unusedVariables false
set_option linter.unusedSimpArgs false
set_option maxRecDepth 100000 in
theorem letter_any (c : Int) (w : World) (c0 : 0 ≤ c) (c1 : c < 256) :
    Calls Tryz.prog 142 #[.int .u8 c] w fun e w' => e = .returned (.bool (letterB c)) ∧ w' = w := by
  obtain ⟨b, eb⟩ : ∃ b, letterB c = b := ⟨_, rfl⟩
  have EB : Hid (letterB c = b) := eb
  rw [eb]
  clear eb
  go_enter Tryz.func142, Tryz.ntmps142
  go_wp2
  all_goals
    go_ret
    refine ⟨ret_bool ?_, rfl⟩
    rw [← EB.out]
    unfold letterB
    try simp only [beq_iff_eq, beq_eq_false_iff_ne, ne_eq] at *
    first
    | (symm; rw [decide_eq_false_iff_not]; omega)
    | (symm; rw [decide_eq_true_eq]; omega)
    | (rw [decide_eq_decide]; omega)
    | (rw [Bool.eq_iff_iff]; simp only [Bool.or_eq_true, Bool.and_eq_true, decide_eq_true_eq, beq_iff_eq]; omega)
set_option maxRecDepth 100000 in
theorem named_any (s : ByteArray) (w : World) (hs : s.size ≤ 9223372036854775807) :
    Calls Tryz.prog 120 #[.string s] w fun e w' => e = .returned (.bool (namedB s)) ∧ Below w.heap.size w w' := by
  obtain ⟨b, eb⟩ : ∃ b, namedB s = b := ⟨_, rfl⟩
  have EB : Hid (namedB s = b) := eb
  rw [eb]
  clear eb
  have IX : ∀ (k : Nat) (W : World), k < s.size → (Instr.index 9 (.string s) (.int .i64 k)).run Tryz.prog W = .ok (.int .u8 (byteZ s k)) W := fun k W hk => index_str 9 Tryz.underlying9 s k W hk
  have RL : Hid (∀ (k : Nat) (W : World), Calls Tryz.prog 142 #[.int .u8 (byteZ s k)] W fun e w' => e = .returned (.bool (letterB (byteZ s k))) ∧ w' = W) := fun k W => letter_any _ W (byteZ_bd s k).1 (byteZ_bd s k).2
  rcases (by omega : (s.size : Int) < 1 ∨ 32 < (s.size : Int) ∧ 1 ≤ (s.size : Int) ∨ 1 ≤ (s.size : Int) ∧ (s.size : Int) ≤ 32) with h1 | ⟨h1, h2⟩ | ⟨h1, h2⟩
  · go_enter Tryz.func120, Tryz.ntmps120
    go_wp2
    go_ret
    refine ⟨ret_bool ?_, Below.refl _ _⟩
    rw [← EB.out]
    unfold namedB
    symm; rw [decide_eq_false_iff_not]; omega
  · go_enter Tryz.func120, Tryz.ntmps120
    go_wp2
    go_ret
    refine ⟨ret_bool ?_, Below.refl _ _⟩
    rw [← EB.out]
    unfold namedB
    symm; rw [decide_eq_false_iff_not]; omega
  · go_enter Tryz.func120, Tryz.ntmps120
    go_wp2
    go_loop [14] (fun i => ∃ k : Nat, k ≤ s.size ∧ i = .int .i64 k ∧ ∀ j, j < k → letterB (byteZ s j) = true) (fun i => s.size - (intOf i).toNat)
    case atStart => exact ⟨0, Nat.zero_le _, rfl, fun j hj => by omega⟩
    case round =>
      obtain ⟨k, hk, rfl, hl⟩ := hrel
      have HL : Hid (∀ j, j < k → letterB (byteZ s j) = true) := hl
      clear hl
      by_cases hlt : k < s.size
      · have hlt' : (k : Int) < s.size := by omega
        cases hc : letterB (byteZ s k)
        · have HC : Hid (letterB (byteZ s k) = false) := hc
          go_wp2_with (go_at_call 142; refine (RL.out k _).mono ?_; rintro e w' ⟨rfl, rfl⟩; rw [hc])
          go_ret
          refine ⟨ret_bool ?_, Below.refl _ _⟩
          rw [← EB.out]
          unfold namedB
          symm; rw [decide_eq_false_iff_not]
          intro h
          have := h.2.2 k hlt
          rw [HC.out] at this; cases this
        · have HC : Hid (letterB (byteZ s k) = true) := hc
          go_wp2_with (go_at_call 142; refine (RL.out k _).mono ?_; rintro e w' ⟨rfl, rfl⟩; rw [hc])
          go_round
          case rel =>
            refine ⟨k + 1, by omega, by go_num, fun j hj => ?_⟩
            rcases (by omega : j < k ∨ j = k) with h | rfl
            · exact HL.out j h
            · exact HC.out
          case measure => simp [intOf]; omega
      · obtain rfl : k = s.size := by omega
        go_wp2
        go_ret
        refine ⟨ret_bool ?_, Below.refl _ _⟩
        rw [← EB.out]
        unfold namedB
        symm; rw [decide_eq_true_eq]
        exact ⟨by omega, by omega, HL.out⟩
theorem own_mono {w : World} {base base' : Nat} {e : TypeId} {size : Nat} {v : Value} {n : Nat} {xs : List Value} (h : w.ownsRow base e size v n xs) (hb : base' ≤ base) : w.ownsRow base' e size v n xs :=
  ⟨h.1, h.2.imp id fun ⟨g, cap, cur, h1, h2, h3⟩ => ⟨g, cap, cur, h1, Nat.le_trans hb h2, h3⟩⟩
set_option maxRecDepth 100000 in
set_option maxHeartbeats 1000000 in
/-- A copy, the call's own. -/
theorem clone_own (w : World) (a : Option Addr) (n c : Nat) (f : Nat → Int) (hn : n ≤ 3000000) (hh : Head a n c) (hR : Bytes w a n f) :
    Calls Tryz.prog 145 #[.slice a n c] w fun e w' => ∃ a' c', e = .returned (.slice a' n c') ∧ w'.ownsRow w.heap.size 5 1 (.slice a' n c') n (cellsK .u8 n f) ∧ Below w.heap.size w w' := by
  have q : ∀ (w : World) (a : Option Addr) (n c n' c' : Nat), (binOp .eql 39 (.slice a n c) (.slice none n' c')).run Tryz.prog w = .ok (.bool a.isNone) w := fun w a n c n' c' => Lib.run_eql_slice_nil w _ _ a n c n' c' Tryz.underlying39
  have HR : Hid (Bytes w a n f) := hR
  have HH : Hid (Head a n c) := hh
  clear hR hh
  rcases a with _ | a
  · obtain ⟨rfl, rfl⟩ := head_nil HH.out rfl
    go_enter Tryz.func145, Tryz.ntmps145
    go_wp2
    go_ret
    exact ⟨none, 0, rfl, own_none, Below.refl _ _⟩
  · go_enter Tryz.func145, Tryz.ntmps145
    go_wp2_with (at_builtin; refine wpList_append_fresh w rfl (.tmp 5) (.tmp 6) 39 rfl 5 (.int .u8 0) 1 Tryz.underlying39 slB rfl rfl (some a) n c (cellsK .u8 n f) rfl (cellsK_len _ _ _) (head_nil HH.out) (bytes_cells HR.out) (cellsK_one _ _ _) (by unfold maxLen; omega) (by omega) ?_; intro a1 c1 w1 own1 hb1)
    go_ret
    exact ⟨a1, c1, rfl, own1, hb1⟩
open Go.ChangeShapes Go.WideShapes Go.ChangeAt Go.RowKit
set_option linter.unusedVariables false
set_option linter.unusedSimpArgs false
set_option maxRecDepth 100000 in
theorem put_own (x : Int) (k : Nat) (w : World) (x0 : 0 ≤ x) (x1 : x < 4294967296) (k0 : 1 ≤ k) (k1 : k ≤ 4) :
    Calls Tryz.prog 125 #[.int .i64 x, .int .i64 k] w fun e w' => ∃ a c, e = .returned (.slice a k c) ∧ w'.ownsRow w.heap.size 5 1 (.slice a k c) k (cellsK .u8 k fun i => x / 256 ^ i % 256) ∧ Below w.heap.size w w' := by
  have hw : IntKind.u32.wrap x = x := by simp [IntKind.wrap, IntKind.bits, IntKind.signed]; omega
  have k0' : (0 : Int) ≤ k := by omega
  have k1' : (k : Int) ≤ 4 := by omega
  have FB : Hid (∀ i, 0 ≤ x / 256 ^ i % 256 ∧ x / 256 ^ i % 256 < 256) := fun i => ⟨Int.emod_nonneg _ (by decide), Int.emod_lt_of_pos _ (by decide)⟩
  have PB : Hid (∀ W, Calls Tryz.prog 144 #[.int .u32 x] W fun e w' => e = .returned (.agg #[.int .u8 (x / 256 ^ 0 % 256), .int .u8 (x / 256 ^ 1 % 256), .int .u8 (x / 256 ^ 2 % 256), .int .u8 (x / 256 ^ 3 % 256)]) ∧ Below W.heap.size W w') := fun W => by
    refine (put_any x W x0 x1).mono ?_
    rintro e w' ⟨rfl, rfl⟩
    refine ⟨?_, (Below.refl _ _).alloc (Nat.le_refl _) _⟩
    have p3 : x / 256 ^ 3 % 256 = x / 16777216 := by
      have : (256 : Int) ^ 3 = 16777216 := by decide
      rw [this]; omega
    rw [p3]
    simp [bytesOf]
  obtain ⟨y, ey⟩ : ∃ y : Nat → Int, ∀ i, y i = x / 256 ^ i % 256 := ⟨_, fun _ => rfl⟩
  have EY : Hid (∀ i, y i = x / 256 ^ i % 256) := ey
  rw [← ey 0, ← ey 1, ← ey 2, ← ey 3] at PB
  clear ey
  have CL : Hid (∀ W a c, Head a k c → Bytes W a k (fun i => x / 256 ^ i % 256) → Calls Tryz.prog 145 #[.slice a k c] W fun e w' => ∃ a' c', e = .returned (.slice a' k c') ∧ w'.ownsRow W.heap.size 5 1 (.slice a' k c') k (cellsK .u8 k fun i => x / 256 ^ i % 256) ∧ Below W.heap.size W w') := fun W a c hh hb => clone_own W a k c _ (by omega) hh hb
  have NC : Hid (∀ (W : World) i, i < k → (W.alloc (.cells #[.int .u8 (y 0), .int .u8 (y 1), .int .u8 (y 2), .int .u8 (y 3)] 197)).cell? ⟨W.heap.size, 0 + i, none⟩ = some (.int .u8 (x / 256 ^ i % 256))) := fun W i hi => by
    rw [Nat.zero_add]
    refine new_cell' W _ _ i _ ?_
    rw [← EY.out]
    rcases (by omega : i = 0 ∨ i = 1 ∨ i = 2 ∨ i = 3) with rfl | rfl | rfl | rfl <;> rfl
  go_enter Tryz.func125, Tryz.ntmps125
  go_wp2_with (first
    | (go_at_call 144; refine (PB.out _).mono ?_; rintro e w1 ⟨rfl, b1⟩)
    | (go_at_call 145; refine (CL.out _ (some ⟨w1.heap.size, 0, none⟩) 4 ⟨by omega, fun e => by cases e⟩ ⟨FB.out, .inr ⟨w1.heap.size, 0, rfl, NC.out w1⟩⟩).mono ?_; rintro e w2 ⟨a2, c2, rfl, o2, b2⟩))
  go_ret
  exact ⟨a2, c2, rfl, own_mono o2 (keep_alloc8 b1 _).size, bnext (keep_alloc8 b1 _) b2⟩
/-- A text's bytes, in memory of their own. -/
theorem bytes_world (w : World) (s : ByteArray) : Below w.heap.size w (Lib.bytesWorld w 5 s) ∧ Bytes (Lib.bytesWorld w 5 s) (some ⟨w.heap.size, 0, none⟩) s.size (byteZ s) := by
  refine ⟨⟨?_, ?_, ?_, by rw [Lib.bytesWorld_size]; omega, fun k hk => Lib.bytesWorld_at_old w _ s k hk⟩, byteZ_bd s, .inr ⟨_, _, rfl, fun i hi => ?_⟩⟩
  · simp [Lib.bytesWorld, World.freeze, World.alloc, World.drew, -World.alloc_eq, -World.drew_eq]
  · simp [Lib.bytesWorld, World.freeze, World.alloc, World.drew, -World.alloc_eq, -World.drew_eq]
  · simp [Lib.bytesWorld, World.freeze, World.alloc, World.drew, -World.alloc_eq, -World.drew_eq]
  · rw [Nat.zero_add, Lib.bytesWorld_cell w _ s i hi]
    have hl : i < s.data.size := hi
    simp [byteZ, List.getD, hl]
set_option maxRecDepth 100000 in
theorem putname_own (s : ByteArray) (w : World) (hs : namedB s = true) :
    Calls Tryz.prog 126 #[.string s] w fun e w' => ∃ a c, e = .returned (.slice a (s.size + 1) c) ∧ w'.ownsRow w.heap.size 5 1 (.slice a (s.size + 1) c) (s.size + 1) (cellsK .u8 (s.size + 1) fun i => if i = 0 then (s.size : Int) else byteZ s (i - 1)) ∧ Below w.heap.size w w' := by
  have hsn : 1 ≤ s.size ∧ s.size ≤ 32 := by
    have h := hs
    unfold namedB at h
    rw [decide_eq_true_eq] at h
    exact ⟨h.1, h.2.1⟩
  have PU : Hid (∀ W, Calls Tryz.prog 125 #[.int .i64 (s.size : Int), .int .i64 1] W fun e w' => ∃ a c, e = .returned (.slice a 1 c) ∧ w'.ownsRow W.heap.size 5 1 (.slice a 1 c) 1 (cellsK .u8 1 fun i => (s.size : Int) / 256 ^ i % 256) ∧ Below W.heap.size W w') := fun W => put_own _ 1 W (by omega) (by omega) (by omega) (by omega)
  have CV : ∀ W, (convert 9 39 (.string s)).run Tryz.prog W = .ok (.slice (some ⟨W.heap.size, 0, none⟩) s.size (grownCap W s.size 0 5)) (Lib.bytesWorld W 5 s) := fun W => Lib.run_convert_string_bytes W _ _ 5 s Tryz.underlying9 Tryz.underlying39 Tryz.underlying5
  have CC : Hid (∀ (W1 W : World) a1 c1 p, W1.ownsRow w.heap.size 5 1 (.slice a1 1 c1) 1 (cellsK .u8 1 fun i => (s.size : Int) / 256 ^ i % 256) → Below w.heap.size w W1 → Below (Lib.bytesWorld W1 5 s).heap.size (Lib.bytesWorld W1 5 s) W → W.cell? ⟨p, 0, none⟩ = some (.slice a1 1 c1) → W.cell? ⟨p, 1, none⟩ = some (.slice (some ⟨W1.heap.size, 0, none⟩) s.size (grownCap W1 s.size 0 5)) →
      Calls Tryz.prog 146 #[.slice (some ⟨p, 0, none⟩) 2 2] W fun e w' => ∃ a c, e = .returned (.slice a (s.size + 1) c) ∧ w'.ownsRow w.heap.size 5 1 (.slice a (s.size + 1) c) (s.size + 1) (cellsK .u8 (s.size + 1) fun i => if i = 0 then (s.size : Int) else byteZ s (i - 1)) ∧ Below w.heap.size w w') := fun W1 W a1 c1 p o1 b1 b2 p0 p1 => by
    obtain ⟨q1, q2⟩ := bytes_world W1 s
    have r1 := own_bytes o1 (fun i => ⟨Int.emod_nonneg _ (by decide), Int.emod_lt_of_pos _ (by decide)⟩)
    have bd : ∀ (f : Nat → Int), (∀ i, 0 ≤ f i ∧ f i < 256) → ∀ i, (Lit.int .u8 (f i)).wf = true := fun f hf i => by have := hf i; simp [Lit.wf, IntKind.min, IntKind.max, IntKind.signed, IntKind.bits]; omega
    have t1 : Bytes W a1 1 _ := (r1.2.later q1).later b2
    have t2 : Bytes W (some ⟨W1.heap.size, 0, none⟩) s.size (byteZ s) := q2.later b2
    refine (concat_b W p a1 _ 1 s.size c1 _ _ (byteZ s) (by omega) r1.1 ⟨grownCap_ge W1 _ 0 _, fun e => by cases e⟩ ⟨bd _ t1.1, t1.2⟩ ⟨bd _ t2.1, t2.2⟩ p0 p1).mono ?_
    rintro e w' ⟨a', c', rfl, ow, hb⟩
    rw [Nat.add_comm 1 s.size] at ow ⊢
    have bel := bnext (bnext b1 q1) b2
    refine ⟨a', c', rfl, ?_, bnext bel hb⟩
    have ow' := own_mono ow bel.size
    rwa [cellsK_congr .u8 (s.size + 1) (g := fun i => if i = 0 then (s.size : Int) else byteZ s (i - 1)) (fun j hj => ?_)] at ow'
    by_cases h0 : j = 0
    · subst h0
      simp
      omega
    · rw [if_neg h0, if_neg (by omega)]
  clear hs hsn
  go_enter Tryz.func126, Tryz.ntmps126
  go_wp2_with (first
    | (go_at_call 125; refine (PU.out _).mono ?_; rintro e w1 ⟨a1, c1, rfl, o1, b1⟩)
    | (go_at_call 146; refine (CC.out w1 _ a1 c1 _ o1 b1 ((Below.refl _ _).alloc (Nat.le_refl _) _) (new_cell' _ _ _ 0 _ rfl) (new_cell' _ _ _ 1 _ rfl)).mono ?_; rintro e w2 ⟨a2, c2, rfl, o2, b2⟩))
  go_ret
  exact ⟨a2, c2, rfl, o2, b2⟩
open Go.ChangeShapes Go.WideShapes Go.ChangeAt Go.RowKit
set_option linter.unusedVariables false
set_option linter.unusedSimpArgs false
open Go.ChangeShapes Go.WideShapes Go.ChangeAt Go.RowKit
set_option linter.unusedVariables false
set_option linter.unusedSimpArgs false
theorem Hid.mk0 {P : Prop} (h : P) : Hid P := h
/-- The value is a scanner before these bytes; its own blocks are O. -/
def Sk (O : Nat → Prop) (w : World) (v : Value) (b : Bs) : Prop := (∃ f, ScO O w v b.length f ∧ ∀ i, i < b.length → gF b i = f i) ∧ Byt b
theorem Sk.later {O : Nat → Prop} {w w' : World} {v : Value} {b : Bs} (h : Sk O w v b) (hb : Below w.heap.size w w') : Sk O w' v b := by
  obtain ⟨⟨f, h1, h2⟩, h3⟩ := h
  exact ⟨⟨f, h1.later hb, h2⟩, h3⟩
theorem Sk.keep {O : Nat → Prop} {w w' : World} {v : Value} {b : Bs} (h : Sk O w v b) (hs : w.heap.size ≤ w'.heap.size) (hk : ∀ k, k < w.heap.size → O k → w'.heap[k]? = w.heap[k]?) : Sk O w' v b := by
  obtain ⟨⟨f, h1, h2⟩, h3⟩ := h
  exact ⟨⟨f, h1.keep hs hk, h2⟩, h3⟩
theorem Sk.lt {O : Nat → Prop} {w : World} {v : Value} {b : Bs} (h : Sk O w v b) : ∀ k, O k → k < w.heap.size := by
  obtain ⟨⟨f, h1, h2⟩, h3⟩ := h
  exact h1.lt
theorem Sk.ptr {O : Nat → Prop} {w : World} {v : Value} {b : Bs} (h : Sk O w v b) : ∃ g, v = .pointer (some ⟨g, 0, none⟩) ∧ O g := by
  obtain ⟨⟨f, h1, h2⟩, h3⟩ := h
  exact h1.ptr
theorem take_list {b : Bs} {f : Nat → Int} {k : Nat} (hk : k ≤ b.length) (hf : ∀ i, i < b.length → gF b i = f i) : b.take k = (List.range k).map f := by
  refine List.ext_getElem? fun i => ?_
  by_cases hi : i < k
  · rw [List.getElem?_take_of_lt hi, gF_get (by omega : i < b.length), hf i (by omega)]
    simp [hi]
  · rw [List.getElem?_eq_none (by rw [List.length_take]; omega), List.getElem?_eq_none (by rw [List.length_map, List.length_range]; omega)]
theorem Sk.drop {O : Nat → Prop} {w : World} {v : Value} {b : Bs} {f : Nat → Int} {k : Nat} (hs : ScO O w v (b.length - k) (fun i => f (i + k))) (hf : ∀ i, i < b.length → gF b i = f i) (hk : k ≤ b.length) (hb : Byt b) : Sk O w v (b.drop k) :=
  ⟨⟨fun i => f (i + k), by rw [List.length_drop]; exact hs, fun i hi => by rw [List.length_drop] at hi; rw [gF_drop]; exact hf _ (by omega)⟩, fun x hx => hb x (List.mem_of_mem_drop hx)⟩
/-- Something was taken, as it is read of bytes; or the error was met. -/
def Took {α : Type} (O : Nat → Prop) (w : World) (v : Value) (r : α × St) (hold : α → World → Value → Prop) (e : Ending) (w' : World) : Prop :=
  ((∃ x b u, Hid (r = (x, .good b)) ∧ e = .returned u ∧ hold x w' u ∧ Sk O w' v b) ∨ (∃ x er, Hid (r = (x, .bad er)) ∧ e = .panicked [{ v := .iface 29 (.int .i64 er), recovered := false }])) ∧ Apart O w w'
theorem bind_bad {α β : Type} {f : Rdr α} {g : α → Rdr β} (hg : ∀ x, Keeps (g x)) {b : Bs} {x : α} {e : Int} (h : f (.good b) = (x, .bad e)) : ∃ y, bindR f g (.good b) = (y, .bad e) := by
  unfold bindR
  rw [h]
  exact ⟨_, Prod.ext rfl (hg x e)⟩
theorem take_good {b : Bs} {k : Nat} (h : k ≤ b.length) : takeR k (.good b) = (b.take k, .good (b.drop k)) := by unfold takeR; dsimp only; rw [if_pos h]
theorem take_short {b : Bs} {k : Nat} (h : b.length < k) : takeR k (.good b) = (List.replicate k 0, .bad 2) := by unfold takeR; dsimp only; rw [if_neg (by omega)]
theorem num_good {b : Bs} {k : Nat} (h : k ≤ b.length) : numR k (.good b) = (sumL (b.take k), .good (b.drop k)) := by
  unfold numR; rw [bind_fwd (take_good h)]; rfl
theorem num_short {b : Bs} {k : Nat} (h : b.length < k) : ∃ y, numR k (.good b) = (y, .bad 2) := bind_bad (fun _ => keeps_pure _) (take_short h)
theorem must_yes {b : Bs} {c : Bool} (h : c = true) : mustR c (.good b) = ((), .good b) := must_fwd h b
theorem must_no {b : Bs} {c : Bool} (h : c = false) : mustR c (.good b) = ((), .bad 4) := by unfold mustR; simp [h]
section
variable {O : Nat → Prop} {w : World} {v : Value} {b : Bs}
end
open Go.ChangeShapes Go.WideShapes Go.ChangeAt Go.RowKit
set_option linter.unusedVariables false
set_option linter.unusedSimpArgs false
theorem within_any (n a b : Int) (w : World) : Calls Tryz.prog 124 #[.int .i64 n, .int .i64 a, .int .i64 b] w fun e w' => e = .returned (.bool (decide (a ≤ n ∧ n ≤ b))) ∧ w' = w := by
  by_cases h1 : a ≤ n
  · by_cases h2 : n ≤ b
    · have e : decide (a ≤ n ∧ n ≤ b) = true := decide_eq_true ⟨h1, h2⟩
      rw [e]
      clear e
      go_enter Tryz.func124, Tryz.ntmps124
      go_wp2
      go_ret
      exact ⟨rfl, rfl⟩
    · have e : decide (a ≤ n ∧ n ≤ b) = false := decide_eq_false fun h => h2 h.2
      rw [e]
      have h2' : b < n := by omega
      clear e h2
      go_enter Tryz.func124, Tryz.ntmps124
      go_wp2
      go_ret
      exact ⟨congrArg (fun c => Ending.returned (.bool c)) (decide_eq_false (by omega)), rfl⟩
  · have e : decide (a ≤ n ∧ n ≤ b) = false := decide_eq_false fun h => h1 h.1
    rw [e]
    have h1' : n < a := by omega
    clear e h1
    go_enter Tryz.func124, Tryz.ntmps124
    go_wp2
    go_ret
    exact ⟨rfl, rfl⟩
theorem rightbind_any (n : Int) (w : World) : Calls Tryz.prog 121 #[.int .i64 n] w fun e w' => e = .returned (.bool (decide (1 ≤ n ∧ n ≤ 255))) ∧ w' = w := by
  have WI : Hid (∀ W, Calls Tryz.prog 124 #[.int .i64 n, .int .i64 1, .int .i64 255] W fun e w' => e = .returned (.bool (decide (1 ≤ n ∧ n ≤ 255))) ∧ w' = W) := fun W => within_any n 1 255 W
  generalize decide (1 ≤ n ∧ n ≤ 255) = c at WI ⊢
  go_enter Tryz.func121, Tryz.ntmps121
  go_wp2_with (go_at_call 124; refine (WI.out _).mono ?_; rintro e w1 ⟨rfl, rfl⟩)
  go_ret
  exact ⟨rfl, rfl⟩
theorem rightadd_any (n : Int) (w : World) : Calls Tryz.prog 143 #[.int .i64 n] w fun e w' => e = .returned (.bool (decide (-1048576 ≤ n ∧ n ≤ 1048576))) ∧ w' = w := by
  have WI : Hid (∀ W, Calls Tryz.prog 124 #[.int .i64 n, .int .i64 (-1048576), .int .i64 1048576] W fun e w' => e = .returned (.bool (decide (-1048576 ≤ n ∧ n ≤ 1048576))) ∧ w' = W) := fun W => within_any n _ _ W
  generalize decide (-1048576 ≤ n ∧ n ≤ 1048576) = c at WI ⊢
  go_enter Tryz.func143, Tryz.ntmps143
  go_wp2_with (go_at_call 124; refine (WI.out _).mono ?_; rintro e w1 ⟨rfl, rfl⟩)
  go_ret
  exact ⟨rfl, rfl⟩
end Go.Proofs.YteakbpcmafdikaaGreatDoor
