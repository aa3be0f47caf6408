/- A range over a function whose rounds go on at 0 and return at any other number: what such a function must do, and what comes of the loop. What check.first answers of a function that tells zeros, and then an error. -/
import Derived.Test.YtnejpldbokodaaaDoorScanKit
import Derived.RangeFuncNested
import Derived.RangeFuncBound
import Derived.RangeFuncCalls
import Derived.RangeFuncLeaves
import Derived.Shelf.Abstract
import Derived.Shelf.RegionOpen
import Derived.OwnWalkIn
import Derived.TacticsInMore
import Derived.LoopNIn
import Derived.LoopIn
namespace Go.Proofs.YtnejpldbokodaaaDoor
open Go.ChangeShapes Go.WideShapes Go.ChangeAt Go.RowKit Go.Shelf
set_option linter.unusedVariables false
set_option linter.unusedSimpArgs false
/-- The blocks that a round may turn. -/
def Win (B D : Nat) : Nat → Prop := fun k => B ≤ k ∧ k < D
/-- Whatever the loop's body: as long as it goes on at 0, and doesn't at another number, the function tells zeros, and then r, if r isn't 0. -/
def Tells (P : Program) (gf : Nat) (lb : Array Value) (r : Int) (B : Nat) (w : World) : Prop :=
  ∀ (l : Nat) (J : World → Prop) (Jx : Int → World → Prop) (W : World), Below w.heap.size w W → (∀ X Y, J X → Below X.heap.size X Y → J Y) → (∀ x X Y, Jx x X → Below X.heap.size X Y → Jx x Y) →
    (∀ W1, J W1 → YieldAt Fence.wide 0 P l #[.int .i64 0] W1 fun e W' => e = .returned (.bool true) ∧ J W' ∧ Apart (Win B W.heap.size) W1 W') →
    (∀ x W1, x ≠ 0 → J W1 → YieldAt Fence.wide 0 P l #[.int .i64 x] W1 fun e W' => e = .returned (.bool false) ∧ Jx x W') →
    J W → CallsIn Fence.wide 0 P gf (#[.func (.yield l) #[] #[]] ++ lb) W fun e W' => (∃ v, e = .returned v) ∧ (r = 0 ∧ J W' ∨ r ≠ 0 ∧ Jx r W')
/-- How a round's body may be left. -/
def toldPost (B D : Nat) (I : World → Prop) (Ix : Int → World → Prop) (x : Int) (W : World) : Exit → Act → World → Prop
  | .normal, _, W' => x = 0 ∧ KeepsOthers W W' ∧ Apart (Win B D) W W' ∧ I W'
  | .ret, _, W' => x ≠ 0 ∧ KeepsOthers W W' ∧ Ix x W'
  | _, _, _ => False
theorem own_grow {β : Type} {B : Nat} {I : β → World → Prop} (h : OwnFrom B I) {s : β} {X Y : World} (hs : I s X) (hb : Below X.heap.size X Y) : I s Y :=
  h s X Y none hs ⟨hb.os, hb.tape, hb.output, hb.size, fun k hk _ => hb.block k hk⟩ (fun r e => by cases e)
theorem apart_put {B D : Nat} {W : World} {l : Nat} (o : Obj) (hB : B ≤ l) (hD : l < D) : Apart (Win B D) W (W.putObj l o) :=
  ⟨rfl, rfl, rfl, by simp, fun k _ hn => World.putObj_heap_other (fun e => hn ⟨by omega, by omega⟩)⟩
theorem Apart.wide {O O' : Nat → Prop} {w w' : World} (h : Apart O w w') (hO : ∀ k, O k → O' k) : Apart O' w w' := ⟨h.os, h.tape, h.output, h.size, fun k hk hn => h.block k hk (fun hh => hn (hO k hh))⟩
theorem wpIn_told {P : Program} {g : Operand} {ps : Array Tmp} {assign body : Code} {Q : Exit → Act → World → Prop} {a : Act} {w : World}
    {gf : Nat} {lb : Array Value} (hg : a.eval g = .func (.func gf) #[] lb) (eg : ∀ args w, (callFunc gf args).run P w = .ok (.enter gf args) w)
    {B : Nat} {r : Int} (hseq : Tells P gf lb r B w) (hB : B ≤ w.heap.size) (hps : ps.size = 1)
    (I : World → Prop) (Ix : Int → World → Prop) (hI : OwnFrom w.heap.size (fun (_ : Unit) W => I W)) (hIx : OwnFrom w.heap.size Ix) (h0 : I w) (a₁ : Int → Act)
    (hassign : ∀ (l : Nat) (x : Int) (W : World) (K : Act → World → Prop), K (a₁ x) W →
      assign.wpIn (Fence.wide.inRound l) 0 P (Exit.then K (fun _ _ _ => False)) { tmps := (ps.zip #[.int .i64 x]).foldl (fun t (p, v) => t.setIfInBounds p v) a.tmps, defers := [] } W)
    (hbody : ∀ (l : Nat) (x : Int) (W : World), I W → body.wpIn (Fence.wide.inRound l) 0 P (toldPost B w.heap.size I Ix x W) (a₁ x) W)
    (hdone : ∀ (D : Nat) (W : World), w.heap.size ≤ D → r = 0 → I W → W.heap[D]? = some (.deferred (some [])) → Q .normal { a with defers := { target := .collected D, args := #[] } :: a.defers } W)
    (hstop : ∀ (D : Nat) (W : World), w.heap.size ≤ D → r ≠ 0 → Ix r W → W.heap[D]? = some (.deferred (some [])) → Code.ret.wpIn Fence.wide 0 P Q { a with defers := { target := .collected D, args := #[] } :: a.defers } W) :
    (Code.rangeFunc g ps assign body).wpIn Fence.wide 0 P Q a w := by
  refine wpIn_rangeFunc fun fn hfn => ?_
  show ∃ (l : Nat) (mark : List Deferred) (w₁ : World) (d : Deferred) (w₁' : World) (f : FuncId) (args : Array Value) (w₂ : World), (Instr.enterLoop fn a.tmps ps assign body none).run P w = _ ∧ _
  obtain ⟨rec, hrec⟩ : ∃ rec : LoopState → Option Code → Loop, rec = fun st pe => { state := st, pending := pe, fn, tmps := a.tmps, params := ps, assign, body, defers := w.heap.size } := ⟨_, rfl⟩
  obtain ⟨V, hV⟩ : ∃ V, (w.alloc (.deferred (some []))).alloc (.loop (rec .ready none)) = V := ⟨_, rfl⟩
  have hVs : V.heap.size = w.heap.size + 2 := by rw [← hV]; simp
  have hL : V.heap[w.heap.size + 1]? = some (.loop (rec .ready none)) := by
    rw [← hV]; have h := World.alloc_heap_new (w.alloc (.deferred (some []))) (.loop (rec .ready none)); rwa [World.size_alloc] at h
  have hK : V.heap[w.heap.size]? = some (.deferred (some [])) := by
    rw [← hV]; exact (Below.heap_alloc _ _ _ (by simp)).trans (World.alloc_heap_new w _)
  have hIV : I V := by rw [← hV]; exact hI.alloc (s := ()) _ (hI.alloc (s := ()) _ h0)
  have hb : Below w.heap.size w V := by rw [← hV]; exact ((Below.refl _ w).alloc (Nat.le_refl _) _).alloc (by simp) _
  refine ⟨w.heap.size + 1, [{ target := .collected w.heap.size, args := #[] }], V, { target := .fn (.func gf) lb, args := #[.func (.yield (w.heap.size + 1)) #[] #[]] }, V, gf,
    #[.func (.yield (w.heap.size + 1)) #[] #[]] ++ lb, V, ?_, ?_, ?_, ?_, fun h => by simp [Fence.wide] at h, ?_⟩
  · rw [← hV, hrec]; exact run_enterLoop_outer _ _ _ _ _
  · simp only [resolve, hg]
    simp [go_sem]
  · exact fun _ _ => trivial
  · simp [invoke, go_sem, eg]
  · have hend : ∀ (jump : Option Code) (X Y : World), X.heap[w.heap.size + 1]? = some (.loop (rec .busy none)) → X.heap[w.heap.size]? = some (.deferred (some [])) → KeepsOthers X Y →
        (Instr.endRound (w.heap.size + 1) jump).run P Y = .ok (.bool jump.isNone) (Y.putObj (w.heap.size + 1) (.loop (rec (if jump.isNone then .ready else .done) jump))) ∧ Y.heap[w.heap.size + 1]? = some (.loop (rec .busy none)) ∧
        (Y.putObj (w.heap.size + 1) (.loop (rec (if jump.isNone then .ready else .done) jump))).heap[w.heap.size + 1]? = some (.loop (rec (if jump.isNone then .ready else .done) jump)) ∧
        (Y.putObj (w.heap.size + 1) (.loop (rec (if jump.isNone then .ready else .done) jump))).heap[w.heap.size]? = some (.deferred (some [])) := fun jump X Y h1 h2 hk => by
      have h3 := hk.same _ _ h1 rfl
      have h4 := run_endRound (P := P) jump h3
      rw [hrec] at h4 h3 ⊢
      exact ⟨h4, h3, World.putObj_heap_same (Array.getElem?_eq_some_iff.1 h3).1, (World.putObj_heap_other (by omega)).trans (hk.same _ _ h2 rfl)⟩
    have round : ∀ (x : Int) (X : World) (R : Ending → World → Prop), (I X ∧ X.heap[w.heap.size + 1]? = some (.loop (rec .ready none)) ∧ X.heap[w.heap.size]? = some (.deferred (some []))) →
        (∀ Y, x = 0 → I Y → Y.heap[w.heap.size + 1]? = some (.loop (rec .ready none)) → Y.heap[w.heap.size]? = some (.deferred (some [])) → Apart (Win B V.heap.size) X Y → R (.returned (.bool true)) Y) →
        (∀ Y, x ≠ 0 → Ix x Y → Y.heap[w.heap.size + 1]? = some (.loop (rec .done (some .ret))) → Y.heap[w.heap.size]? = some (.deferred (some [])) → R (.returned (.bool false)) Y) →
        YieldAt Fence.wide 0 P (w.heap.size + 1) #[.int .i64 x] X R := fun x X R hX hgo hno => by
      obtain ⟨hi, hl, hk⟩ := hX
      have hlt : w.heap.size + 1 < X.heap.size := (Array.getElem?_eq_some_iff.1 hl).1
      have hy := run_yield (P := P) (args := #[.int .i64 x]) hl (by rw [hrec]; exact hps.symm)
      rw [hrec] at hy
      refine ⟨fn, _, assign, body, hy, roundIn_of_wpIn hfn (hassign _ x X _ ⟨_, run_beginRound hl (by rw [hrec]), ?_⟩)⟩
      have e : ({ rec .ready none with state := .busy } : Loop) = rec .busy none := by rw [hrec]
      rw [e]
      have hl2 : (X.putObj (w.heap.size + 1) (.loop (rec .busy none))).heap[w.heap.size + 1]? = some (.loop (rec .busy none)) := World.putObj_heap_same hlt
      have hk2 : (X.putObj (w.heap.size + 1) (.loop (rec .busy none))).heap[w.heap.size]? = some (.deferred (some [])) := (World.putObj_heap_other (by omega)).trans hk
      have hp1 : Apart (Win B V.heap.size) X (X.putObj (w.heap.size + 1) (.loop (rec .busy none))) := apart_put _ (by omega) (by omega)
      refine wpIn_mono (hbody _ x _ (hI.putObj (s := ()) _ hi (by omega) hl rfl)) ?_
      intro ex a3 Y hp
      cases ex with
      | normal =>
        obtain ⟨hx, hk3, ha3, hi3⟩ := hp
        obtain ⟨hr, hl3, hl4, hk4⟩ := hend none _ Y hl2 hk2 hk3
        refine ⟨_, _, hr, hgo _ hx (hI.putObj (s := ()) _ hi3 (by omega) hl3 rfl) hl4 hk4 ?_⟩
        exact (hp1.trans (ha3.wide fun k hk => ⟨hk.1, by have := hk.2; omega⟩) fun _ h => .inl h).trans (apart_put _ (by omega) (by omega)) fun _ h => .inl h
      | ret =>
        obtain ⟨hx, hk3, hi3⟩ := hp
        obtain ⟨hr, hl3, hl4, hk4⟩ := hend (some .ret) _ Y hl2 hk2 hk3
        exact ⟨_, _, hr, hno _ hx (hIx.putObj _ hi3 (by omega) hl3 rfl) hl4 hk4⟩
      | exit id => exact hp.elim
      | goto t => exact hp.elim
      | panic ch => exact hp.elim
      | outgrown => exact hp.elim
    refine (hseq (w.heap.size + 1) (fun X => I X ∧ X.heap[w.heap.size + 1]? = some (.loop (rec .ready none)) ∧ X.heap[w.heap.size]? = some (.deferred (some [])))
      (fun x X => Ix x X ∧ X.heap[w.heap.size + 1]? = some (.loop (rec .done (some .ret))) ∧ X.heap[w.heap.size]? = some (.deferred (some []))) V hb
      (fun X Y h hXY => ⟨own_grow (s := ()) hI h.1 hXY, (hXY.block _ (Array.getElem?_eq_some_iff.1 h.2.1).1).trans h.2.1, (hXY.block _ (Array.getElem?_eq_some_iff.1 h.2.2).1).trans h.2.2⟩)
      (fun x X Y h hXY => ⟨own_grow hIx h.1 hXY, (hXY.block _ (Array.getElem?_eq_some_iff.1 h.2.1).1).trans h.2.1, (hXY.block _ (Array.getElem?_eq_some_iff.1 h.2.2).1).trans h.2.2⟩)
      (fun X hX => round 0 X _ hX (fun Y _ h1 h2 h3 h4 => ⟨rfl, ⟨h1, h2, h3⟩, h4⟩) (fun Y h => absurd rfl h))
      (fun x X hx hX => round x X _ hX (fun Y h => absurd h hx) (fun Y _ h1 h2 h3 => ⟨rfl, h1, h2, h3⟩)) ⟨hIV, hL, hK⟩).mono ?_
    rintro e Y ⟨⟨v, rfl⟩, (⟨hr, hi, hl, hk⟩ | ⟨hr, hi, hl, hk⟩)⟩
    · exact ⟨none, _, by have h := run_endLoop (P := P) hl (by rw [hrec]; simp); rw [hrec] at h; exact h, hdone _ _ (Nat.le_refl _) hr (hI.putObj (s := ()) _ hi (by omega) hl rfl) ((World.putObj_heap_other (by omega)).trans hk)⟩
    · exact ⟨some .ret, _, by have h := run_endLoop (P := P) hl (by rw [hrec]; simp); rw [hrec] at h; exact h, hstop _ _ (Nat.le_refl _) hr (hIx.putObj _ hi (by omega) hl rfl) ((World.putObj_heap_other (by omega)).trans hk)⟩
open Go.ChangeShapes Go.WideShapes Go.ChangeAt Go.RowKit Go.Shelf
set_option linter.unusedVariables false
set_option linter.unusedSimpArgs false
attribute [local go_sem] Oper.semAt_some
set_option maxRecDepth 100000 in
set_option maxHeartbeats 2000000 in
theorem first_told {w : World} {gf : Nat} {lb : Array Value} {r : Int} (eg : ∀ args w, (callFunc gf args).run Tryd.prog w = .ok (.enter gf args) w)
    (hT : Tells Tryd.prog gf lb r w.heap.size (w.alloc (.cells #[.int .i64 0] 27))) :
    Calls Tryd.prog 15 #[.func (.func gf) #[] lb] w fun e w' => e = .returned (.int .i64 r) ∧ Below w.heap.size w w' := by
  refine callsIn_wide.1 (callsIn_of_wp_marks (n := 0) Tryd.func15 rfl trivial ?_ rfl)
  simp only [Tryd.ntmps15, List.size_toArray, List.length_cons, List.length_nil, Nat.reduceAdd, Nat.reduceSub, Array.replicate_succ, Array.replicate_zero, List.push_toArray, List.append_toArray, List.nil_append, List.cons_append]
  gi_wp2
  have hc := new_cell' w #[.int .i64 0] 27 0 _ rfl
  have hf : (w.alloc (.cells #[.int .i64 0] 27)).frozen? ⟨w.heap.size, 0, none⟩ = false := by simp [go_sem]
  have hB0 : Below w.heap.size w (w.alloc (.cells #[.int .i64 0] 27)) := keep_alloc8 (Below.refl _ _) _
  refine wpIn_told (gf := gf) (lb := lb) rfl eg hT (by simp) rfl
    (fun W => (W.cell? ⟨w.heap.size, 0, none⟩ = some (.int .i64 0) ∧ W.frozen? ⟨w.heap.size, 0, none⟩ = false) ∧ Below w.heap.size w W)
    (fun x W => W.cell? ⟨w.heap.size, 0, none⟩ = some (.int .i64 x) ∧ Below w.heap.size w W)
    (OwnFrom.and (Own.from (fun s A B row hs hg hr => ⟨cell_kept hs.1 hg hr, (frozen_kept hs.1 hg hr).trans hs.2⟩) _) (ownFrom_below (Nat.le_refl _) (by simp)))
    (OwnFrom.and (Own.from (I := fun (x : Int) (W : World) => W.cell? ⟨w.heap.size, 0, none⟩ = some (.int .i64 x)) (fun s A B row hs hg hr => cell_kept hs hg hr) _) (ownFrom_below (Nat.le_refl _) (by simp)))
    ⟨⟨hc, hf⟩, hB0⟩
    (fun x => { tmps := #[.func (.func gf) #[] lb, undef, .pointer (some ⟨w.heap.size, 0, none⟩), .int .i64 x, .func (.func gf) #[] lb, .int .i64 x, undef, undef, undef], defers := [] }) ?assign ?body ?done ?stop
  case assign =>
    intro l x W K hK
    gi_wp2
    exact hK
  case body =>
    rintro l x W ⟨⟨hc, hf⟩, hB⟩
    by_cases hx : x = 0
    · subst hx
      gi_wp2
      exact ⟨rfl, KeepsOthers.refl _, Apart.refl _ _, ⟨hc, hf⟩, hB⟩
    · have q : (x != 0) = true := by simpa using hx
      have E : Hid (x ≠ 0) := hx
      clear hx
      gi_wp2
      exact ⟨E.out, KeepsOthers.setCell _ _ _, World.cell?_setCell_same' _ _ _ (by rw [hc]; rfl), hB.setCell (p := ⟨w.heap.size, 0, none⟩) (Nat.le_refl _) _⟩
  case done =>
    rintro D W hD rfl ⟨⟨hcr, hfr⟩, hB⟩ hK
    gi_wp2
    have hK' := (KeepsOthers.setCell W ⟨w.heap.size, 0, none⟩ (.int .i64 0)).same D _ hK rfl
    refine ⟨by simp, .inl ⟨_, _, rfl, run_takeDeferred hK', ?_⟩⟩
    have hc5 := cell_kept (World.cell?_setCell_same' W ⟨w.heap.size, 0, none⟩ (.int .i64 0) (by rw [hcr]; rfl)) (grownBy_putObj' _ D (.deferred none)) (fun r e => by cases e; exact ⟨_, hK', rfl⟩)
    refine ⟨.int .i64 0, ?_, rfl, (hB.setCell (p := ⟨w.heap.size, 0, none⟩) (Nat.le_refl _) _).trans (belowK_b (w := w) (Nat.le_refl _) _ D _ _ (by simp at hD; omega) hK' rfl rfl)⟩
    simp [results, Tryd.f15, go_sem, hc5]
  case stop =>
    rintro D W hD hr ⟨hcr, hB⟩ hK
    gi_wp2
    refine ⟨by simp, .inl ⟨_, _, rfl, run_takeDeferred hK, ?_⟩⟩
    have hc5 := cell_kept hcr (grownBy_putObj' _ D (.deferred none)) (fun r e => by cases e; exact ⟨_, hK, rfl⟩)
    refine ⟨.int .i64 r, ?_, rfl, hB.trans (belowK_b (w := w) (Nat.le_refl _) W D _ _ (by simp at hD; omega) hK rfl rfl)⟩
    simp [results, Tryd.f15, go_sem, hc5]
end Go.Proofs.YtnejpldbokodaaaDoor
