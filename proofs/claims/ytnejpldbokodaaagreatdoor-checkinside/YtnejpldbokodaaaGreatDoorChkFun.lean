/- What check.Function answers. -/
import Derived.Test.YtnejpldbokodaaaGreatDoorChkTells
namespace Go.Proofs.YtnejpldbokodaaaGreatDoor
open Go.ChangeShapes Go.WideShapes Go.ChangeAt Go.RowKit Go.Shelf
set_option linter.unusedVariables false
set_option linter.unusedSimpArgs false
set_option maxRecDepth 100000 in
theorem offun_any (xn : ByteArray) (xb : Int) (vc vr : Value) (h1 : ∃ a n c, vc = .slice a n c) (h2 : ∃ a n c, vr = .slice a n c) (w : World) :
    Calls Tryz.prog 19 #[.agg #[.string xn, .int .i64 xb, vc, vr]] w fun e w' => e = .returned (.func (.func 41) #[] #[.pointer (some ⟨w.heap.size, 0, none⟩)]) ∧ w' = w.alloc (.cells #[.string xn, .int .i64 xb, vc, vr] 25) := by
  obtain ⟨a, n, c, rfl⟩ := h1
  obtain ⟨b, m, d, rfl⟩ := h2
  go_enter Tryz.func19, Tryz.ntmps19
  go_wp2
  go_ret
  exact ⟨rfl, rfl⟩
set_option maxRecDepth 100000 in
set_option maxHeartbeats 1000000 in
theorem fun_any {A : Nat → Prop} {w : World} {u : Value} {f : FuncM} (h : FuncV A w u f) (hm : f.code.length ≤ 5000) (hrm : f.rels.length ≤ 100000) (hT : Tab w) :
    Calls Tryz.prog 8 #[u] w fun e w' => e = .returned (.int .i64 (fnE f)) ∧ Below w.heap.size w w' := by
  obtain ⟨vc, vr, rfl, hw, hr, -⟩ := h
  have hw' := hw
  have hr' := hr
  obtain ⟨ca, cc, rfl, -, -, -⟩ := LstA.open hw'.1
  obtain ⟨ra, rc, rfl, -, -, -⟩ := LstA.open hr'
  have OF : Hid (∀ W, Calls Tryz.prog 19 #[.agg #[.string f.name, .int .i64 f.bind, .slice ca f.code.length cc, .slice ra f.rels.length rc]] W fun e w' => e = .returned (.func (.func 41) #[] #[.pointer (some ⟨W.heap.size, 0, none⟩)]) ∧ w' = W.alloc (.cells #[.string f.name, .int .i64 f.bind, .slice ca f.code.length cc, .slice ra f.rels.length rc] 25)) := fun W => offun_any _ _ _ _ ⟨_, _, _, rfl⟩ ⟨_, _, _, rfl⟩ W
  have eg : ∀ args w, (callFunc 41 args).run Tryz.prog w = .ok (.enter 41 args) w := enters_of Tryz.func41 (by kernel_rfl) rfl
  have FI : Hid (∀ W, Below w.heap.size w W → Calls Tryz.prog 18 #[.func (.func 41) #[] #[.pointer (some ⟨W.heap.size, 0, none⟩)]] (W.alloc (.cells #[.string f.name, .int .i64 f.bind, .slice ca f.code.length cc, .slice ra f.rels.length rc] 25)) fun e w' => e = .returned (.int .i64 (fnE f)) ∧ Below W.heap.size W w') := fun W hW => by
    refine (first_told eg (tells_fn (B := (W.alloc (.cells #[.string f.name, .int .i64 f.bind, .slice ca f.code.length cc, .slice ra f.rels.length rc] 25)).heap.size) (fb := W.heap.size) (f := f) (vc := .slice ca f.code.length cc) (vr := .slice ra f.rels.length rc) (by simp) (by simp) ⟨?_, ⟨A, w, by have := hW.size; simp; omega, hw, hr, ?_⟩, ?_⟩ hm hrm)).mono fun e w' h => ⟨h.1, bnext (keep_alloc8 (Below.refl _ _) _) h.2⟩
    · exact (XAt.new W #[.string f.name, .int .i64 f.bind, .slice ca f.code.length cc, .slice ra f.rels.length rc] 25).later (by simp) (keep_alloc8 (Below.refl _ _) _)
    · exact KC.of_below (bnext hW (keep_alloc8 (keep_alloc8 (Below.refl _ _) _) _))
    · exact hT.later (bnext hW (keep_alloc8 (keep_alloc8 (Below.refl _ _) _) _))
  have F1 := FI.out _ (keep_alloc8 (Below.refl _ w) (.cells #[.string f.name, .int .i64 f.bind, .slice ca f.code.length cc, .slice ra f.rels.length rc] 25))
  have O1 := OF.out (w.alloc (.cells #[.string f.name, .int .i64 f.bind, .slice ca f.code.length cc, .slice ra f.rels.length rc] 25))
  rw [World.size_alloc] at F1 O1
  clear FI OF
  generalize fnE f = r at F1 ⊢
  generalize f.code.length = n at *
  generalize f.rels.length = m at *
  have F2 : Hid (Calls Tryz.prog 18 #[.func (.func 41) #[] #[.pointer (some ⟨w.heap.size + 1, 0, none⟩)]] ((w.alloc (.cells #[.string f.name, .int .i64 f.bind, .slice ca n cc, .slice ra m rc] 25)).alloc (.cells #[.string f.name, .int .i64 f.bind, .slice ca n cc, .slice ra m rc] 25)) fun e w' => e = .returned (.int .i64 r) ∧ Below (w.heap.size + 1) (w.alloc (.cells #[.string f.name, .int .i64 f.bind, .slice ca n cc, .slice ra m rc] 25)) w') := F1
  have O2 : Hid (Calls Tryz.prog 19 #[.agg #[.string f.name, .int .i64 f.bind, .slice ca n cc, .slice ra m rc]] (w.alloc (.cells #[.string f.name, .int .i64 f.bind, .slice ca n cc, .slice ra m rc] 25)) fun e w' => e = .returned (.func (.func 41) #[] #[.pointer (some ⟨w.heap.size + 1, 0, none⟩)]) ∧ w' = (w.alloc (.cells #[.string f.name, .int .i64 f.bind, .slice ca n cc, .slice ra m rc] 25)).alloc (.cells #[.string f.name, .int .i64 f.bind, .slice ca n cc, .slice ra m rc] 25)) := O1
  clear hw hr hw' hr' hT F1 O1
  go_enter Tryz.func8, Tryz.ntmps8
  go_wp2_with (first
    | (go_at_call 19; refine O2.out.mono ?_; rintro e w1 ⟨rfl, rfl⟩)
    | (go_at_call 18; refine F2.out.mono ?_; rintro e w2 ⟨rfl, hb2⟩))
  go_ret
  exact ⟨rfl, (keep_alloc8 (Below.refl _ _) _).trans (hb2.mono (by omega))⟩
end Go.Proofs.YtnejpldbokodaaaGreatDoor
