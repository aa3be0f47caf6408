/- What the code's New, Step and Same return. -/
import Derived.Test.YtcibifgbnpcpmaaDoorCpuStep
import Derived.Test.YtcibifgbnpcpmaaDoorCpuNew
import Derived.Test.YtcibifgbnpcpmaaDoorCpuSame
namespace Go.Proofs.YtcibifgbnpcpmaaDoor
open Go.ChangeShapes Go.WideShapes Go.ChangeAt Go.RowKit
set_option linter.unusedVariables false
theorem new_st (w : World) (ca : Option Addr) (cn cc : Nat) (en : Int) (da : Option Addr) (dn dc : Nat) (df : Nat → Int) (wt : Int) (mo : Nat) (a : Option Addr) (n c : Nat) (f : Nat → Int)
    (hd : dn ≤ 2000) (hm : mo ≤ 2000) (hn : n ≤ 1000) (h1 : Head da dn dc) (h2 : Head a n c) (hD : Bytes w da dn df) (hI : Bytes w a n f) :
    Calls Tryd.prog 9 #[.agg #[.slice ca cn cc, .int .i64 en, .slice da dn dc, .int .i64 wt, .int .i64 mo], .slice a n c] w fun e w' => ∃ v', e = .returned v' ∧ IsSt w' v' (newZ en dn df wt mo n f) ∧ Below w.heap.size w w' := by
  refine (new_post w ca cn cc en da dn dc df wt mo a n c f hd hm hn h1 h2 hD hI).mono ?_
  rintro e w' ⟨C', rfl, h, hb⟩
  exact ⟨_, rfl, h, hb⟩
theorem same_st {w : World} {u v : Value} {s t : St} (hu : IsSt w u s) (hv : IsSt w v t) (ls : s.bn ≤ 100000 ∧ s.mn ≤ 100000 ∧ s.inn ≤ 100000 ∧ s.on_ ≤ 100000) (lt : t.bn ≤ 100000 ∧ t.mn ≤ 100000 ∧ t.inn ≤ 100000 ∧ t.on_ ≤ 100000) :
    Calls Tryd.prog 12 #[u, v] w fun e w' => e = .returned (.bool (sameZ s t)) ∧ Below w.heap.size w w' := by
  obtain ⟨ba, bc, ma, mc, ia, ic, oa, oc, rfl, ⟨b1, b2⟩, ⟨m1, m2⟩, ⟨i1, i2⟩, o1, o2⟩ := hu
  obtain ⟨ba', bc', ma', mc', ia', ic', oa', oc', rfl, ⟨b1', b2'⟩, ⟨m1', m2'⟩, ⟨i1', i2'⟩, o1', o2'⟩ := hv
  exact csame_any w _ _ _ _ _ s.bf _ _ _ _ s.mf _ _ _ s.inf _ _ _ s.of_ _ _ _ _ _ _ _ _ t.bf _ _ _ _ t.mf _ _ _ t.inf _ _ _ t.of_ _ _ _ (by omega) (by omega) ⟨b2, m2, i2, o2⟩ ⟨b2', m2', i2', o2'⟩
end Go.Proofs.YtcibifgbnpcpmaaDoor
