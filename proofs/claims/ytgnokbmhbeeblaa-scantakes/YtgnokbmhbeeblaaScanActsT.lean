/- Acts under Try. -/
import Derived.Test.YtgnokbmhbeeblaaScanActsC
namespace Go.Proofs.Ytgnokbmhbeeblaa
open Go.ChangeShapes Go.WideShapes Go.ChangeAt Go.RowKit
set_option linter.unusedVariables false
set_option linter.unusedSimpArgs false
/-- What Try answers of so many acts. -/
def endZ (n : Nat) (f D X : Nat → Int) (ln up : Nat) : Int := if up = ln then (if n - posA n f D X ln = 0 then 0 else 2) else errA n f D X up
theorem acts_try (w : World) (n : Nat) (f : Nat → Int) (hn : n ≤ 1000) (lb ub bb rb : Nat) (hlt : lb < w.heap.size ∧ ub < w.heap.size ∧ bb < w.heap.size ∧ rb < w.heap.size) (hne : lb ≠ rb ∧ ub ≠ rb ∧ bb ≠ rb) (la : Option Addr) (ln lc : Nat) (D X : Nat → Int)
    (hl : w.cell? ⟨lb, 0, none⟩ = some (.slice la ln lc)) (hlh : Head la ln lc) (hA : Acts w la ln D X) (hla : ln ≠ 0 → ∀ x, la = some x → x.block < w.heap.size ∧ x.block ≠ rb) (hX : ∀ i, i < ln → 0 ≤ X i ∧ X i ≤ 65535) (up : Nat) (hu : w.cell? ⟨ub, 0, none⟩ = some (.int .i64 up)) (hup : up ≤ ln)
    (ba : Option Addr) (bc : Nat) (hb : w.cell? ⟨bb, 0, none⟩ = some (.slice ba n bc)) (hbh : Head ba n bc) (hbB : Bytes w ba n f) (hba : n ≠ 0 → ∀ x, ba = some x → x.block < w.heap.size ∧ x.block ≠ rb) (hr : w.cell? ⟨rb, 0, none⟩ = some (.bool true)) (hz : w.frozen? ⟨rb, 0, none⟩ = false)
    (hgood : ∀ j, j < up → errA n f D X j = 0) (hbad : up < ln → errA n f D X up ≠ 0) (hln : ln ≤ 60) :
    Calls Try.prog 10 #[.slice ba n bc, .func (.func 11) #[] #[.pointer (some ⟨lb, 0, none⟩), .pointer (some ⟨ub, 0, none⟩), .pointer (some ⟨bb, 0, none⟩), .pointer (some ⟨rb, 0, none⟩)]] w fun e w' => e = .returned (.int .i64 (endZ n f D X ln up)) ∧ w'.cell? ⟨rb, 0, none⟩ = some (.bool true) ∧ w.grownBy w' (some rb) := by
  refine (try_st w ba n bc f hn hbh hbB 11 (enters Try.func11 (by kernel_rfl) rfl) #[.pointer (some ⟨lb, 0, none⟩), .pointer (some ⟨ub, 0, none⟩), .pointer (some ⟨bb, 0, none⟩), .pointer (some ⟨rb, 0, none⟩)] (fun W er => er = endZ n f D X ln up ∧ W.cell? ⟨rb, 0, none⟩ = some (.bool true) ∧ w.grownBy W (some rb)) ?_ ?_).mono ?_
  · rintro W W' er ⟨h1, h2, h3⟩ hB
    exact ⟨h1, cell_low h2 hB hlt.2.2.2, grown_then h3 hB⟩
  · intro W B v hW hB1 hB2 hS
    refine (acts_cl hS hB2 lb ub bb rb ⟨by omega, by omega, by omega, by omega⟩ hne la ln lc D X (cell_low hl hW hlt.1) hlh ?_ (fun h0 x e => ⟨Nat.lt_of_lt_of_le (hla h0 x e).1 hB1, (hla h0 x e).2⟩) hX up (cell_low hu hW hlt.2.1) hup ba bc (cell_low hb hW hlt.2.2.1) hbh (hbB.later hW) (fun h0 x e => ⟨Nat.lt_of_lt_of_le (hba h0 x e).1 hB1, (hba h0 x e).2⟩) (cell_low hr hW hlt.2.2.2) (frozen_low hz hW hlt.2.2.2) hgood hbad hln).mono ?_
    · exact hA.imp id fun ⟨b, off, e, hc⟩ => ⟨b, off, e, fun i hi => ⟨cell_later' (hc i hi).1 hW, cell_later' (hc i hi).2 hW⟩⟩
    · rintro e W' ⟨h1, hL, hc⟩
      have hG : w.grownBy W' (some rb) := ⟨hL.os.trans hW.os, hL.tape.trans hW.tape, hL.output.trans hW.output, Nat.le_trans hW.size hL.size, fun k hk hne => (hL.block k (by omega) (fun e => hne (by rw [e]))).trans (hW.block k hk)⟩
      have hM : Mid w.heap.size B W W' := ⟨hL.os, hL.tape, hL.output, hL.size, fun k h1 h2 => hL.block k h2 (by omega)⟩
      refine ⟨?_, hM⟩
      rcases h1 with ⟨e1, rfl, hS'⟩ | ⟨e1, rfl⟩
      · exact .inl ⟨_, _, rfl, hS', by unfold endZ; rw [if_pos e1], hc, hG⟩
      · exact .inr ⟨_, rfl, by unfold endZ; rw [if_neg (by omega)], hc, hG⟩
  · rintro e w' ⟨er, rfl, ⟨rfl, h2, h3⟩, -⟩
    exact ⟨rfl, h2, h3⟩
end Go.Proofs.Ytgnokbmhbeeblaa
