/- The closure that does one act behind another. -/
import Derived.Test.YtgnokbmhbeeblaaScanDoes
import Derived.Test.YtgnokbmhbeeblaaScanAwake
namespace Go.Proofs.Ytgnokbmhbeeblaa
open Go.ChangeShapes Go.WideShapes Go.ChangeAt Go.RowKit
set_option linter.unusedVariables false
set_option linter.unusedSimpArgs false
/-- A list of acts. -/
def Acts (w : World) (a : Option Addr) (n : Nat) (D X : Nat → Int) : Prop :=
  n = 0 ∨ ∃ b off, a = some ⟨b, off, none⟩ ∧ ∀ i, i < n → w.cell? ⟨b, off + i * 2, none⟩ = some (.int .i64 (D i)) ∧ w.cell? ⟨b, off + i * 2 + 1, none⟩ = some (.int .i64 (X i))
/-- Where the j-th act stands. -/
def posA (n : Nat) (f : Nat → Int) (D X : Nat → Int) : Nat → Nat
  | 0 => 0
  | j + 1 => posA n f D X j + (takeZ (n - posA n f D X j) (fun i => f (i + posA n f D X j)) (D j) (X j)).toNat
/-- The error of the j-th act, where it stands. -/
def errA (n : Nat) (f : Nat → Int) (D X : Nat → Int) (j : Nat) : Int := errZ (n - posA n f D X j) (fun i => f (i + posA n f D X j)) (D j) (X j)
theorem pos_step {n : Nat} {f D X : Nat → Int} {j : Nat} (he : errA n f D X j = 0) : posA n f D X (j + 1) = posA n f D X j + (wantZ (fun i => f (i + posA n f D X j)) (D j) (X j)).toNat := by
  show _ + _ = _
  rw [take_ok he]
theorem pos_le {n : Nat} {f D X : Nat → Int} (j : Nat) : posA n f D X j ≤ n := by
  induction j with
  | zero => exact Nat.zero_le _
  | succ j ih =>
    by_cases he : errA n f D X j = 0
    · rw [pos_step he]
      have := err_cut he
      omega
    · show _ + (takeZ _ _ _ _).toNat ≤ _
      rw [take_bad he]
      simpa using ih
theorem err_kind {n : Nat} {f : Nat → Int} {d x : Int} (h : errZ n f d x ≠ 0) : d = 0 ∨ d = 1 ∨ d = 2 ∨ d = 3 ∨ d = 4 := by
  by_cases h0 : d = 0
  · exact .inl h0
  by_cases h1 : d = 1
  · exact .inr (.inl h1)
  by_cases h2 : d = 2
  · exact .inr (.inr (.inl h2))
  by_cases h3 : d = 3
  · exact .inr (.inr (.inr (.inl h3)))
  by_cases h4 : d = 4
  · exact .inr (.inr (.inr (.inr h4)))
  exfalso
  apply h
  unfold errZ wantZ
  rw [if_neg (by omega), if_neg h0, if_neg h1, if_neg h2, if_neg h3, if_neg h4, if_neg (by omega), if_neg (by omega)]
/-- Below B nothing is turned but the block r. -/
structure LowBut (B r : Nat) (w w' : World) : Prop where
  os : w'.os = w.os
  tape : w'.tape = w.tape
  output : w'.output = w.output
  size : w.heap.size ≤ w'.heap.size
  block : ∀ k, k < B → k ≠ r → w'.heap[k]? = w.heap[k]?
theorem LowBut.refl (B r : Nat) (w : World) : LowBut B r w w := ⟨rfl, rfl, rfl, Nat.le_refl _, fun _ _ _ => rfl⟩
theorem LowBut.below {B r : Nat} {w w1 w2 : World} (h : LowBut B r w w1) (hb : Below B w1 w2) : LowBut B r w w2 :=
  ⟨hb.os.trans h.os, hb.tape.trans h.tape, hb.output.trans h.output, Nat.le_trans h.size hb.size, fun k hk hr => (hb.block k hk).trans (h.block k hk hr)⟩
theorem LowBut.set {B r : Nat} {w w1 : World} (h : LowBut B r w w1) (o : Nat) (v : Value) : LowBut B r w (w1.setCell ⟨r, o, none⟩ v) :=
  ⟨h.os, h.tape, h.output, by simpa using h.size, fun k hk hr => (Below.heap_setCell _ _ _ _ (by simp only [ne_eq]; exact hr)).trans (h.block k hk hr)⟩
theorem LowBut.cell {B r : Nat} {w w' : World} (h : LowBut B r w w') {p : Addr} {v : Value} (hc : w.cell? p = some v) (hp : p.block < B) (hr : p.block ≠ r) : w'.cell? p = some v := (World.cell?_of_block (h.block _ hp hr)).trans hc
theorem LowBut.bytes {B r : Nat} {w w' : World} (h : LowBut B r w w') {a : Option Addr} {n : Nat} {f : Nat → Int} (hb : Bytes w a n f) (ha : n ≠ 0 → ∀ x, a = some x → x.block < B ∧ x.block ≠ r) : Bytes w' a n f := by
  by_cases h0 : n = 0
  · exact ⟨hb.1, .inl h0⟩
  · exact ⟨hb.1, hb.2.imp id fun ⟨b, off, e, hc⟩ => ⟨b, off, e, fun i hi => h.cell (hc i hi) (ha h0 _ e).1 (ha h0 _ e).2⟩⟩
theorem LowBut.acts {B r : Nat} {w w' : World} (h : LowBut B r w w') {a : Option Addr} {n : Nat} {D X : Nat → Int} (hb : Acts w a n D X) (ha : n ≠ 0 → ∀ x, a = some x → x.block < B ∧ x.block ≠ r) : Acts w' a n D X := by
  by_cases h0 : n = 0
  · exact .inl h0
  · exact hb.imp id fun ⟨b, off, e, hc⟩ => ⟨b, off, e, fun i hi => ⟨h.cell (hc i hi).1 (ha h0 _ e).1 (ha h0 _ e).2, h.cell (hc i hi).2 (ha h0 _ e).1 (ha h0 _ e).2⟩⟩
set_option maxRecDepth 100000 in
set_option maxHeartbeats 4000000 in
theorem acts_cl {B : Nat} {W : World} {v : Value} {n : Nat} {f : Nat → Int} (hS : Sc B W v n f) (hB : B ≤ W.heap.size) (lb ub bb rb : Nat) (hlt : lb < B ∧ ub < B ∧ bb < B ∧ rb < B) (hne : lb ≠ rb ∧ ub ≠ rb ∧ bb ≠ rb) (la : Option Addr) (ln lc : Nat) (D X : Nat → Int)
    (hl : W.cell? ⟨lb, 0, none⟩ = some (.slice la ln lc)) (hlh : Head la ln lc) (hA : Acts W la ln D X) (hla : ln ≠ 0 → ∀ x, la = some x → x.block < B ∧ x.block ≠ rb) (hX : ∀ i, i < ln → 0 ≤ X i ∧ X i ≤ 65535) (up : Nat) (hu : W.cell? ⟨ub, 0, none⟩ = some (.int .i64 up)) (hup : up ≤ ln)
    (ba : Option Addr) (bc : Nat) (hb : W.cell? ⟨bb, 0, none⟩ = some (.slice ba n bc)) (hbh : Head ba n bc) (hbB : Bytes W ba n f) (hba : n ≠ 0 → ∀ x, ba = some x → x.block < B ∧ x.block ≠ rb) (hr : W.cell? ⟨rb, 0, none⟩ = some (.bool true)) (hz : W.frozen? ⟨rb, 0, none⟩ = false)
    (hgood : ∀ j, j < up → errA n f D X j = 0) (hbad : up < ln → errA n f D X up ≠ 0) (hln : ln ≤ 60) :
    Calls Try.prog 11 #[v, .pointer (some ⟨lb, 0, none⟩), .pointer (some ⟨ub, 0, none⟩), .pointer (some ⟨bb, 0, none⟩), .pointer (some ⟨rb, 0, none⟩)] W fun e W' => ((up = ln ∧ e = .returned (.tuple #[]) ∧ Sc B W' v (n - posA n f D X ln) (fun i => f (i + posA n f D X ln))) ∨ (up < ln ∧ e = failE (errA n f D X up))) ∧ LowBut B rb W W' ∧ W'.cell? ⟨rb, 0, none⟩ = some (.bool true) := by
  have hn := hS.bd.2
  have HL : Hid (W.cell? ⟨lb, 0, none⟩ = some (.slice la ln lc)) := hl
  have HU : Hid (W.cell? ⟨ub, 0, none⟩ = some (.int .i64 up)) := hu
  have HBc : Hid (W.cell? ⟨bb, 0, none⟩ = some (.slice ba n bc)) := hb
  have HA : Hid (Acts W la ln D X) := hA
  have HBy : Hid (Bytes W ba n f) := hbB
  have HG : Hid (∀ j, j < up → errA n f D X j = 0) := hgood
  have HBd : Hid (up < ln → errA n f D X up ≠ 0) := hbad
  have HR : Hid (W.cell? ⟨rb, 0, none⟩ = some (.bool true)) := hr
  have HZ : Hid (W.frozen? ⟨rb, 0, none⟩ = false) := hz
  have HS : Hid (Sc B W v n f) := hS
  have HLA : Hid (ln ≠ 0 → ∀ x, la = some x → x.block < B ∧ x.block ≠ rb) := hla
  have HBA : Hid (n ≠ 0 → ∀ x, ba = some x → x.block < B ∧ x.block ≠ rb) := hba
  have HX : Hid (∀ i, i < ln → 0 ≤ X i ∧ X i ≤ 65535) := hX
  obtain ⟨g, rfl, hg⟩ := hS.ptr
  have hln' : (ln : Int) ≤ 60 := by omega
  have hn' : (n : Int) ≤ 1000 := by omega
  have hup' : (up : Int) ≤ ln := by omega
  obtain ⟨hlt1, hlt2, hlt3, hlt4⟩ := hlt
  obtain ⟨hne1, hne2, hne3⟩ := hne
  clear hl hu hb hA hbB hgood hbad hr hz hS hla hba hX
  go_enter Try.func11, Try.ntmps11
  go_upto_region 2 with fail
  go_loopw [6, 7] (fun k i wr => ∃ j : Nat, j ≤ up ∧ k = .int .i64 (posA n f D X j) ∧ i = .int .i64 j ∧ Sc B wr (.pointer (some ⟨g, 0, none⟩)) (n - posA n f D X j) (fun i => f (i + posA n f D X j)) ∧ LowBut B rb W wr ∧ wr.cell? ⟨rb, 0, none⟩ = some (.bool true) ∧ wr.frozen? ⟨rb, 0, none⟩ = false ∧ B ≤ wr.heap.size) (fun _ i _ => ln - (intOf i).toNat)
  case atStart => exact ⟨0, Nat.zero_le _, rfl, rfl, HS.out, LowBut.refl _ _ _, HR.out, HZ.out, hB⟩
  case round =>
    obtain ⟨j, hj, rfl, rfl, hSj, hLw, hrc, hrz, hBr⟩ := hrel
    have SJ : Hid (Sc B wr (.pointer (some ⟨g, 0, none⟩)) (n - posA n f D X j) (fun i => f (i + posA n f D X j))) := hSj
    have LW : Hid (LowBut B rb W wr) := hLw
    have RC : Hid (wr.cell? ⟨rb, 0, none⟩ = some (.bool true)) := hrc
    have RZ : Hid (wr.frozen? ⟨rb, 0, none⟩ = false) := hrz
    have cl : wr.cell? ⟨lb, 0, none⟩ = some (.slice la ln lc) := LW.out.cell HL.out hlt1 hne1
    have cu : wr.cell? ⟨ub, 0, none⟩ = some (.int .i64 up) := LW.out.cell HU.out hlt2 hne2
    have cb : wr.cell? ⟨bb, 0, none⟩ = some (.slice ba n bc) := LW.out.cell HBc.out hlt3 hne3
    have hp := pos_le (n := n) (f := f) (D := D) (X := X) j
    obtain ⟨p, ep⟩ : ∃ p, posA n f D X j = p := ⟨_, rfl⟩
    have EP : Hid (posA n f D X j = p) := ep
    rw [ep] at SJ hp ⊢
    clear hSj hLw hrc hrz ep
    by_cases h1 : j < ln
    · obtain h0 | ⟨ab, ao, rfl, hac⟩ := LW.out.acts HA.out HLA.out
      · omega
      obtain ⟨ca, cx⟩ := hac j h1
      have hab := HLA.out (by omega) _ rfl
      have hx := HX.out j h1
      have h1' : (j : Int) < ln := by omega
      have h0' : (0 : Int) ≤ j := by omega
      clear hac
      by_cases h2 : j < up
      · have h2' : (j : Int) < up := by omega
        have hE : errZ (n - p) (fun i => f (i + p)) (D j) (X j) = 0 := by have := HG.out j h2; unfold errA at this; rwa [EP.out] at this
        have KS : Hid (∀ W' : World, Below B wr W' → (fun W' => W'.cell? ⟨lb, 0, none⟩ = some (.slice (some ⟨ab, ao, none⟩) ln lc) ∧ W'.cell? ⟨bb, 0, none⟩ = some (.slice ba n bc) ∧ W'.cell? ⟨ab, ao + j * 2, none⟩ = some (.int .i64 (D j)) ∧ W'.cell? ⟨ab, ao + j * 2 + 1, none⟩ = some (.int .i64 (X j)) ∧ W'.cell? ⟨rb, 0, none⟩ = some (.bool true) ∧ W'.frozen? ⟨rb, 0, none⟩ = false ∧ (Instr.slice 22 (.slice ba n bc) (some (.int .i64 (p : Int))) none none).run Try.prog W' = .ok (.slice (fromA ba bc p) (n - p) (bc - p)) W') W') := fun W' hW => ⟨cell_low cl hW hlt1, cell_low cb hW hlt3, cell_low ca hW hab.1, cell_low cx hW hab.1, cell_low RC.out hW hlt4, frozen_low RZ.out hW hlt4, slice_rest W' ba n bc p hp hbh.1⟩
        have KT : Hid (∀ W' : World, Below B wr W' → (fun W' => W'.cell? ⟨lb, 0, none⟩ = some (.slice (some ⟨ab, ao, none⟩) ln lc) ∧ W'.cell? ⟨bb, 0, none⟩ = some (.slice ba n bc) ∧ W'.cell? ⟨ab, ao + j * 2, none⟩ = some (.int .i64 (D j)) ∧ W'.cell? ⟨ab, ao + j * 2 + 1, none⟩ = some (.int .i64 (X j)) ∧ W'.cell? ⟨rb, 0, none⟩ = some (.bool true) ∧ W'.frozen? ⟨rb, 0, none⟩ = false ∧ (Instr.slice 22 (.slice ba n bc) (some (.int .i64 (p : Int))) none none).run Try.prog W' = .ok (.slice (fromA ba bc p) (n - p) (bc - p)) W') (W'.setCell ⟨rb, 0, none⟩ (.bool true))) := fun W' hW => by
          have far : ∀ b o v, b ≠ rb → wr.cell? ⟨b, o, none⟩ = some v → b < B → (W'.setCell ⟨rb, 0, none⟩ (.bool true)).cell? ⟨b, o, none⟩ = some v := fun b o v hb h hB => by
            rw [World.cell?_setCell_other _ _ _ _ (fun e => hb (congrArg Addr.block e).symm)]; exact cell_low h hW hB
          exact ⟨far _ _ _ hne1 cl hlt1, far _ _ _ hne3 cb hlt3, far _ _ _ hab.2 ca hab.1, far _ _ _ hab.2 cx hab.1, World.cell?_setCell_same _ _ _ (cell_low RC.out hW hlt4), by simpa using frozen_low RZ.out hW hlt4, slice_rest _ ba n bc p hp hbh.1⟩
        have DO : Hid (∀ W', Below wr.heap.size wr W' → Calls Try.prog 12 #[.pointer (some ⟨g, 0, none⟩), .slice (fromA ba bc p) (n - p) (bc - p), .agg #[.int .i64 (D j), .int .i64 (X j)]] W' fun e w' => e = .returned (.bool true) ∧ Sc B w' (.pointer (some ⟨g, 0, none⟩)) (n - p - (wantZ (fun i => f (i + p)) (D j) (X j)).toNat) (fun i => f (i + (wantZ (fun i => f (i + p)) (D j) (X j)).toNat + p)) ∧ Below B W' w') := fun W' hW => by
          obtain ⟨O, hO, hSO⟩ := SJ.out
          refine (does_any (hSO.later hW) (fromA ba bc p) (bc - p) (fromA_head hbh hp) (fromA_bytes ((LW.out.bytes HBy.out HBA.out).later hW) hbh hp) (fun hnp x e => ?_) (D j) (X j) hx hE).mono ?_
          · obtain ⟨y, e1, e2⟩ := fromA_block e
            intro h
            have := hO _ h
            have := (HBA.out (by omega) y e1).1
            omega
          · rintro e w' ⟨h1, ⟨O', h2, h3⟩, h4⟩
            refine ⟨h1, ⟨O', fun k hk => ?_, h3⟩, h4.low hO (Nat.le_trans hBr hW.size)⟩
            rcases h2 k hk with h | h
            · exact hO k h
            · exact Nat.le_trans hBr (Nat.le_trans hW.size h)
        go_upto_region 5 with fail
        have hE' : Hid (errZ (n - p) (fun i => f (i + p)) (D j) (X j) = 0) := hE
        have ST : Hid (∀ W', LowBut B rb W W' → Calls Try.prog 9 #[.slice (fromA ba bc p) (n - p) (bc - p), .agg #[.int .i64 (D j), .int .i64 (X j)]] W' fun e w' => e = .returned (.tuple #[.int .i64 (wantZ (fun i => f (i + p)) (D j) (X j)), .int .i64 0]) ∧ Below W'.heap.size W' w') := fun W' hW => by
          have h := rstep_any W' (fromA ba bc p) (n - p) (bc - p) (fun i => f (i + p)) (D j) (X j) (by omega) (fromA_head hbh hp) (fromA_bytes (hW.bytes HBy.out HBA.out) hbh hp) hx
          rwa [take_ok hE, hE] at h
        have WB : Hid (0 ≤ wantZ (fun i => f (i + p)) (D j) (X j) ∧ wantZ (fun i => f (i + p)) (D j) (X j) ≤ 65535) := want_bd (fun i => HBy.out.1 _) _ _ hx
        have HP : Hid (p ≤ n) := hp
        have hp' : (p : Int) ≤ n := by omega
        have hp0 : (0 : Int) ≤ p := by omega
        clear hE cl cb ca cx hx
        go_region_held3 (fun W' => W'.cell? ⟨lb, 0, none⟩ = some (.slice (some ⟨ab, ao, none⟩) ln lc) ∧ W'.cell? ⟨bb, 0, none⟩ = some (.slice ba n bc) ∧ W'.cell? ⟨ab, ao + j * 2, none⟩ = some (.int .i64 (D j)) ∧ W'.cell? ⟨ab, ao + j * 2 + 1, none⟩ = some (.int .i64 (X j)) ∧ W'.cell? ⟨rb, 0, none⟩ = some (.bool true) ∧ W'.frozen? ⟨rb, 0, none⟩ = false ∧ (Instr.slice 22 (.slice ba n bc) (some (.int .i64 (p : Int))) none none).run Try.prog W' = .ok (.slice (fromA ba bc p) (n - p) (bc - p)) W')
          (first
          | exact KS.out _ (Below.refl _ _)
          | exact KS.out _ (Below.refl _ _).drew
          | exact KS.out _ hbD
          | exact KT.out _ hbD)
          (first
          | (go_at_call 12; refine (DO.out _ (by first | exact Below.refl _ _ | exact (Below.refl _ _).drew)).mono ?_; rintro e w5 ⟨rfl, hS5, hb5⟩; have hbD : Below B wr w5 := (by first | exact (Below.refl B wr).trans hb5 | exact (Below.refl B wr).drew.trans hb5)))
        all_goals
          have k6 := KT.out _ hbD
          have S6 : Hid (Sc B (w5.setCell ⟨rb, 0, none⟩ (.bool true)) (.pointer (some ⟨g, 0, none⟩)) (n - p - (wantZ (fun i => f (i + p)) (D j) (X j)).toNat) (fun i => f (i + (wantZ (fun i => f (i + p)) (D j) (X j)).toNat + p))) := hS5.low hlt4 (grown_set' (Below.refl _ _) _ _)
          have L6 : Hid (LowBut B rb W (w5.setCell ⟨rb, 0, none⟩ (.bool true))) := (LW.out.below hbD).set _ _
          have Z6 : Hid (B ≤ (w5.setCell ⟨rb, 0, none⟩ (.bool true)).heap.size) := by have := hbD.size; show _ ≤ _; simp; omega
          clear hS5 hb5 hbD
          generalize w5.setCell ⟨rb, 0, none⟩ (.bool true) = w6 at k6 S6 L6 Z6 ⊢
          have K6 : Hid ((fun W' => W'.cell? ⟨lb, 0, none⟩ = some (.slice (some ⟨ab, ao, none⟩) ln lc) ∧ W'.cell? ⟨bb, 0, none⟩ = some (.slice ba n bc) ∧ W'.cell? ⟨ab, ao + j * 2, none⟩ = some (.int .i64 (D j)) ∧ W'.cell? ⟨ab, ao + j * 2 + 1, none⟩ = some (.int .i64 (X j)) ∧ (Instr.slice 22 (.slice ba n bc) (some (.int .i64 (p : Int))) none none).run Try.prog W' = .ok (.slice (fromA ba bc p) (n - p) (bc - p)) W') w6 ∧ w6.cell? ⟨rb, 0, none⟩ = some (.bool true) ∧ w6.frozen? ⟨rb, 0, none⟩ = false) := ⟨⟨k6.1, k6.2.1, k6.2.2.1, k6.2.2.2.1, k6.2.2.2.2.2.2⟩, k6.2.2.2.2.1, k6.2.2.2.2.2.1⟩
          clear k6
          go_upto_region 6 with fail
          have K7 : Hid (∀ W', Below w6.heap.size w6 W' → (fun W' => W'.cell? ⟨lb, 0, none⟩ = some (.slice (some ⟨ab, ao, none⟩) ln lc) ∧ W'.cell? ⟨bb, 0, none⟩ = some (.slice ba n bc) ∧ W'.cell? ⟨ab, ao + j * 2, none⟩ = some (.int .i64 (D j)) ∧ W'.cell? ⟨ab, ao + j * 2 + 1, none⟩ = some (.int .i64 (X j)) ∧ (Instr.slice 22 (.slice ba n bc) (some (.int .i64 (p : Int))) none none).run Try.prog W' = .ok (.slice (fromA ba bc p) (n - p) (bc - p)) W') W') := fun W' hW => ⟨cell_later' K6.out.1.1 hW, cell_later' K6.out.1.2.1 hW, cell_later' K6.out.1.2.2.1 hW, cell_later' K6.out.1.2.2.2.1 hW, slice_rest W' ba n bc p HP.out hbh.1⟩
          go_region_held3 (fun W' => W'.cell? ⟨lb, 0, none⟩ = some (.slice (some ⟨ab, ao, none⟩) ln lc) ∧ W'.cell? ⟨bb, 0, none⟩ = some (.slice ba n bc) ∧ W'.cell? ⟨ab, ao + j * 2, none⟩ = some (.int .i64 (D j)) ∧ W'.cell? ⟨ab, ao + j * 2 + 1, none⟩ = some (.int .i64 (X j)) ∧ (Instr.slice 22 (.slice ba n bc) (some (.int .i64 (p : Int))) none none).run Try.prog W' = .ok (.slice (fromA ba bc p) (n - p) (bc - p)) W')
            (first
            | exact K7.out _ (Below.refl _ _)
            | exact K7.out _ (Below.refl _ _).drew
            | exact K7.out _ hbE)
            (first
            | (go_at_call 9; refine (ST.out _ (by first | exact L6.out | exact L6.out.below (Below.refl _ _).drew)).mono ?_; rintro e w7 ⟨rfl, hb7⟩; have hbE : Below w6.heap.size w6 w7 := (by first | exact hb7 | exact (Below.refl _ _).drew.trans hb7)))
          all_goals
            have WBo := WB.out
            have e1 := pos_step (n := n) (f := f) (D := D) (X := X) (j := j) (by unfold errA; rw [EP.out]; exact hE'.out)
            rw [EP.out] at e1
            obtain ⟨q, eq⟩ := Int.eq_ofNat_of_zero_le WBo.1
            have hkn := err_cut hE'.out
            rw [eq] at WBo hkn e1 ⊢
            rw [Int.toNat_natCast] at e1
            have S7 : Hid (Sc B w7 (.pointer (some ⟨g, 0, none⟩)) (n - posA n f D X (j + 1)) (fun i => f (i + posA n f D X (j + 1)))) := by
              have h := S6.out.later hbE
              rw [eq, Int.toNat_natCast] at h
              rw [e1, show n - (p + q) = n - p - q from by omega]
              have e3 : (fun i => f (i + (p + q))) = fun i => f (i + q + p) := by funext i; rw [show i + (p + q) = i + q + p from by omega]
              rw [e3]; exact h
            have EN : Hid (posA n f D X (j + 1) = p + q) := e1
            have hq : (q : Int) ≤ 65535 := WBo.2
            have hpq : (p : Int) + q ≤ n := by omega
            clear WBo e1 eq hkn DO ST
            go_wp2_with fail
            go_roundw
            case rel => exact ⟨j + 1, by omega, by rw [EN.out]; go_num, by go_num, S7.out, L6.out.below (hbE.mono Z6.out), cell_later' K6.out.2.1 hbE, frozen_low K6.out.2.2 (hbE.mono Z6.out) hlt4, Nat.le_trans Z6.out hbE.size⟩
            case measure => simp [intOf]; omega
      · obtain rfl : j = up := by omega
        have HE : Hid (errZ (n - p) (fun i => f (i + p)) (D j) (X j) ≠ 0) := by have := HBd.out h1; unfold errA at this; rwa [EP.out] at this
        have EA : Hid (errA n f D X j = errZ (n - p) (fun i => f (i + p)) (D j) (X j)) := by show _ = _; unfold errA; rw [EP.out]
        obtain ⟨hx0, hx1⟩ := hx
        rcases err_kind HE.out with hd | hd | hd | hd | hd
        · rw [hd] at ca HE EA
          have MC : Hid (Calls Try.prog 13 _ wr _) := number_sc SJ.out hBr (X j) hx0 hx1
          go_wp2_with (go_at_call 13; refine MC.out.mono ?_; rintro e w5 hp5; obtain ⟨rfl, hb5⟩ := hp5.bad HE.out)
          exact ⟨rfl, .inr ⟨h1, by rw [EA.out]; rfl⟩, LW.out.below hb5, cell_low RC.out hb5 hlt4⟩
        · rw [hd] at ca HE EA
          have MC : Hid (Calls Try.prog 14 _ wr _) := bytes_sc SJ.out hBr (X j) hx0 hx1
          go_wp2_with (go_at_call 14; refine MC.out.mono ?_; rintro e w5 ⟨a5, c5, hp5, -⟩; obtain ⟨rfl, hb5⟩ := hp5.bad HE.out)
          exact ⟨rfl, .inr ⟨h1, by rw [EA.out]; rfl⟩, LW.out.below hb5, cell_low RC.out hb5 hlt4⟩
        · rw [hd] at ca HE EA
          have MC : Hid (Calls Try.prog 15 _ wr _) := name_sc SJ.out hBr (X j)
          go_wp2_with (go_at_call 15; refine MC.out.mono ?_; rintro e w5 hp5; obtain ⟨rfl, hb5⟩ := hp5.bad HE.out)
          exact ⟨rfl, .inr ⟨h1, by rw [EA.out]; rfl⟩, LW.out.below hb5, cell_low RC.out hb5 hlt4⟩
        · rw [hd] at ca HE EA
          have MC : Hid (Calls Try.prog 16 _ wr _) := float_sc SJ.out hBr (X j)
          go_wp2_with (go_at_call 16; refine MC.out.mono ?_; rintro e w5 hp5; obtain ⟨rfl, hb5⟩ := hp5.bad HE.out)
          exact ⟨rfl, .inr ⟨h1, by rw [EA.out]; rfl⟩, LW.out.below hb5, cell_low RC.out hb5 hlt4⟩
        · rw [hd] at ca HE EA
          have MC : Hid (Calls Try.prog 17 _ wr _) := count_sc SJ.out hBr (X j) hx0 hx1
          go_wp2_with (go_at_call 17; refine MC.out.mono ?_; rintro e w5 hp5; obtain ⟨rfl, hb5⟩ := hp5.bad HE.out)
          exact ⟨rfl, .inr ⟨h1, by rw [EA.out]; rfl⟩, LW.out.below hb5, cell_low RC.out hb5 hlt4⟩
    · obtain rfl : j = ln := by omega
      have EU : Hid (up = j) := by show _ = _; omega
      go_wp2
      go_end0
      exact ⟨.inl ⟨EU.out, rfl, by rw [EP.out]; exact SJ.out⟩, LW.out, RC.out⟩
end Go.Proofs.Ytgnokbmhbeeblaa
