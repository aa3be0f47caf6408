/- An act, done: what it answers is right. -/
import Derived.Test.YtgnokbmhbeeblaaScanLow
import Derived.Test.YtgnokbmhbeeblaaScanStep
namespace Go.Proofs.Ytgnokbmhbeeblaa
open Go.ChangeShapes Go.WideShapes Go.ChangeAt Go.RowKit
set_option linter.unusedVariables false
set_option linter.unusedSimpArgs false
/-- What an act that is done leaves. -/
def DoesPost (O : Nat → Prop) (w : World) (v : Value) (n : Nat) (f : Nat → Int) (d x : Int) (e : Ending) (w' : World) : Prop :=
  e = .returned (.bool true) ∧ (∃ O', (∀ k, O' k → O k ∨ w.heap.size ≤ k) ∧ ScO O' w' v (n - (wantZ f d x).toNat) (fun i => f (i + (wantZ f d x).toNat))) ∧ Apart O w w'
theorem ScO.more {O O' : Nat → Prop} {w : World} {v : Value} {n : Nat} {f : Nat → Int} (h : ScO O w v n f) (h1 : ∀ k, O k → O' k) (h2 : ∀ k, O' k → k < w.heap.size) : ScO O' w v n f := by
  obtain ⟨g, a, c, e, ⟨q1, q2⟩, h4, h7, h8⟩ := h
  exact ⟨g, a, c, e, ⟨h1 g q1, h2⟩, h4, fun x e => ⟨h1 _ (h7 x e).1, (h7 x e).2⟩, h8⟩
theorem does_end {O : Nat → Prop} {w w0 w5 w6 : World} {v : Value} {k : Nat} {F : Nat → Int} (h0 : Below w.heap.size w w0) (h : ∃ O', (∀ k, O' k → O k ∨ w0.heap.size ≤ k) ∧ ScO O' w5 v k F) (hb : Below w5.heap.size w5 w6) :
    ∃ O', (∀ k, O' k → O k ∨ w.heap.size ≤ k) ∧ ScO O' w6 v k F := by
  obtain ⟨O', h1, h2⟩ := h
  exact ⟨O', fun k hk => (h1 k hk).imp id fun h => Nat.le_trans h0.size h, h2.later hb⟩
/-- The document's number of a list's first bytes. -/
theorem rget_row {w : World} {a : Option Addr} {n m : Nat} {f : Nat → Int} (h : Bytes w a n f) (k : Nat) (hk : 1 ≤ k) (hn : k ≤ n) (k4 : k ≤ 4) :
    Calls Try.prog 37 #[.slice a k m] w fun e w' => e = .returned (.int .u32 (sumZ f k)) ∧ Below w.heap.size w w' := by
  obtain ⟨hf, h0 | ⟨b, off, rfl, hc⟩⟩ := h
  · omega
  · have h := rget_any w b off k m f (by omega) (fun i hi _ => hc i (by omega)) hf
    rwa [Nat.min_eq_left k4] at h
set_option maxRecDepth 100000 in
set_option maxHeartbeats 2000000 in
theorem does_0 {O : Nat → Prop} {w : World} {v : Value} {n : Nat} {f : Nat → Int} (hS : ScO O w v n f) (a : Option Addr) (m : Nat) (hh : Head a n m) (hb : Bytes w a n f) (hr : n ≠ 0 → ∀ x, a = some x → ¬ O x.block) (x : Int) (hx : 0 ≤ x ∧ x ≤ 65535) (he : errZ n f 0 x = 0) :
    Calls Try.prog 12 #[v, .slice a n m, .agg #[.int .i64 0, .int .i64 x]] w (DoesPost O w v n f 0 x) := by
  have hbd := hS.bd
  obtain ⟨x0, x1⟩ := hx
  have hK : 1 ≤ (1 + x % 4).toNat ∧ (1 + x % 4).toNat ≤ 4 ∧ ((1 + x % 4).toNat : Int) = 1 + x % 4 := by omega
  have hkn : (1 + x % 4).toNat ≤ n := by
    have h := he
    unfold errZ at h
    rw [if_neg (by omega)] at h
    by_cases hlt : (n : Int) < wantZ f 0 x
    · rw [if_pos hlt] at h; cases h
    · have : wantZ f 0 x = 1 + x % 4 := rfl
      omega
  have q := sum_bd f hbd.1 (1 + x % 4).toNat
  have q1 : sumZ f (1 + x % 4).toNat < 4294967296 := by
    have := q.2
    have h4 : (256 : Int) ^ (1 + x % 4).toNat ≤ 256 ^ 4 := by
      rcases (by omega : (1 + x % 4).toNat = 1 ∨ (1 + x % 4).toNat = 2 ∨ (1 + x % 4).toNat = 3 ∨ (1 + x % 4).toNat = 4) with e | e | e | e <;> rw [e] <;> decide
    have h5 : (256 : Int) ^ 4 = 4294967296 := by decide
    omega
  have q0 := q.1
  have NM : Hid (∀ W, Below w.heap.size w W → Calls Try.prog 13 #[v, .int .i64 (1 + x % 4)] W (ActO O W v n f 0 x (.int .i64 (sumZ f (1 + x % 4).toNat)))) := fun W hW => number_so (hS.later hW) x x0 x1
  have GT : Hid (∀ W, Bytes W a n f → Calls Try.prog 37 #[.slice a (1 + x % 4).toNat m] W fun e w' => e = .returned (.int .u32 (sumZ f (1 + x % 4).toNat)) ∧ Below W.heap.size W w') := fun W hW => rget_row hW _ hK.1 hkn hK.2.1
  have HB : Hid (Bytes w a n f ∧ (n ≠ 0 → ∀ x, a = some x → ¬ O x.block)) := ⟨hb, hr⟩
  have HE : Hid (errZ n f 0 x = 0) := he
  obtain ⟨g, rfl, hg⟩ := hS.ptr
  have HM := hh.1
  have kc : (1 : Int) + x % 4 ≤ m := by omega
  have kn : (1 : Int) + x % 4 ≤ n := by omega
  have kz : (0 : Int) ≤ 1 + x % 4 := by omega
  have kt : (1 + x % 4).toNat ≤ m := by omega
  clear hS hb hr he q hbd
  generalize sumZ f (1 + x % 4).toNat = y at *
  go_enter Try.func12, Try.ntmps12
  go_upto_region 4 with fail
  have B0 : Hid (Below w.heap.size w (w.alloc (.cells #[.int .i64 0, .int .i64 x] 26))) := (Below.refl _ _).alloc (Nat.le_refl _) _
  generalize w.alloc (.cells #[.int .i64 0, .int .i64 x] 26) = w0 at B0 ⊢
  go_region_held3 (fun W => Apart O w W)
    (first
    | exact Apart.of_below B0.out.drew
    | exact Apart.of_below B0.out
    | exact hA6
    | exact hA5')
    (first
    | (go_at_call 37; refine (GT.out _ (Apart.bytes hA5' HB.out.1 HB.out.2)).mono ?_; rintro e w6 ⟨rfl, hb6⟩; have hA6 : Apart O w w6 := hA5'.trans (Apart.of_below (O := fun _ => False) hb6) (fun _ h => h.elim))
    | (go_at_call 13; refine (NM.out _ (by first | exact B0.out.drew | exact B0.out)).mono ?_; rintro e w5 hp5; obtain ⟨rfl, hS5, hA5⟩ := hp5.ok HE.out; have hA5' : Apart O w w5 := (Apart.of_below (O := O) (by first | exact B0.out.drew | exact B0.out)).trans hA5 (fun _ h => .inl h)))
  all_goals go_wp2_with fail
  all_goals
    go_ret
    exact ⟨ret_bool (by rw [wrap_small q0 q1]; simp), does_end (by first | exact B0.out.drew | exact B0.out) hS5 hb6, hA6⟩
set_option maxRecDepth 100000 in
set_option maxHeartbeats 2000000 in
theorem does_other {O : Nat → Prop} {w : World} {v : Value} {n : Nat} {f : Nat → Int} (hS : ScO O w v n f) (a : Option Addr) (m : Nat) (d x : Int) (h0 : ¬ d = 0) (h1 : ¬ d = 1) (h2 : ¬ d = 2) (h3 : ¬ d = 3) (h4 : ¬ d = 4) :
    Calls Try.prog 12 #[v, .slice a n m, .agg #[.int .i64 d, .int .i64 x]] w (DoesPost O w v n f d x) := by
  have e : wantZ f d x = 0 := by unfold wantZ; rw [if_neg h0, if_neg h1, if_neg h2, if_neg h3, if_neg h4]
  have LF : Hid (∀ W, Below w.heap.size w W → Calls Try.prog 28 #[v] W fun e w' => e = .returned (.int .i64 n) ∧ Below W.heap.size W w') := fun W hW => left_so (hS.later hW)
  have HS : Hid (ScO O w v n f) := hS
  obtain ⟨g, rfl, hg⟩ := hS.ptr
  have HE : Hid (wantZ f d x = 0) := e
  have hn : (n : Int) ≤ 1000 := by have := hS.bd.2; omega
  clear hS e
  go_enter Try.func12, Try.ntmps12
  go_upto_region 13 with fail
  have B0 : Hid (Below w.heap.size w (w.alloc (.cells #[.int .i64 d, .int .i64 x] 26))) := (Below.refl _ _).alloc (Nat.le_refl _) _
  generalize w.alloc (.cells #[.int .i64 d, .int .i64 x] 26) = w0 at B0 ⊢
  go_wp2_with (go_at_call 28; refine (LF.out _ B0.out).mono ?_; rintro e w6 ⟨rfl, hb6⟩)
  go_ret
  have hb : Below w.heap.size w w6 := bnext B0.out hb6
  refine ⟨ret_bool (by simp), ⟨O, fun k h => .inl h, ?_⟩, Apart.of_below hb⟩
  rw [HE.out]
  exact HS.out.later hb
theorem err_cut {n : Nat} {f : Nat → Int} {d x : Int} (he : errZ n f d x = 0) : wantZ f d x ≤ n := by
  unfold errZ at he
  by_cases h1 : d = 2 ∧ n = 0
  · rw [if_pos h1] at he; cases he
  · rw [if_neg h1] at he
    by_cases h2 : (n : Int) < wantZ f d x
    · rw [if_pos h2] at he; cases he
    · omega
theorem eqB_same (n : Nat) (f : Nat → Int) : eqB n n f f = true := by unfold eqB; simp
set_option maxRecDepth 100000 in
set_option maxHeartbeats 2000000 in
theorem does_1 {O : Nat → Prop} {w : World} {v : Value} {n : Nat} {f : Nat → Int} (hS : ScO O w v n f) (a : Option Addr) (m : Nat) (hh : Head a n m) (hb : Bytes w a n f) (hr : n ≠ 0 → ∀ x, a = some x → ¬ O x.block) (x : Int) (hx : 0 ≤ x ∧ x ≤ 65535) (he : errZ n f 1 x = 0) :
    Calls Try.prog 12 #[v, .slice a n m, .agg #[.int .i64 1, .int .i64 x]] w (DoesPost O w v n f 1 x) := by
  have hbd := hS.bd
  obtain ⟨x0, x1⟩ := hx
  obtain ⟨k, rfl⟩ := Int.eq_ofNat_of_zero_le x0
  have hkn : k ≤ n := by have h := err_cut he; have : wantZ f 1 k = k := rfl; omega
  have BY : Hid (∀ W, Below w.heap.size w W → Calls Try.prog 14 #[v, .int .i64 k] W fun e w' => ∃ a c, ActO O W v n f 1 k (.slice a k c) e w' ∧ (errZ n f 1 k = 0 → w'.ownsRow W.heap.size 5 1 (.slice a k c) k (cellsK .u8 k f))) := fun W hW => by
    have h := bytes_so (hS.later hW) k x0 x1
    rwa [Int.toNat_natCast] at h
  have SM : Hid (∀ W a1 c1, Bytes W a1 k f → Bytes W a n f → Calls Try.prog 20 #[.slice a1 k c1, .slice a k m] W fun e w' => e = .returned (.bool true) ∧ Below W.heap.size W w') := fun W a1 c1 h1 h2 => by
    have h := bytes_eq W a1 a k k c1 m f f (by omega) (by omega) h1 ⟨h2.1, by obtain h0 | ⟨b, off, e, hc⟩ := h2.2; exact .inl (by omega); exact .inr ⟨b, off, e, fun i hi => hc i (by omega)⟩⟩
    rwa [eqB_same] at h
  have HB : Hid (Bytes w a n f ∧ (n ≠ 0 → ∀ x, a = some x → ¬ O x.block)) := ⟨hb, hr⟩
  have HF : Hid (∀ i, 0 ≤ f i ∧ f i < 256) := hbd.1
  have HE : Hid (errZ n f 1 k = 0) := he
  have HO : Hid (¬ O w.heap.size) := fun h => Nat.lt_irrefl _ (hS.lt _ h)
  obtain ⟨g, rfl, hg⟩ := hS.ptr
  have kc : (k : Int) ≤ m := by have := hh.1; omega
  clear hS hb hr he hbd
  go_enter Try.func12, Try.ntmps12
  go_upto_region 6 with fail
  have B0 : Hid (Below w.heap.size w (w.alloc (.cells #[.int .i64 1, .int .i64 k] 26))) := (Below.refl _ _).alloc (Nat.le_refl _) _
  have G1 : Hid ((w.alloc (.cells #[.int .i64 1, .int .i64 k] 26)).cell? ⟨w.heap.size, 1, none⟩ = some (.int .i64 k)) := new_cell' w _ _ 1 _ rfl
  generalize w.alloc (.cells #[.int .i64 1, .int .i64 k] 26) = w0 at B0 G1 ⊢
  go_region_held3 (fun W => Apart O w W ∧ W.cell? ⟨w.heap.size, 1, none⟩ = some (.int .i64 k))
    (first
    | exact ⟨Apart.of_below B0.out.drew, G1.out⟩
    | exact ⟨Apart.of_below B0.out, G1.out⟩
    | exact ⟨hA6, cell_later' c5 hb6⟩
    | exact ⟨hA5', c5⟩)
    (first
    | (go_at_call 20; refine (SM.out _ _ _ (own_bytes (hw5 HE.out) HF.out).2 (Apart.bytes hA5' HB.out.1 HB.out.2)).mono ?_; rintro e w6 ⟨rfl, hb6⟩; have hA6 : Apart O w w6 := hA5'.trans (Apart.of_below (O := fun _ => False) hb6) (fun _ h => h.elim))
    | (go_at_call 14; refine (BY.out _ (by first | exact B0.out.drew | exact B0.out)).mono ?_; rintro e w5 ⟨a5, c5', hp5, hw5⟩; obtain ⟨rfl, hS5, hA5⟩ := hp5.ok HE.out; have c5 : w5.cell? ⟨w.heap.size, 1, none⟩ = some (.int .i64 k) := hA5.cell (p := ⟨w.heap.size, 1, none⟩) G1.out HO.out; have hA5' : Apart O w w5 := (Apart.of_below (O := O) (by first | exact B0.out.drew | exact B0.out)).trans hA5 (fun _ h => .inl h)))
  all_goals go_wp2_with fail
  all_goals
    go_ret
    exact ⟨ret_bool rfl, does_end (by first | exact B0.out.drew | exact B0.out) hS5 hb6, hA6⟩
set_option maxRecDepth 100000 in
set_option maxHeartbeats 2000000 in
theorem does_4 {O : Nat → Prop} {w : World} {v : Value} {n : Nat} {f : Nat → Int} (hS : ScO O w v n f) (a : Option Addr) (m : Nat) (hh : Head a n m) (hb : Bytes w a n f) (hr : n ≠ 0 → ∀ x, a = some x → ¬ O x.block) (x : Int) (hx : 0 ≤ x ∧ x ≤ 65535) (he : errZ n f 4 x = 0) :
    Calls Try.prog 12 #[v, .slice a n m, .agg #[.int .i64 4, .int .i64 x]] w (DoesPost O w v n f 4 x) := by
  obtain ⟨x0, x1⟩ := hx
  have hkn : 2 ≤ n := by have h := err_cut he; have : wantZ f 4 x = 2 := rfl; omega
  have CT : Hid (∀ W, Below w.heap.size w W → Calls Try.prog 17 #[v, .int .i64 x] W (ActO O W v n f 4 x (.int .i64 (f 0 + 256 * f 1)))) := fun W hW => count_so (hS.later hW) x x0 x1
  have HE : Hid (errZ n f 4 x = 0) := he
  have HO : Hid (¬ O w.heap.size) := fun h => Nat.lt_irrefl _ (hS.lt _ h)
  obtain ⟨hf, h0 | ⟨b, off, rfl, hc⟩⟩ := hb
  · omega
  have c0 := hc 0 (by omega)
  have c1 := hc 1 (by omega)
  rw [Nat.add_zero] at c0
  have NB : Hid (¬ O b) := hr (by omega) ⟨b, off, none⟩ rfl
  obtain ⟨p0, p1⟩ := hf 0
  obtain ⟨p2, p3⟩ := hf 1
  obtain ⟨g, rfl, hg⟩ := hS.ptr
  have k0 : (0 : Int) < n := by omega
  have k1 : (1 : Int) < n := by omega
  have k2 : 0 < n := by omega
  have k3 : 1 < n := by omega
  clear hS hr he hc hf
  obtain ⟨y0, e0⟩ : ∃ y, f 0 = y := ⟨_, rfl⟩
  obtain ⟨y1, e1⟩ : ∃ y, f 1 = y := ⟨_, rfl⟩
  rw [e0] at c0 p0 p1
  rw [e1] at c1 p2 p3
  rw [e0, e1] at CT
  clear e0 e1
  go_enter Try.func12, Try.ntmps12
  go_upto_region 12 with fail
  have B0 : Hid (Below w.heap.size w (w.alloc (.cells #[.int .i64 4, .int .i64 x] 26))) := (Below.refl _ _).alloc (Nat.le_refl _) _
  have G1 : Hid ((w.alloc (.cells #[.int .i64 4, .int .i64 x] 26)).cell? ⟨w.heap.size, 1, none⟩ = some (.int .i64 x)) := new_cell' w _ _ 1 _ rfl
  have G2 : Hid ((w.alloc (.cells #[.int .i64 4, .int .i64 x] 26)).cell? ⟨b, off, none⟩ = some (.int .u8 y0)) := cell_later' c0 B0.out
  have G3 : Hid ((w.alloc (.cells #[.int .i64 4, .int .i64 x] 26)).cell? ⟨b, off + 1, none⟩ = some (.int .u8 y1)) := cell_later' c1 B0.out
  generalize w.alloc (.cells #[.int .i64 4, .int .i64 x] 26) = w0 at B0 G1 G2 G3 ⊢
  clear c0 c1
  go_region_held3 (fun W => W.cell? ⟨w.heap.size, 1, none⟩ = some (.int .i64 x) ∧ W.cell? ⟨b, off, none⟩ = some (.int .u8 y0) ∧ W.cell? ⟨b, off + 1, none⟩ = some (.int .u8 y1))
    (first
    | exact ⟨G1.out, G2.out, G3.out⟩
    | exact ⟨c5, d5, d6⟩)
    (first
    | (go_at_call 17; refine (CT.out _ (by first | exact B0.out.drew | exact B0.out)).mono ?_; rintro e w5 hp5; obtain ⟨rfl, hS5, hA5⟩ := hp5.ok HE.out; have c5 : w5.cell? ⟨w.heap.size, 1, none⟩ = some (.int .i64 x) := hA5.cell (p := ⟨w.heap.size, 1, none⟩) G1.out HO.out; have d5 : w5.cell? ⟨b, off, none⟩ = some (.int .u8 y0) := hA5.cell (p := ⟨b, off, none⟩) G2.out NB.out; have d6 : w5.cell? ⟨b, off + 1, none⟩ = some (.int .u8 y1) := hA5.cell (p := ⟨b, off + 1, none⟩) G3.out NB.out; have hA5' : Apart O w w5 := (Apart.of_below (O := O) (by first | exact B0.out.drew | exact B0.out)).trans hA5 (fun _ h => .inl h)))
  all_goals go_wp2_with fail
  all_goals
    go_ret
    exact ⟨ret_bool (by have e1 := wrap_small (y := y0) p0 (by omega); have e2 := wrap_small (y := y1) p2 (by omega); have e3 := wrap_small (y := 256 * y1) (by omega) (by omega); have e4 := wrap_small (y := y0 + 256 * y1) (by omega) (by omega); simp [e1, e2, e3, e4]), does_end (by first | exact B0.out.drew | exact B0.out) hS5 (Below.refl _ _), hA5'⟩
def from1 (p : Addr) (c : Nat) : Option Addr := if c = 1 then some p else some ⟨p.block, p.off + 1, none⟩
set_option maxRecDepth 100000 in
set_option maxHeartbeats 2000000 in
theorem does_2 {O : Nat → Prop} {w : World} {v : Value} {n : Nat} {f : Nat → Int} (hS : ScO O w v n f) (a : Option Addr) (m : Nat) (hh : Head a n m) (hb : Bytes w a n f) (hr : n ≠ 0 → ∀ x, a = some x → ¬ O x.block) (x : Int) (hx : 0 ≤ x ∧ x ≤ 65535) (he : errZ n f 2 x = 0) :
    Calls Try.prog 12 #[v, .slice a n m, .agg #[.int .i64 2, .int .i64 x]] w (DoesPost O w v n f 2 x) := by
  have hkn := err_cut he
  have hwant : wantZ f 2 x = 1 + f 0 := rfl
  rw [hwant] at hkn
  have hn0 : n ≠ 0 := by
    intro h0
    unfold errZ at he
    rw [if_pos ⟨rfl, h0⟩] at he
    cases he
  have NM : Hid (∀ W, Below w.heap.size w W → Calls Try.prog 15 #[v] W (ActO O W v n f 2 x (.string (textF (f 0).toNat fun i => f (i + 1))))) := fun W hW => name_so (hS.later hW) x
  have HE : Hid (errZ n f 2 x = 0) := he
  obtain ⟨hf, h0 | ⟨b, off, rfl, hc⟩⟩ := id hb
  · exact absurd h0 hn0
  have c0 := hc 0 (by omega)
  rw [Nat.add_zero] at c0
  have NB : Hid (¬ O b) := hr hn0 ⟨b, off, none⟩ rfl
  obtain ⟨p0, p1⟩ := hf 0
  obtain ⟨L, eL⟩ := Int.eq_ofNat_of_zero_le p0
  rw [eL] at c0 p1 hkn NM
  rw [Int.toNat_natCast] at NM
  have kc : (1 : Int) + L ≤ m := by have := hh.1; omega
  have kL : L + 1 ≤ n := by omega
  have hrow : ∀ W, W.cell? ⟨b, off, none⟩ = some (.int .u8 (L : Int)) → (∀ k, k < w.heap.size → ¬ O k → W.heap[k]? = w.heap[k]?) → Bytes W (from1 ⟨b, off, none⟩ m) L (fun i => f (i + 1)) := fun W _ hW => by
    refine ⟨fun i => hf _, ?_⟩
    by_cases hl : L = 0
    · exact .inl hl
    · refine .inr ⟨b, off + 1, ?_, fun i hi => ?_⟩
      · unfold from1; rw [if_neg (by omega)]
      · have h := hc (i + 1) (by omega)
        rw [show off + (i + 1) = off + 1 + i from by omega] at h
        have hl := World.block_lt_of_cell? w ⟨b, off + 1 + i, none⟩ h
        exact (World.cell?_of_block (a := ⟨b, off + 1 + i, none⟩) (hW b hl NB.out)).trans h
  have CV : Hid (∀ W, Apart O w W → (convert 22 9 (.slice (from1 ⟨b, off, none⟩ m) L (m - 1))).run Try.prog W = .ok (.string (textF L fun i => f (i + 1))) W) := fun W hW => text_conv W _ L _ _ (hrow W (hW.cell c0 NB.out) hW.block)
  have hsl : ∀ W, (Instr.slice 22 (.slice (some ⟨b, off, none⟩) n m) (some (.int .i64 1)) (some (.int .i64 (1 + (L : Int)))) none).run Try.prog W = .ok (.slice (from1 ⟨b, off, none⟩ m) L (m - 1)) W := fun W => by
    rw [run_slice_lh W 22 (some ⟨b, off, none⟩) n m (by kernel_rfl) .i64 .i64 1 (1 + (L : Int)) (by omega) (by omega) kc]
    have hs : (sizeOf (Try.prog.elem 22)).run Try.prog W = .ok 1 W := by go_simp
    rw [hs]
    have e : ((1 : Int) + L).toNat = 1 + L := by omega
    simp only [Result.andThen_ok, sliced, e]
    unfold from1
    rw [show (1 : Int).toNat = 1 from rfl, Nat.add_sub_cancel_left]
    congr 2
  obtain ⟨g, rfl, hg⟩ := hS.ptr
  have k0 : (0 : Int) < n := by omega
  have k2 : 0 < n := by omega
  have hL : (L : Int) < 256 := p1
  have hL0 : (0 : Int) ≤ L := by omega
  have hL1 : (1 : Int) ≤ 1 + L := by omega
  clear hS hb hr he hc hf hrow hwant eL
  generalize textF L (fun i => f (i + 1)) = tx at NM CV
  go_enter Try.func12, Try.ntmps12
  go_upto_region 8 with fail
  have B0 : Hid (Below w.heap.size w (w.alloc (.cells #[.int .i64 2, .int .i64 x] 26))) := (Below.refl _ _).alloc (Nat.le_refl _) _
  have G2 : Hid ((w.alloc (.cells #[.int .i64 2, .int .i64 x] 26)).cell? ⟨b, off, none⟩ = some (.int .u8 (L : Int))) := cell_later' c0 B0.out
  generalize w.alloc (.cells #[.int .i64 2, .int .i64 x] 26) = w0 at B0 G2 ⊢
  clear c0
  have SL : Hid (∀ W, (Instr.slice 22 (.slice (some ⟨b, off, none⟩) n m) (some (.int .i64 1)) (some (.int .i64 (1 + (L : Int)))) none).run Try.prog W = .ok (.slice (from1 ⟨b, off, none⟩ m) L (m - 1)) W) := hsl
  clear hsl
  have hw1 := wrap_small (y := (L : Int)) hL0 (by omega)
  have hw2 := wrap_small (y := 1 + (L : Int)) (by omega) (by omega)
  go_region_held3 (fun W => W.cell? ⟨b, off, none⟩ = some (.int .u8 (L : Int)) ∧ (Instr.slice 22 (.slice (some ⟨b, off, none⟩) n m) (some (.int .i64 1)) (some (.int .i64 (1 + (L : Int)))) none).run Try.prog W = .ok (.slice (from1 ⟨b, off, none⟩ m) L (m - 1)) W ∧ (convert 22 9 (.slice (from1 ⟨b, off, none⟩ m) L (m - 1))).run Try.prog W = .ok (.string tx) W)
    (first
    | exact ⟨G2.out, SL.out _, CV.out _ (Apart.of_below B0.out.drew)⟩
    | exact ⟨d5, SL.out _, CV.out _ hA5'⟩)
    (first
    | (go_at_call 15; refine (NM.out _ (by first | exact B0.out.drew | exact B0.out)).mono ?_; rintro e w5 hp5; obtain ⟨rfl, hS5, hA5⟩ := hp5.ok HE.out; have d5 : w5.cell? ⟨b, off, none⟩ = some (.int .u8 (L : Int)) := hA5.cell (p := ⟨b, off, none⟩) G2.out NB.out; have hA5' : Apart O w w5 := (Apart.of_below (O := O) (by first | exact B0.out.drew | exact B0.out)).trans hA5 (fun _ h => .inl h)))
  all_goals go_wp2_with fail
  all_goals
    go_ret
    exact ⟨ret_bool (by simp), does_end (by first | exact B0.out.drew | exact B0.out) hS5 (Below.refl _ _), hA5'⟩
set_option maxRecDepth 100000 in
set_option maxHeartbeats 4000000 in
theorem does_3 {O : Nat → Prop} {w : World} {v : Value} {n : Nat} {f : Nat → Int} (hS : ScO O w v n f) (a : Option Addr) (m : Nat) (hh : Head a n m) (hb : Bytes w a n f) (hr : n ≠ 0 → ∀ x, a = some x → ¬ O x.block) (x : Int) (hx : 0 ≤ x ∧ x ≤ 65535) (he : errZ n f 3 x = 0) :
    Calls Try.prog 12 #[v, .slice a n m, .agg #[.int .i64 3, .int .i64 x]] w (DoesPost O w v n f 3 x) := by
  have hkn := err_cut he
  have hwant : wantZ f 3 x = 8 := rfl
  rw [hwant] at hkn
  have hbd := hS.bd
  have FL : Hid (∀ W, Below w.heap.size w W → Calls Try.prog 16 #[v] W (ActO O W v n f 3 x (.float .f64 (eightZ f).toNat))) := fun W hW => float_so (hS.later hW) x
  have HE : Hid (errZ n f 3 x = 0) := he
  obtain ⟨hf, h0 | ⟨b, off, rfl, hc⟩⟩ := id hb
  · omega
  have NB : Hid (Bytes w (some ⟨b, off, none⟩) n f ∧ ¬ O b) := ⟨hb, hr (by omega) ⟨b, off, none⟩ rfl⟩
  have GA : Hid (∀ W, Bytes W (some ⟨b, off, none⟩) n f → Calls Try.prog 37 #[.slice (some ⟨b, off, none⟩) 4 m] W fun e w' => e = .returned (.int .u32 (sumZ f 4)) ∧ Below W.heap.size W w') := fun W hW => rget_row hW 4 (by omega) (by omega) (by omega)
  have GB : Hid (∀ W, Bytes W (some ⟨b, off, none⟩) n f → Calls Try.prog 37 #[.slice (some ⟨b, off + 4, none⟩) 4 (m - 4)] W fun e w' => e = .returned (.int .u32 (sumZ (fun i => f (i + 4)) 4)) ∧ Below W.heap.size W w') := fun W hW => by
    refine rget_row (n := n - 4) (f := fun i => f (i + 4)) ⟨fun i => hW.1 _, .inr ⟨b, off + 4, rfl, fun i hi => ?_⟩⟩ 4 (by omega) (by omega) (by omega)
    obtain ⟨-, h0 | ⟨b', off', e, hc⟩⟩ := hW
    · omega
    · simp only [Option.some.injEq, Addr.mk.injEq] at e
      obtain ⟨rfl, rfl, -⟩ := e
      have := hc (i + 4) (by omega)
      rwa [show off + (i + 4) = off + 4 + i from by omega] at this
  have s0 := sum_bd f hbd.1 4
  have s1 := sum_bd (fun i => f (i + 4)) (fun i => hbd.1 _) 4
  have p4 : (256 : Int) ^ 4 = 4294967296 := by decide
  rw [p4] at s0 s1
  obtain ⟨Y, eY⟩ : ∃ Y, (eightZ f).toNat = Y := ⟨_, rfl⟩
  have hY : (Y : Int) = sumZ f 4 + 4294967296 * sumZ (fun i => f (i + 4)) 4 := by
    have := eight_bd hbd.1
    rw [← eY, Int.toNat_of_nonneg this.1]; rfl
  rw [eY] at FL
  obtain ⟨y0, e0⟩ : ∃ y, sumZ f 4 = y := ⟨_, rfl⟩
  obtain ⟨y1, e1⟩ : ∃ y, sumZ (fun i => f (i + 4)) 4 = y := ⟨_, rfl⟩
  rw [e0] at GA hY s0
  rw [e1] at GB hY s1
  have HY : Hid ((Y : Int) = y0 + 4294967296 * y1) := hY
  obtain ⟨s00, s01⟩ := s0
  obtain ⟨s10, s11⟩ := s1
  have hw1 := wrap_u64 (y := y0) s00 (by omega)
  have hw2 := wrap_u64 (y := y1) s10 (by omega)
  have hw3 := wrap_u64 (y := y1 * 4294967296) (by omega) (by omega)
  have hw4 := wrap_u64 (y := y0 + y1 * 4294967296) (by omega) (by omega)
  have hbits : ∀ (b : Nat) (w : World), (callFunc 27 #[.float .f64 b]).run Try.prog w = .ok (.value (.int .u64 b)) w := bits_run
  obtain ⟨g, rfl, hg⟩ := hS.ptr
  have hm8 : 8 ≤ m := by have := hh.1; omega
  have k0 : (8 : Int) ≤ m := by omega
  have k1 : (8 : Int) ≤ n := by omega
  have k2 : (4 : Int) ≤ m := by omega
  have k3 : ¬ m = 4 := by omega
  clear hS hb hr he hc hf hwant hbd p4 eY e0 e1 hY
  go_enter Try.func12, Try.ntmps12
  go_upto_region 10 with fail
  have B0 : Hid (Below w.heap.size w (w.alloc (.cells #[.int .i64 3, .int .i64 x] 26))) := (Below.refl _ _).alloc (Nat.le_refl _) _
  generalize w.alloc (.cells #[.int .i64 3, .int .i64 x] 26) = w0 at B0 ⊢
  go_region_held3 (fun W => Apart O w W)
    (first
    | exact Apart.of_below B0.out.drew
    | exact Apart.of_below B0.out
    | exact hA7
    | exact hA6
    | exact hA5')
    (first
    | (have q6 := hA6; go_at_call 37; refine (GB.out _ (Apart.bytes q6 NB.out.1 (fun _ x e => by cases e; exact NB.out.2))).mono ?_; rintro e w7 ⟨rfl, hb7⟩; have hA7 : Apart O w w7 := hA6.trans (Apart.of_below (O := fun _ => False) hb7) (fun _ h => h.elim))
    | (have q5 := hA5'; go_at_call 37; refine (GA.out _ (Apart.bytes hA5' NB.out.1 (fun _ x e => by cases e; exact NB.out.2))).mono ?_; rintro e w6 ⟨rfl, hb6⟩; have hA6 : Apart O w w6 := hA5'.trans (Apart.of_below (O := fun _ => False) hb6) (fun _ h => h.elim))
    | (go_at_call 16; refine (FL.out _ (by first | exact B0.out.drew | exact B0.out)).mono ?_; rintro e w5 hp5; obtain ⟨rfl, hS5, hA5⟩ := hp5.ok HE.out; have hA5' : Apart O w w5 := (Apart.of_below (O := O) (by first | exact B0.out.drew | exact B0.out)).trans hA5 (fun _ h => .inl h)))
  all_goals go_wp2_with fail
  all_goals
    go_ret
    exact ⟨ret_bool (by have h := HY.out; simp; omega), does_end (by first | exact B0.out.drew | exact B0.out) hS5 (bnext hb6 hb7), hA7⟩
theorem does_any {O : Nat → Prop} {w : World} {v : Value} {n : Nat} {f : Nat → Int} (hS : ScO O w v n f) (a : Option Addr) (m : Nat) (hh : Head a n m) (hb : Bytes w a n f) (hr : n ≠ 0 → ∀ x, a = some x → ¬ O x.block) (d x : Int) (hx : 0 ≤ x ∧ x ≤ 65535) (he : errZ n f d x = 0) :
    Calls Try.prog 12 #[v, .slice a n m, .agg #[.int .i64 d, .int .i64 x]] w (DoesPost O w v n f d x) := by
  by_cases h0 : d = 0
  · subst h0; exact does_0 hS a m hh hb hr x hx he
  by_cases h1 : d = 1
  · subst h1; exact does_1 hS a m hh hb hr x hx he
  by_cases h2 : d = 2
  · subst h2; exact does_2 hS a m hh hb hr x hx he
  by_cases h3 : d = 3
  · subst h3; exact does_3 hS a m hh hb hr x hx he
  by_cases h4 : d = 4
  · subst h4; exact does_4 hS a m hh hb hr x hx he
  exact does_other hS a m d x h0 h1 h2 h3 h4
end Go.Proofs.Ytgnokbmhbeeblaa
