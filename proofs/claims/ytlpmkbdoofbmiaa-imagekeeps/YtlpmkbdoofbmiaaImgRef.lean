/- What the document's own four, May and Same of images return. -/
import Derived.Test.YtlpmkbdoofbmiaaImgKit
namespace Go.Proofs.Ytlpmkbdoofbmiaa
open Go.ChangeShapes Go.WideShapes Go.ChangeAt Go.RowKit
set_option linter.unusedVariables false
set_option linter.unusedSimpArgs false
/-- The number of four bytes at a place, or -1. -/
def fourZ (l : Bs) (k : Nat) : Int := if k + 4 ≤ l.length then sumL ((l.drop k).take 4) else -1
theorem four_bd {l : Bs} (h : Byt l) (k : Nat) : -1 ≤ fourZ l k ∧ fourZ l k < 4294967296 := by
  unfold fourZ
  split
  · have := sumL_bd ((l.drop k).take 4) (fun x hx => h x (List.mem_of_mem_drop (List.mem_of_mem_take hx)))
    have e : ((l.drop k).take 4).length = 4 := by rw [List.length_take, List.length_drop]; omega
    rw [e, p256_4] at this
    omega
  · omega
/-- A part of a list's bytes. -/
theorem part_bytes {w : World} {a : Option Addr} {c k m : Nat} {l : Bs} (h : Bytes w a l.length (gF l)) (hh : Head a l.length c) (hk : k + m ≤ l.length) : Bytes w (fromA a c k) m (gF ((l.drop k).take m)) := by
  have h1 := fromA_part h hh hk
  have hg := h.1
  refine ⟨fun j => ?_, h1.2.imp id fun ⟨b, off, e, hc⟩ => ⟨b, off, e, fun i hi => ?_⟩⟩
  · by_cases hj : j < m
    · rw [gF_take hj, gF_drop]; exact hg _
    · have e : gF ((l.drop k).take m) j = 0 := by
        unfold gF
        rw [List.getD_eq_getElem?_getD, List.getElem?_eq_none (by rw [List.length_take]; omega)]; rfl
      rw [e]; omega
  · rw [gF_take hi, gF_drop]; exact hc i hi
theorem part_head {a : Option Addr} {n c k m : Nat} (h : Head a n c) (hk : k + m ≤ n) : Head (fromA a c k) m (c - k) := ⟨by have := h.1; omega, fun e => by have := h.2 (fromA_nil e); omega⟩
set_option maxRecDepth 100000 in
theorem four15 {A : Nat → Prop} {w : World} {v : Value} {l : Bs} (h : IsBytes A w v l) (k : Nat) (hk : k ≤ 1000000) :
    Calls Try.prog 22 #[v, .int .i64 k] w fun e w' => e = .returned (.int .i64 (fourZ l k)) ∧ Below w.heap.size w w' := by
  have hl2 := h.2
  obtain ⟨a, c, rfl, ⟨hh, hc⟩, hb, -⟩ := h.row
  have lm : (l.length : Int) ≤ 9223372036854775807 := by have := hh.1; unfold maxLen at hc; omega
  have hk' : (k : Int) ≤ 1000000 := by omega
  by_cases h4 : k + 4 ≤ l.length
  · have S1 : ∀ W, (Instr.slice 23 (.slice a l.length c) (some (.int .i64 (k : Int))) (some (.int .i64 ((k : Int) + 4))) none).run Try.prog W = .ok (.slice (fromA a c k) 4 (c - k)) W := fun W => slice_mid W a l.length c k 4 (by have := hh.1; omega)
    have e4 : ((l.drop k).take 4).length = 4 := by rw [List.length_take, List.length_drop]; omega
    have GR : Hid (∀ W, Below w.heap.size w W → Calls Try.prog 35 #[.slice (fromA a c k) 4 (c - k)] W fun e w' => e = .returned (.int .u32 (sumL ((l.drop k).take 4))) ∧ Below W.heap.size W w') := fun W hW => rget_list e4 (part_bytes (hb.later hW) hh h4) (by omega) (by omega)
    have bd := four_bd hl2 k
    have ef : fourZ l k = sumL ((l.drop k).take 4) := by unfold fourZ; rw [if_pos h4]
    have b0 : 0 ≤ sumL ((l.drop k).take 4) := (sumL_bd _ (fun x hx => hl2 x (List.mem_of_mem_drop (List.mem_of_mem_take hx)))).1
    rw [ef] at bd ⊢
    have hw := wrap_small b0 bd.2
    have h4' : (k : Int) + 4 ≤ l.length := by omega
    generalize sumL ((l.drop k).take 4) = y at GR bd b0 hw ⊢
    clear hb hl2 h e4 ef hh hc
    go_enter Try.func22, Try.ntmps22
    go_wp2_with (go_at_call 35; refine (GR.out _ (by first | exact Below.refl _ _ | exact (Below.refl _ _).drew | exact below_drewN (Below.refl _ _) _)).mono ?_; rintro e w2 ⟨rfl, hb2⟩)
    go_ret
    exact ⟨rfl, hb2⟩
  · have ef : fourZ l k = -1 := by unfold fourZ; rw [if_neg h4]
    rw [ef]
    have h4' : (l.length : Int) < (k : Int) + 4 := by omega
    clear hb hl2 h ef hh hc
    go_enter Try.func22, Try.ntmps22
    go_wp2
    go_ret
    exact ⟨rfl, Below.refl _ _⟩
set_option maxRecDepth 100000 in
theorem may15 {A : Nat → Prop} {w : World} {v : Value} {m : ImM} (h : IsImg A w v m) :
    Calls Try.prog 10 #[v] w fun e w' => Says e (imgOk m) ∧ Below w.heap.size w w' := by
  obtain ⟨ca, cc, da, dc, rfl, h1, h2⟩ := h.open
  obtain ⟨_, _, e1, c1, -, -⟩ := LstA.open h1.1
  obtain ⟨_, _, e2, d1, -, -⟩ := LstA.open h2.1
  have HW : Hid (∀ x ∈ m.code, 0 ≤ x ∧ x < 4294967296) := h1.2
  obtain ⟨code, entry, data, wr, mo⟩ := m
  dsimp only at *
  have OK : Hid (∀ b : Bool, (b = true ↔ ((code.length : Int) ≤ 65536 ∧ (data.length : Int) ≤ 65536 ∧ 0 ≤ entry ∧ (0 < entry → entry < code.length) ∧ 0 ≤ wr ∧ wr ≤ data.length ∧ 0 ≤ mo ∧ mo ≤ 65536)) → (b = true ↔ imgOk ⟨code, entry, data, wr, mo⟩)) := fun b hb => by
    rw [hb]
    unfold imgOk lastZ
    dsimp only
    constructor
    · rintro ⟨a1, a2, a3, a4, a5, a6, a7, a8⟩
      refine ⟨⟨by omega, HW.out⟩, ⟨a3, ?_⟩, by omega, ⟨a5, a6⟩, a7, a8⟩
      split <;> omega
    · rintro ⟨⟨a1, -⟩, ⟨a3, a4⟩, a2, ⟨a5, a6⟩, a7, a8⟩
      refine ⟨by omega, by omega, a3, fun h => ?_, a5, a6, a7, a8⟩
      split at a4 <;> omega
  clear HW h h1 h2 e1 e2
  generalize hC : code.length = C at *
  generalize hD : data.length = D at *
  have C9 : (C : Int) ≤ 9223372036854775807 := by unfold maxLen at c1; omega
  have D9 : (D : Int) ≤ 9223372036854775807 := by unfold maxLen at d1; omega
  have up : Below w.heap.size w (w.alloc (.cells #[.slice ca C cc, .int .i64 entry, .slice da D dc, .int .i64 wr, .int .i64 mo] 25)) := keep_alloc8 (Below.refl _ _) _
  have c0 := new_cell' w #[.slice ca C cc, .int .i64 entry, .slice da D dc, .int .i64 wr, .int .i64 mo] 25 0 _ rfl
  have x1 := new_cell' w #[.slice ca C cc, .int .i64 entry, .slice da D dc, .int .i64 wr, .int .i64 mo] 25 1 _ rfl
  have x2 := new_cell' w #[.slice ca C cc, .int .i64 entry, .slice da D dc, .int .i64 wr, .int .i64 mo] 25 2 _ rfl
  have x3 := new_cell' w #[.slice ca C cc, .int .i64 entry, .slice da D dc, .int .i64 wr, .int .i64 mo] 25 3 _ rfl
  have x4 := new_cell' w #[.slice ca C cc, .int .i64 entry, .slice da D dc, .int .i64 wr, .int .i64 mo] 25 4 _ rfl
  have UP : Hid (Below w.heap.size w (w.alloc (.cells #[.slice ca C cc, .int .i64 entry, .slice da D dc, .int .i64 wr, .int .i64 mo] 25))) := up
  clear up hC hD c1 d1
  go_enter Try.func10, Try.ntmps10
  go_upto_region 1 with fail
  generalize w.alloc (.cells #[.slice ca C cc, .int .i64 entry, .slice da D dc, .int .i64 wr, .int .i64 mo] 25) = w0 at c0 x1 x2 x3 x4 UP ⊢
  go_wp2
  all_goals
    (try go_quiet (fail))
  all_goals
    go_wp2
  all_goals
    go_ret
    refine ⟨⟨_, rfl, OK.out _ ?_⟩, by first | exact UP.out | exact below_drewN UP.out _⟩
    simp only [Bool.and_eq_true, Bool.or_eq_true, decide_eq_true_eq, Bool.false_eq_true, false_iff, true_iff] at *
    omega
set_option maxRecDepth 100000 in
set_option maxHeartbeats 1000000 in
theorem rsame14_any {A A' : Nat → Prop} {w : World} {v v' : Value} {p q : ImM} (h : IsImg A w v p) (h' : IsImg A' w v' q) :
    Calls Try.prog 15 #[v, v'] w fun e w' => Says e (p = q) ∧ Below w.heap.size w w' := by
  obtain ⟨ca, cc, da, dc, rfl, h1, h2⟩ := h.open
  obtain ⟨ga, gc, ea, ec, rfl, k1, k2⟩ := h'.open
  have WC : Hid (∀ W, Below w.heap.size w W → Calls Try.prog 23 #[.slice ca p.code.length cc, .slice ga q.code.length gc] W fun e w' => Says e (p.code = q.code) ∧ Below W.heap.size W w') := fun W hW => rwords_any (h1.keep (Stay.of_below hW)) (k1.keep (Stay.of_below hW))
  have BC : Hid (∀ W, Below w.heap.size w W → Calls Try.prog 11 #[.slice da p.data.length dc, .slice ea q.data.length ec] W fun e w' => Says e (p.data = q.data) ∧ Below W.heap.size W w') := fun W hW => rbytes_any (h2.keep (Stay.of_below hW)) (k2.keep (Stay.of_below hW))
  clear h h' h1 h2 k1 k2
  obtain ⟨code, entry, data, wr, mo⟩ := p
  obtain ⟨code', entry', data', wr', mo'⟩ := q
  dsimp only at *
  have OK : Hid (∀ b : Bool, (b = true ↔ (code = code' ∧ entry = entry' ∧ data = data' ∧ wr = wr' ∧ mo = mo')) → (b = true ↔ ImM.mk code entry data wr mo = ⟨code', entry', data', wr', mo'⟩)) := fun b hb => by
    rw [hb]; constructor
    · rintro ⟨rfl, rfl, rfl, rfl, rfl⟩; rfl
    · intro e; cases e; exact ⟨rfl, rfl, rfl, rfl, rfl⟩
  generalize code.length = C at *
  generalize data.length = D at *
  generalize code'.length = C' at *
  generalize data'.length = D' at *
  have up : Below w.heap.size w ((w.alloc (.cells #[.slice ca C cc, .int .i64 entry, .slice da D dc, .int .i64 wr, .int .i64 mo] 25)).alloc (.cells #[.slice ga C' gc, .int .i64 entry', .slice ea D' ec, .int .i64 wr', .int .i64 mo'] 25)) := keep_alloc8 (keep_alloc8 (Below.refl _ _) _) _
  have UP : Hid (Below w.heap.size w ((w.alloc (.cells #[.slice ca C cc, .int .i64 entry, .slice da D dc, .int .i64 wr, .int .i64 mo] 25)).alloc (.cells #[.slice ga C' gc, .int .i64 entry', .slice ea D' ec, .int .i64 wr', .int .i64 mo'] 25))) := up
  have X0 := XAt.new w #[.slice ca C cc, .int .i64 entry, .slice da D dc, .int .i64 wr, .int .i64 mo] 25
  have X1 := X0.later (X0.lt (by simp)) (keep_alloc8 (Below.refl _ _) (.cells #[.slice ga C' gc, .int .i64 entry', .slice ea D' ec, .int .i64 wr', .int .i64 mo'] 25))
  have Y1 := XAt.new (w.alloc (.cells #[.slice ca C cc, .int .i64 entry, .slice da D dc, .int .i64 wr, .int .i64 mo] 25)) #[.slice ga C' gc, .int .i64 entry', .slice ea D' ec, .int .i64 wr', .int .i64 mo'] 25
  have esz : (w.alloc (.cells #[.slice ca C cc, .int .i64 entry, .slice da D dc, .int .i64 wr, .int .i64 mo] 25)).heap.size = w.heap.size + 1 := by simp
  rw [esz] at Y1
  have XX := Hid.mk9 (And.intro X1 Y1)
  clear X0 X1 Y1 up esz
  go_enter Try.func15, Try.ntmps15
  go_upto_region 1 with fail
  generalize (w.alloc (.cells #[.slice ca C cc, .int .i64 entry, .slice da D dc, .int .i64 wr, .int .i64 mo] 25)).alloc (.cells #[.slice ga C' gc, .int .i64 entry', .slice ea D' ec, .int .i64 wr', .int .i64 mo'] 25) = w0 at UP XX ⊢
  have x0 := XX.out.1.1 0 _ rfl
  have x1 := XX.out.1.1 1 _ rfl
  have x2 := XX.out.1.1 2 _ rfl
  have x3 := XX.out.1.1 3 _ rfl
  have x4 := XX.out.1.1 4 _ rfl
  have y0 := XX.out.2.1 0 _ rfl
  have y1 := XX.out.2.1 1 _ rfl
  have y2 := XX.out.2.1 2 _ rfl
  have y3 := XX.out.2.1 3 _ rfl
  have y4 := XX.out.2.1 4 _ rfl
  have WC2 := WC.out _ UP.out
  clear WC XX
  by_cases e1 : code = code'
  rotate_left
  · have E1 := Hid.mk9 e1
    clear e1
    go_wp2_with (go_at_call 23; refine WC2.mono ?_; rintro e w2 ⟨hs, b2⟩; obtain rfl := hs.no E1.out; clear hs)
    go_ret
    exact ⟨⟨false, rfl, OK.out _ (iff_no fun h => E1.out h.1)⟩, bnext UP.out b2⟩
  have E1 := Hid.mk9 e1
  clear e1
  by_cases e2 : entry = entry'
  rotate_left
  · have E2 := Hid.mk9 e2
    have n2 : (entry == entry') = false := by simpa using e2
    clear e2
    go_wp2_with (go_at_call 23; refine WC2.mono ?_; rintro e w2 ⟨hs, b2⟩; obtain rfl := hs.yes E1.out; clear hs; replace x1 := cell_any x1 b2; replace y1 := cell_any y1 b2)
    go_ret
    exact ⟨⟨false, rfl, OK.out _ (iff_no fun h => E2.out h.2.1)⟩, bnext UP.out b2⟩
  have n2 : (entry == entry') = true := by simpa using e2
  have E2 := Hid.mk9 e2
  clear e2
  by_cases e3 : data = data'
  rotate_left
  · have E3 := Hid.mk9 e3
    clear e3
    go_wp2_with (first
      | (go_at_call 23; refine WC2.mono ?_; rintro e w2 ⟨hs, b2⟩; obtain rfl := hs.yes E1.out; clear hs; replace x1 := cell_any x1 b2; replace y1 := cell_any y1 b2; replace x2 := cell_any x2 b2; replace y2 := cell_any y2 b2)
      | (go_at_call 11; refine (BC.out _ (bnext UP.out b2)).mono ?_; rintro e w3 ⟨hs, b3⟩; obtain rfl := hs.no E3.out; clear hs))
    go_ret
    exact ⟨⟨false, rfl, OK.out _ (iff_no fun h => E3.out h.2.2.1)⟩, bnext (bnext UP.out b2) b3⟩
  have E3 := Hid.mk9 e3
  clear e3
  by_cases e4 : wr = wr'
  rotate_left
  · have E4 := Hid.mk9 e4
    have n4 : (wr == wr') = false := by simpa using e4
    clear e4
    go_wp2_with (first
      | (go_at_call 23; refine WC2.mono ?_; rintro e w2 ⟨hs, b2⟩; obtain rfl := hs.yes E1.out; clear hs; replace x1 := cell_any x1 b2; replace y1 := cell_any y1 b2; replace x2 := cell_any x2 b2; replace y2 := cell_any y2 b2; replace x3 := cell_any x3 b2; replace y3 := cell_any y3 b2)
      | (go_at_call 11; refine (BC.out _ (bnext UP.out b2)).mono ?_; rintro e w3 ⟨hs, b3⟩; obtain rfl := hs.yes E3.out; clear hs; replace x3 := cell_any x3 b3; replace y3 := cell_any y3 b3))
    go_ret
    exact ⟨⟨false, rfl, OK.out _ (iff_no fun h => E4.out h.2.2.2.1)⟩, bnext (bnext UP.out b2) b3⟩
  have n4 : (wr == wr') = true := by simpa using e4
  have E4 := Hid.mk9 e4
  clear e4
  obtain ⟨B, eB⟩ : ∃ B, (mo == mo') = B := ⟨_, rfl⟩
  have E5 : Hid (B = true ↔ mo = mo') := by rw [← eB]; exact beq_iff_eq
  go_wp2_with (first
    | (go_at_call 23; refine WC2.mono ?_; rintro e w2 ⟨hs, b2⟩; obtain rfl := hs.yes E1.out; clear hs; replace x1 := cell_any x1 b2; replace y1 := cell_any y1 b2; replace x2 := cell_any x2 b2; replace y2 := cell_any y2 b2; replace x3 := cell_any x3 b2; replace y3 := cell_any y3 b2; replace x4 := cell_any x4 b2; replace y4 := cell_any y4 b2)
    | (go_at_call 11; refine (BC.out _ (bnext UP.out b2)).mono ?_; rintro e w3 ⟨hs, b3⟩; obtain rfl := hs.yes E3.out; clear hs; replace x3 := cell_any x3 b3; replace y3 := cell_any y3 b3; replace x4 := cell_any x4 b3; replace y4 := cell_any y4 b3))
  go_ret
  exact ⟨⟨B, rfl, OK.out _ ⟨fun h => ⟨E1.out, E2.out, E3.out, E4.out, E5.out.1 h⟩, fun h => E5.out.2 h.2.2.2.2⟩⟩, bnext (bnext UP.out b2) b3⟩
end Go.Proofs.Ytlpmkbdoofbmiaa
