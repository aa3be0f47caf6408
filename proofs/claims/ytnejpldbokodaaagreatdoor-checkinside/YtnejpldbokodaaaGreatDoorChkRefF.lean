/- Is a function right? As the document says it. -/
import Derived.Test.YtnejpldbokodaaaGreatDoorChkDataAll
import Derived.Test.YtnejpldbokodaaaGreatDoorCodeRefAll
import Derived.Deep.CutRange
namespace Go.Proofs.YtnejpldbokodaaaGreatDoor
open Go.ChangeShapes Go.WideShapes Go.ChangeAt Go.RowKit Go.Deep
set_option linter.unusedVariables false
set_option linter.unusedSimpArgs false
/-! ### The document's own All: it appends -/
def insL (x : Int) : List Value := [.int .i64 (gO x), .int .i64 (gA x), .int .i64 (gB x), .int .i64 (gC x), .int .i64 (gI x)]
def rowL (f : Nat → Int) : Nat → List Value
  | 0 => []
  | k + 1 => rowL f k ++ insL (f k)
theorem rowL_length (f : Nat → Int) : ∀ k, (rowL f k).length = k * 5
  | 0 => rfl
  | k + 1 => by simp only [rowL, List.length_append, rowL_length f k, insL, List.length_cons, List.length_nil]; omega
theorem rowL_get (f : Nat → Int) : ∀ (n i j : Nat), i < n → j < 5 → (rowL f n)[i * 5 + j]? = (insL (f i))[j]?
  | 0, i, j, h, _ => by omega
  | n + 1, i, j, h, hj => by
    simp only [rowL]
    by_cases e : i < n
    · rw [List.getElem?_append_left (by rw [rowL_length]; omega)]; exact rowL_get f n i j e hj
    · obtain rfl : i = n := by omega
      rw [List.getElem?_append_right (by rw [rowL_length]; omega), rowL_length]
      congr 1; omega
theorem row_of_owns {w : World} {base g cap n : Nat} {f : Nat → Int} (h : w.ownsRow base 38 5 (.slice (some ⟨g, 0, none⟩) n cap) n (rowL f n)) : RowAt w g n f := by
  intro i hi
  have key : ∀ j, j < 5 → w.cell? ⟨g, i * 5 + j, none⟩ = (insL (f i))[j]? := fun j hj => (h.cellAt (i * 5 + j) (by omega)).trans (rowL_get f n i j hi hj)
  exact ⟨key 0 (by omega), key 1 (by omega), key 2 (by omega), key 3 (by omega), key 4 (by omega)⟩

theorem owns_below10 {w w1 : World} {base e size n : Nat} {v : Value} {xs : List Value} (h : w.ownsRow base e size v n xs) (hb : Below w.heap.size w w1) : w1.ownsRow base e size v n xs :=
  h.kept (row := none) ⟨hb.os, hb.tape, hb.output, hb.size, fun k hk _ => hb.block k hk⟩ (by cases hv : v.ownBlock <;> simp)
theorem new2_cell10 (w : World) (o : Obj) (cs : Array Value) (t : TypeId) (j : Nat) (u : Value) (h : cs.toList[j]? = some u) : ((w.alloc o).alloc (.cells cs t)).cell? ((⟨w.heap.size + 1, 0, none⟩ : Addr).add j) = some u := by
  have e : (⟨w.heap.size + 1, 0, none⟩ : Addr).add j = ⟨w.heap.size + 1, j, none⟩ := by cases j <;> simp [Addr.add]
  have e2 : w.heap.size + 1 = (w.alloc o).heap.size := by simp
  rw [e, e2]
  exact new_cell _ _ _ j u (by simpa using h)

set_option maxHeartbeats 1000000 in
theorem rall_any (w : World) (b off len cap n : Nat) (f : Nat → Int) (hm : len ≤ 5000) (hf : ∀ i, 0 ≤ f i ∧ f i < 4294967296)
    (hc : ∀ i, i < len → w.cell? ⟨b, off + i, none⟩ = some (.int .u32 (f i))) (hok : ∀ i, i < n → okG (f i) = true) (hn : n ≤ len) (hbad : n < len → okG (f n) = false) :
    Calls Tryz.prog 20 #[.slice (some ⟨b, off, none⟩) len cap] w fun e w' => ((n = len ∧ ((len = 0 ∧ e = .returned (.tuple #[.slice none 0 0, .int .i64 (-1)])) ∨ ∃ g c, e = .returned (.tuple #[.slice (some ⟨g, 0, none⟩) len c, .int .i64 (-1)]) ∧ RowAt w' g len f)) ∨ (n < len ∧ e = .returned (.tuple #[.slice none 0 0, .int .i64 n]))) ∧ Below w.heap.size w w' := by
  obtain ⟨i0, hi, hz0, hz1, hz2⟩ := info_parts info23
  have HC : Hid (∀ i, i < len → w.cell? ⟨b, off + i, none⟩ = some (.int .u32 (f i))) := hc
  have HF : Hid (∀ i, 0 ≤ f i ∧ f i < 4294967296) := hf
  have HO : Hid (∀ i, i < n → okG (f i) = true) := hok
  have HN : Hid (n < len → okG (f n) = false) := hbad
  clear hc hf hok hbad
  go_enter Tryz.func20, Tryz.ntmps20
  go_wp2
  go_loopw [4, 5] (fun v i wr => ∃ k : Nat, k ≤ n ∧ i = .int .i64 k ∧ wr.ownsRow w.heap.size 38 5 v k (rowL f k) ∧ (k = 0 → v = .slice none 0 0) ∧ Below w.heap.size w wr) (fun _ i _ => len - (intOf i).toNat)
  case atStart => exact ⟨0, by omega, rfl, World.ownsRow_nil _ _ _ _, fun _ => rfl, Below.refl _ _⟩
  case round =>
    obtain ⟨k, hk, rfl, hown, hnil, hbel⟩ := hrel
    have HW : Hid (wr.ownsRow w.heap.size 38 5 u4 k (rowL f k)) := hown
    have HNil : Hid (k = 0 → u4 = .slice none 0 0) := hnil
    have HB : Hid (Below w.heap.size w wr) := hbel
    clear hown hnil hbel
    by_cases hlt : k < len
    · have c1 := cell_later' (HC.out k hlt) HB.out
      have hfk := HF.out k
      by_cases hkn : k < n
      · have HG : Hid (∀ wx, Calls Tryz.prog 13 #[.int .u32 (f k)] wx fun e w' => e = .returned (.tuple #[.agg #[.int .i64 (gO (f k)), .int .i64 (gA (f k)), .int .i64 (gB (f k)), .int .i64 (gC (f k)), .int .i64 (gI (f k))], .bool true]) ∧ Below wx.heap.size wx w') := by
          intro wx
          have := rget_all (f k) wx hfk.1 hfk.2
          unfold rgetV at this
          rw [if_pos (HO.out k hkn)] at this; exact this
        go_wp2_with fail
        refine Calls.mono (HG.out _) ?_
        rintro e w1 ⟨rfl, hb1⟩
        have HW1 := owns_below10 HW.out hb1
        have HB1 : Hid (Below w.heap.size w w1) := HB.out.trans (hb1.mono HB.out.size)
        have HW2 : Hid (w1.ownsRow w.heap.size 38 5 u4 k (rowL f k)) := HW1
        clear hb1 c1 hfk HW1
        go_wp2_with (at_builtin; refine wpList_append_own _ rfl _ _ 54 rfl w.heap.size 38 i0 _ 5 40 Tryz.underlying54 hi hz0 hz1 hz2 rfl (by decide) _ _ _ rfl ((HW2.out.alloc _).alloc _) ⟨w1.heap.size + 1, 0, none⟩ 1 1 (insL (f k)) rfl rfl ?c1 ?c2 ?c3 ?c4 ?c5 ?_)
        case c1 => intro j u hj; exact new2_cell10 _ _ _ _ j u hj
        case c2 => intro u hu; simp [insL] at hu; rcases hu with rfl | rfl | rfl | rfl | rfl <;> rfl
        case c3 => unfold maxLen; omega
        case c4 => omega
        case c5 => have := HB1.out.size; simp; omega
        intro v' w2 hown' hgrow _
        have hsz : w.heap.size ≤ ((w1.alloc (.cells #[.int .i64 (gO (f k)), .int .i64 (gA (f k)), .int .i64 (gB (f k)), .int .i64 (gC (f k)), .int .i64 (gI (f k))] 38)).alloc (.cells #[.int .i64 (gO (f k)), .int .i64 (gA (f k)), .int .i64 (gB (f k)), .int .i64 (gC (f k)), .int .i64 (gI (f k))] 38)).heap.size := by
          have := HB1.out.size; simp; omega
        have HB2 : Hid (Below w.heap.size w w2) := ((HB1.out.alloc HB1.out.size _).alloc (by have := HB1.out.size; simp; omega) _).grown hgrow hsz (fun q hq => (HW2.out.lt q hq).1)
        have HW3 : Hid (w2.ownsRow w.heap.size 38 5 v' (k + 1) (rowL f (k + 1))) := hown'
        clear hown' hgrow
        go_wp2
        go_roundw
        case rel => exact ⟨k + 1, by omega, by go_num, HW3.out, by omega, HB2.out⟩
        case measure => simp [intOf]; omega
      · obtain rfl : k = n := by omega
        have HG : Hid (∀ wx, Calls Tryz.prog 13 #[.int .u32 (f k)] wx fun e w' => e = .returned (.tuple #[.agg #[.int .i64 0, .int .i64 0, .int .i64 0, .int .i64 0, .int .i64 0], .bool false]) ∧ Below wx.heap.size wx w') := by
          intro wx
          have := rget_all (f k) wx hfk.1 hfk.2
          unfold rgetV at this
          rw [if_neg (by rw [HN.out hlt]; decide)] at this; exact this
        go_wp2_with fail
        refine Calls.mono (HG.out _) ?_
        rintro e w1 ⟨rfl, hb1⟩
        have HB1 : Hid (Below w.heap.size w w1) := HB.out.trans (hb1.mono HB.out.size)
        clear hb1 c1 hfk
        go_wp2
        go_ret2
        exact ⟨Or.inr ⟨hlt, rfl⟩, HB1.out.alloc HB1.out.size _⟩
    · obtain rfl : k = len := by omega
      obtain rfl : k = n := by omega
      go_wp2
      go_ret2
      refine ⟨?_, HB.out⟩
      rcases HW.out.2 with ⟨hv, h0⟩ | ⟨g, cap', cur, hv, _⟩
      · exact Or.inl ⟨h0, by rw [hv]; rfl⟩
      · exact Or.inr ⟨g, ⟨cap', by rw [hv]; rfl⟩, row_of_owns (base := w.heap.size) (cap := cap') (by rw [← hv]; exact HW.out)⟩


/-- The document's own All, of words. -/
theorem rall_words {A : Nat → Prop} {w : World} {v : Value} {l : List Int} (h : IsWords A w v l) (hne : l ≠ []) (hm : l.length ≤ 5000) :
    Calls Tryz.prog 20 #[v] w fun e w' => ((codesOk l ∧ ∃ g c, e = .returned (.tuple #[.slice (some ⟨g, 0, none⟩) l.length c, .int .i64 (-1)]) ∧ RowAt w' g l.length (gF l)) ∨ (¬ codesOk l ∧ ∃ k : Nat, k ≤ 5000 ∧ e = .returned (.tuple #[.slice none 0 0, .int .i64 k]))) ∧ Below w.heap.size w w' := by
  obtain ⟨n, h1, h2, h3⟩ := first_bad l
  have hc := codes_iff h1 h2 h3
  obtain ⟨a, c, rfl, -, -, hl⟩ := h.1
  have hlen : l.length ≠ 0 := fun e => hne (List.length_eq_zero_iff.1 e)
  rcases hl with e | ⟨b, off, rfl, hx⟩
  · exact absurd e hne
  · refine (rall_any w b off l.length c n (gF l) hm (words_bd h) (fun i hi => by have := hx i _ (gF_get hi); rw [Nat.mul_one] at this; exact this) h2 h1 h3).mono ?_
    rintro e w' ⟨⟨hn, ⟨h0, -⟩ | ⟨g, c', rfl, hr⟩⟩ | ⟨hn, rfl⟩, hb⟩
    · exact absurd h0 hlen
    · exact ⟨.inl ⟨hc.2 hn, g, c', rfl, hr⟩, hb⟩
    · exact ⟨.inr ⟨fun h => by have := hc.1 h; omega, n, by omega, rfl⟩, hb⟩
theorem XAt.set4 {W : World} {b : Nat} {a0 a1 a2 a3 u0 u1 u2 u3 : Value} (h : XAt W b [a0, a1, a2, a3]) : XAt ((((W.setCell ⟨b, 0, none⟩ u0).setCell ⟨b, 1, none⟩ u1).setCell ⟨b, 2, none⟩ u2).setCell ⟨b, 3, none⟩ u3) b [u0, u1, u2, u3] := by
  refine ⟨fun j v hj => ?_, fun q => by simpa using h.2 q⟩
  have h0 := h.1 0 _ rfl
  have h1 := h.1 1 _ rfl
  have h2 := h.1 2 _ rfl
  have h3 := h.1 3 _ rfl
  rcases j with _ | _ | _ | _ | j
  · simp at hj; subst hj; rw [oth (by simp), oth (by simp), oth (by simp)]; exact sam h0
  · simp at hj; subst hj; rw [oth (by simp), oth (by simp)]; exact sam (u := a1) (by rw [oth (by simp)]; exact h1)
  · simp at hj; subst hj; rw [oth (by simp)]; exact sam (u := a2) (by rw [oth (by simp), oth (by simp)]; exact h2)
  · simp at hj; subst hj; exact sam (u := a3) (by rw [oth (by simp), oth (by simp), oth (by simp)]; exact h3)
  · simp at hj
theorem results_rel2 {fn : Func} {p r : Tmp} (h : fn.results = #[.cell p 43, .tmp r]) (tmps : Array Value) (g : Nat) (hp : tmps.getD p undef = .pointer (some ⟨g, 0, none⟩)) (W : World) (a0 a1 a2 a3 : Value) (hA : XAt W g [a0, a1, a2, a3]) :
    (results fn tmps).run Tryz.prog W = .ok (.tuple #[.agg #[a0, a1, a2, a3], tmps.getD r undef]) W := by
  have hp' : tmps[p]?.getD undef = .pointer (some ⟨g, 0, none⟩) := by simpa using hp
  have e := run_loadVar_mid (P := Tryz.prog) W g 0 43 [a0, a1, a2, a3] _ (fun j v hv => by rw [Nat.zero_add]; exact hA.1 j v hv) Tryz.underlying43 rfl (by kernel_rfl)
  simp [results, h, hp', asAddr, e]
set_option maxRecDepth 100000 in
set_option maxHeartbeats 4000000 in
theorem rel_any {A : Nat → Prop} {w : World} {v : Value} {l : List RelM} (p : Nat) (h : IsRels A w v l) (hl : l.length ≤ 100000) :
    Calls Tryz.prog 21 #[v, .int .i64 (p : Int)] w fun e w' => (∃ xa xk xn xd, e = .returned (.tuple #[.agg #[.int .i64 xa, .int .i64 xk, .string xn, .int .i64 xd], .bool (hasB l p)])) ∧ Below w.heap.size w w' := by
  obtain ⟨a, c, rfl, -, -, lx⟩ := LstA.open h
  obtain ⟨n, en⟩ : ∃ n, l.length = n := ⟨_, rfl⟩
  rw [en] at hl lx ⊢
  have LX : Hid (∀ k, k < n → ∃ b off x, a = some ⟨b, off, none⟩ ∧ A b ∧ l[k]? = some x ∧ RelAt w b (off + k * 4) x) := lx
  have HN : Hid (l.length = n) := en
  have hn : (n : Int) ≤ 100000 := by omega
  clear h lx en
  have UP : Hid (Below w.heap.size w (w.alloc (.cells #[.int .i64 0, .int .i64 0, .string ⟨#[]⟩, .int .i64 0] 43))) := keep_alloc8 (Below.refl _ _) _
  have X1 : Hid (XAt (w.alloc (.cells #[.int .i64 0, .int .i64 0, .string ⟨#[]⟩, .int .i64 0] 43)) w.heap.size [.int .i64 0, .int .i64 0, .string ⟨#[]⟩, .int .i64 0]) := XAt.new _ _ _
  go_enter Tryz.func21, Tryz.ntmps21
  go_upto_region 1 with fail
  generalize w.alloc (.cells #[.int .i64 0, .int .i64 0, .string ⟨#[]⟩, .int .i64 0] 43) = w0 at UP X1 ⊢
  have hX : Hid (w.heap.size < w0.heap.size) := X1.out.lt (by simp)
  go_wp2
  go_loopw [6] (fun i wr => ∃ k : Nat, k ≤ n ∧ i = .int .i64 k ∧ hasB (l.take k) p = false ∧ Below w0.heap.size w0 wr) (fun i _ => n - (intOf i).toNat)
  case atStart => exact ⟨0, Nat.zero_le _, rfl, rfl, Below.refl _ _⟩
  case round =>
    obtain ⟨k, hk, rfl, hs, hbel⟩ := hrel
    have HB : Hid (Below w0.heap.size w0 wr) := hbel
    have HS : Hid (hasB (l.take k) p = false) := hs
    have y0 := (X1.out.later hX.out HB.out).1 0 _ rfl
    have y1 := (X1.out.later hX.out HB.out).1 1 _ rfl
    have y2 := (X1.out.later hX.out HB.out).1 2 _ rfl
    have y3 := (X1.out.later hX.out HB.out).1 3 _ rfl
    have fz : ∀ q, wr.frozen? ⟨w.heap.size, q, none⟩ = false := (X1.out.later hX.out HB.out).2
    have hlt : Hid (w.heap.size < wr.heap.size) := Nat.lt_of_lt_of_le hX.out HB.out.size
    clear hbel hs
    by_cases hlt : k < n
    · have hlt' : (k : Int) < n := by omega
      obtain ⟨q, off, ⟨xp, xk, xm, xd⟩, rfl, -, hx, x0, x1, x2, x3, -⟩ := LX.out k hlt
      dsimp only at x0 x1 x2 x3
      have TK : Hid (hasB (l.take (k + 1)) p = (hasB (l.take k) p || decide (xp = (p : Int)))) := has_take hx
      have HX : Hid (l[k]? = some ⟨xp, xk, xm, xd⟩) := hx
      replace x0 := cell_any x0 (bnext UP.out HB.out)
      replace x1 := cell_any x1 (bnext UP.out HB.out)
      replace x2 := cell_any x2 (bnext UP.out HB.out)
      replace x3 := cell_any x3 (bnext UP.out HB.out)
      clear hx
      by_cases hp : xp = (p : Int)
      · have E : Hid (hasB l p = true) := by
          unfold Hid hasB
          rw [List.any_eq_true]
          exact ⟨_, List.mem_of_getElem? HX.out, by simpa using hp⟩
        subst hp
        go_wp2
        exact bodyPost_ret (results_rel2 Tryz.results21 _ w.heap.size (by first | rfl | simp) _ _ _ _ _ (XAt.set4 (X1.out.later hX.out HB.out))) rfl ⟨⟨_, _, _, _, by rw [E.out]; rfl⟩, ((((bnext UP.out HB.out).setCell (p := ⟨w.heap.size, 0, none⟩) (Nat.le_refl _) _).setCell (p := ⟨w.heap.size, 1, none⟩) (Nat.le_refl _) _).setCell (p := ⟨w.heap.size, 2, none⟩) (Nat.le_refl _) _).setCell (p := ⟨w.heap.size, 3, none⟩) (Nat.le_refl _) _⟩
      · have R : Hid (hasB (l.take (k + 1)) p = false) := by unfold Hid; rw [TK.out, HS.out]; simpa using hp
        clear TK
        go_wp2
        go_roundw
        case rel => exact ⟨k + 1, by omega, by go_num, R.out, HB.out⟩
        case measure => simp [intOf]; omega
    · obtain rfl : k = n := by omega
      have E : Hid (hasB l p = false) := by have h := HS.out; rwa [← HN.out, List.take_length] at h
      go_wp2
      exact bodyPost_ret (results_rel2 Tryz.results21 _ w.heap.size (by first | rfl | simp) _ _ _ _ _ (XAt.set4 (X1.out.later hX.out HB.out))) rfl ⟨⟨_, _, _, _, by rw [E.out]; rfl⟩, ((((bnext UP.out HB.out).setCell (p := ⟨w.heap.size, 0, none⟩) (Nat.le_refl _) _).setCell (p := ⟨w.heap.size, 1, none⟩) (Nat.le_refl _) _).setCell (p := ⟨w.heap.size, 2, none⟩) (Nat.le_refl _) _).setCell (p := ⟨w.heap.size, 3, none⟩) (Nat.le_refl _) _⟩
theorem in_bd {z : Int} (h : 0 ≤ z ∧ z < 26) : z < 26 := h.2
set_option maxRecDepth 100000 in
set_option maxHeartbeats 8000000 in
theorem rfun_any {A : Nat → Prop} {w : World} {u : Value} {f : FuncM} (h : FuncV A w u f) (hm : f.code.length ≤ 5000) (hrm : f.rels.length ≤ 100000) :
    Calls Tryz.prog 9 #[u] w fun e w' => e = .returned (.int .i64 (fnE f)) ∧ Below w.heap.size w w' := by
  obtain ⟨vc, vr, rfl, hc, hr, -⟩ := h
  obtain ⟨xn, xb, lc, lr⟩ := f
  dsimp only at *
  obtain ⟨ca, cc, rfl, -, -, -⟩ := LstA.open hc.1
  obtain ⟨ra, rc, rfl, -, -, rx⟩ := LstA.open hr
  obtain ⟨FN, eF⟩ : ∃ F : FuncM, F = ⟨xn, xb, lc, lr⟩ := ⟨_, rfl⟩
  have F1 : Hid (¬ (bindOk xb ∧ lc ≠ []) → fnE FN = 4) := fun h => by rw [eF]; exact fnE_bind h
  have F2 : Hid ((bindOk xb ∧ lc ≠ []) → ¬ codesOk lc → fnE FN = 3) := fun h h1 => by rw [eF]; exact fnE_code h h1
  have F3 : Hid ((bindOk xb ∧ lc ≠ []) → codesOk lc → ¬ (relsUpto lc lr lr.length ∧ resolvedUpto lc lr lc.length) → fnE FN = 4) := fun h h1 h2 => by rw [eF]; exact fnE_rels h h1 h2
  have F4 : Hid ((bindOk xb ∧ lc ≠ []) → codesOk lc → (relsUpto lc lr lr.length ∧ resolvedUpto lc lr lc.length) → ¬ insideUpto lc lr lc.length → fnE FN = 7) := fun h h1 h2 h3 => by rw [eF]; exact fnE_inside h h1 h2 h3
  have F5 : Hid ((bindOk xb ∧ lc ≠ []) → codesOk lc → (relsUpto lc lr lr.length ∧ resolvedUpto lc lr lc.length) → insideUpto lc lr lc.length → ¬ lastOk lc → fnE FN = 4) := fun h h1 h2 h3 h4 => by rw [eF]; exact fnE_last h h1 h2 h3 h4
  have F6 : Hid ((bindOk xb ∧ lc ≠ []) → codesOk lc → (relsUpto lc lr lr.length ∧ resolvedUpto lc lr lc.length) → insideUpto lc lr lc.length → lastOk lc → fnE FN = 0) := fun h h1 h2 h3 h4 => by rw [eF]; exact fnE_ok h h1 h2 h3 h4
  rw [← eF]
  have IC : Hid (IsWords A w (.slice ca lc.length cc) lc) := hc
  have IR : Hid (IsRels A w (.slice ra lr.length rc) lr) := hr
  obtain ⟨n, en⟩ : ∃ n, lc.length = n := ⟨_, rfl⟩
  obtain ⟨m, em⟩ : ∃ m, lr.length = m := ⟨_, rfl⟩
  rw [en] at hm IC F3 F4 F5 F6 ⊢
  rw [em] at rx hrm IR F3 F4 F5 F6 ⊢
  have RX : Hid (∀ k, k < m → ∃ b off x, ra = some ⟨b, off, none⟩ ∧ A b ∧ lr[k]? = some x ∧ RelAt w b (off + k * 4) x) := rx
  have HN : Hid (lc.length = n ∧ lr.length = m) := ⟨en, em⟩
  have hn' : (n : Int) ≤ 5000 := by omega
  have hm' : (m : Int) ≤ 100000 := by omega
  have UP : Hid (Below w.heap.size w (w.alloc (.cells #[.string xn, .int .i64 xb, .slice ca n cc, .slice ra m rc] 25))) := keep_alloc8 (Below.refl _ _) _
  have X1 : Hid (XAt (w.alloc (.cells #[.string xn, .int .i64 xb, .slice ca n cc, .slice ra m rc] 25)) w.heap.size [.string xn, .int .i64 xb, .slice ca n cc, .slice ra m rc]) := XAt.new _ _ _
  clear hc hr rx en em eF
  go_enter Tryz.func9, Tryz.ntmps9
  go_upto_region 1 with fail
  generalize w.alloc (.cells #[.string xn, .int .i64 xb, .slice ca n cc, .slice ra m rc] 25) = w0 at UP X1 ⊢
  have hX : Hid (w.heap.size < w0.heap.size) := X1.out.lt (by simp)
  have y1 := X1.out.1 1 _ rfl
  have y2 := X1.out.1 2 _ rfl
  by_cases hB : bindOk xb ∧ lc ≠ []
  rotate_left
  · have E : Hid (fnE FN = 4) := F1.out hB
    by_cases h1 : bindOk xb
    · have h0 : n = 0 := by
        have : ¬ (lc ≠ []) := fun e => hB ⟨h1, e⟩
        rw [← HN.out.1]
        simpa using this
      subst h0
      rcases h1 with rfl | rfl | rfl
      all_goals
        go_wp2
        go_ret
        exact ⟨ret_int E.out.symm, UP.out⟩
    · have q1 : (xb != 1) = true := by simpa using fun e => h1 (.inl e)
      have q2 : (xb != 2) = true := by simpa using fun e => h1 (.inr (.inl e))
      have q3 : (xb != 3) = true := by simpa using fun e => h1 (.inr (.inr e))
      clear h1 hB
      go_wp2
      go_ret
      exact ⟨ret_int E.out.symm, UP.out⟩
  have HB0 : Hid (bindOk xb ∧ lc ≠ []) := hB
  have hn0 : 0 < n := by
    rw [← HN.out.1]
    exact List.length_pos_iff.2 hB.2
  have hn0' : ((n : Int) == 0) = false := by simp; omega
  have CA : Hid (∀ W, Below w0.heap.size w0 W → Calls Tryz.prog 20 #[.slice ca n cc] W fun e w' => ((codesOk lc ∧ ∃ g c, e = .returned (.tuple #[.slice (some ⟨g, 0, none⟩) n c, .int .i64 (-1)]) ∧ RowAt w' g n (gF lc)) ∨ (¬ codesOk lc ∧ ∃ k : Nat, k ≤ 5000 ∧ e = .returned (.tuple #[.slice none 0 0, .int .i64 k]))) ∧ Below W.heap.size W w') := fun W hW => by
    have h := IC.out.keep (Stay.of_below (bnext UP.out hW))
    rw [← HN.out.1] at h ⊢
    exact rall_words h HB0.out.2 (by rw [HN.out.1]; omega)
  have REL : Hid (∀ W (p : Nat), Below w0.heap.size w0 W → Calls Tryz.prog 21 #[.slice ra m rc, .int .i64 (p : Int)] W fun e w' => (∃ xa xk xn xd, e = .returned (.tuple #[.agg #[.int .i64 xa, .int .i64 xk, .string xn, .int .i64 xd], .bool (hasB lr p)])) ∧ Below W.heap.size W w') := fun W p hW => by
    have h := IR.out.keep (Stay.of_below (bnext UP.out hW))
    rw [← HN.out.2] at h ⊢
    exact rel_any p h (by rw [HN.out.2]; omega)
  replace F2 := Hid.mk0 (F2.out HB0.out)
  replace F3 := Hid.mk0 (F3.out HB0.out)
  replace F4 := Hid.mk0 (F4.out HB0.out)
  replace F5 := Hid.mk0 (F5.out HB0.out)
  replace F6 := Hid.mk0 (F6.out HB0.out)
  have KD : Hid (∀ W (i : Nat), codesOk lc → i < n → Calls Tryz.prog 14 #[.agg #[.int .i64 (gO (gF lc i)), .int .i64 (gA (gF lc i)), .int .i64 (gB (gF lc i)), .int .i64 (gC (gF lc i)), .int .i64 (gI (gF lc i))]] W fun e w' => e = .returned (.int .i64 (kindZ (gO (gF lc i)))) ∧ Below W.heap.size W w') := fun W i hok hi => by
    have h := gO_bd (hok _ (List.mem_of_getElem? (gF_get (by rw [HN.out.1]; exact hi))))
    exact rkind_any _ _ _ _ _ W h.1 h.2
  go_cut [35] from 17 to 34 (fun z wx => z = .bool false ∧ wx = w0)
  case first =>
    rcases hB.1 with rfl | rfl | rfl
    all_goals
      go_wp2
      go_meet
      exact ⟨rfl, rfl⟩
  obtain ⟨rfl, hwc⟩ := hcut
  obtain rfl := hwc.symm
  clear y1 hB
  go_upto_region 6 with (go_at_call 20; refine (CA.out _ (Below.refl _ _)).mono ?_; rintro e w1 ⟨⟨hok, g, gc, rfl, hrow⟩ | ⟨hno, q, hq, rfl⟩, b1⟩; rotate_left; have hq' : (0 : Int) ≤ (q : Int) := Int.natCast_nonneg _)
  · have E : Hid (fnE FN = 3) := F2.out hno
    go_wp2
    go_ret
    exact ⟨ret_int E.out.symm, bnext UP.out b1⟩
  have B1 : Hid (Below w0.heap.size w0 w1) := b1
  have OK : Hid (codesOk lc) := hok
  have HC : Hid (RowAt w1 g n (gF lc)) := hrow
  replace F3 := Hid.mk0 (F3.out hok)
  replace F4 := Hid.mk0 (F4.out hok)
  replace F5 := Hid.mk0 (F5.out hok)
  replace F6 := Hid.mk0 (F6.out hok)
  clear b1 hok hrow CA F1 F2 y2 hn0'
  go_wp2
  go_loopw [5] (fun i wr => ∃ k : Nat, k ≤ m ∧ i = .int .i64 k ∧ relsUpto lc lr k ∧ Below w1.heap.size w1 wr) (fun i _ => m - (intOf i).toNat)
  case atStart => exact ⟨0, Nat.zero_le _, rfl, (fun i r hi => by omega), Below.refl _ _⟩
  case round =>
    obtain ⟨k, hk, rfl, hs, hbel⟩ := hrel
    have HB : Hid (Below w1.heap.size w1 wr) := hbel
    have HS : Hid (relsUpto lc lr k) := hs
    have B0r : Hid (Below w0.heap.size w0 wr) := bnext B1.out HB.out
    have BB : Hid (Below w.heap.size w wr) := bnext UP.out B0r.out
    have bd : -1 ≤ aheadZ lr k ∧ aheadZ lr k < 5000 := by rcases ahead_bd hs (by rw [HN.out.2]; exact hk) with h | h <;> (have := HN.out.1; omega)
    have y3 := (X1.out.later hX.out B0r.out).1 3 _ rfl
    clear hbel hs
    by_cases hlt : k < m
    · have hlt' : (k : Int) < m := by omega
      obtain ⟨q, off, ⟨xp, xk, xm, xd⟩, rfl, -, hx, x0, x1, x2, x3, -⟩ := RX.out k hlt
      dsimp only at x0 x1 x2 x3
      have HX : Hid (lr[k]? = some ⟨xp, xk, xm, xd⟩) := hx
      have NO : Hid (¬ relAtOk lc (aheadZ lr k) ⟨xp, xk, xm, xd⟩ → fnE FN = 4) := fun h1 => F3.out fun h2 => h1 (h2.1 k _ hlt hx)
      have YES : Hid (relAtOk lc (aheadZ lr k) ⟨xp, xk, xm, xd⟩ → relsUpto lc lr (k + 1)) := fun h => relsUpto_next HS.out hx h
      have PV : Hid (k = 0 ∧ aheadZ lr k = -1 ∨ ∃ j pv, k = j + 1 ∧ aheadZ lr k = pv ∧ w.cell? ⟨q, off + j * 4, none⟩ = some (.int .i64 pv)) := by
        cases k with
        | zero => exact .inl ⟨rfl, rfl⟩
        | succ j =>
          right
          obtain ⟨q', off', r', e', -, hx', x0', -⟩ := RX.out j (by omega)
          simp only [Option.some.injEq, Addr.mk.injEq, and_true] at e'
          obtain ⟨rfl, rfl⟩ := e'
          exact ⟨j, r'.at_, rfl, ahead_succ hx', x0'⟩
      generalize aheadZ lr k = ah at bd NO YES PV
      have HR : Hid (relAtOk lc ah ⟨xp, xk, xm, xd⟩ ↔ ah < xp ∧ xp < n ∧ goesB ⟨xp, xk, xm, xd⟩ (gO (gF lc xp.toNat)) (gI (gF lc xp.toNat)) = true) := by unfold Hid relAtOk; rw [HN.out.1]; exact Iff.rfl
      replace x0 := cell_any x0 BB.out
      replace x1 := cell_any x1 BB.out
      replace x2 := cell_any x2 BB.out
      replace x3 := cell_any x3 BB.out
      clear hx
      go_upto_region 10 with fail
      have U3 : Hid (Below wr.heap.size wr (wr.alloc (.cells #[.int .i64 xp, .int .i64 xk, .string xm, .int .i64 xd] 43))) := keep_alloc8 (Below.refl _ _) _
      have X3 : Hid (XAt (wr.alloc (.cells #[.int .i64 xp, .int .i64 xk, .string xm, .int .i64 xd] 43)) wr.heap.size [.int .i64 xp, .int .i64 xk, .string xm, .int .i64 xd]) := XAt.new _ _ _
      generalize wr.alloc (.cells #[.int .i64 xp, .int .i64 xk, .string xm, .int .i64 xd] 43) = w2 at U3 X3 ⊢
      have hX3 : Hid (wr.heap.size < w2.heap.size) := X3.out.lt (by simp)
      replace y3 := cell_any y3 U3.out
      clear x0 x1 x2 x3
      have x0 := X3.out.1 0 _ rfl
      obtain ⟨B, hB⟩ : ∃ B : Bool, (B = true ↔ ¬ (ah < xp ∧ xp < n)) := ⟨decide (¬ (ah < xp ∧ xp < n)), decide_eq_true_iff⟩
      have HBd : Hid (B = true ↔ ¬ (ah < xp ∧ xp < n)) := hB
      clear hB
      go_cut [81] from 56 to 80 (fun z wx => z = .bool B ∧ Below w2.heap.size w2 wx)
      case first =>
        by_cases hp0 : xp < 0
        · obtain rfl : B = true := HBd.out.2 (by omega)
          have g1 : decide (xp < 0) = true := by simpa using hp0
          go_quiet (fail)
          go_wp2
          go_meet
          exact ⟨rfl, below_drewN (Below.refl _ _) _⟩
        have g1 : decide (xp < 0) = false := by simpa using hp0
        by_cases hp1 : (n : Int) ≤ xp
        · obtain rfl : B = true := HBd.out.2 (by omega)
          replace hp0 : 0 ≤ xp := by omega
          go_quiet (fail)
          go_wp2
          go_meet
          exact ⟨rfl, below_drewN (Below.refl _ _) _⟩
        have g2 : decide ((n : Int) ≤ xp) = false := by simpa using hp1
        replace hp0 : 0 ≤ xp := by omega
        replace hp1 : xp < (n : Int) := by omega
        rcases PV.out with ⟨rfl, e⟩ | ⟨j, pv, rfl, e, e4⟩
        · obtain rfl : B = false := by
            cases B
            · rfl
            · exact absurd (HBd.out.1 rfl) (by omega)
          clear HBd NO YES HR
          go_quiet (fail)
          go_wp2
          go_meet
          exact ⟨rfl, below_drewN (Below.refl _ _) _⟩
        · replace e4 := cell_any e4 (bnext BB.out U3.out)
          have g4 : (0 : Int) < (j : Int) + 1 := by omega
          by_cases hp2 : xp ≤ pv
          · obtain rfl : B = true := HBd.out.2 (by omega)
            clear HBd NO YES HR e
            go_quiet (fail)
            go_wp2
            go_meet
            exact ⟨rfl, below_drewN (Below.refl _ _) _⟩
          · obtain rfl : B = false := by
              cases B
              · rfl
              · exact absurd (HBd.out.1 rfl) (by omega)
            have g5 : decide (xp ≤ pv) = false := by simpa using hp2
            replace hp2 : pv < xp := by omega
            clear HBd NO YES HR e
            go_quiet (fail)
            go_wp2
            go_meet
            exact ⟨rfl, below_drewN (Below.refl _ _) _⟩
      obtain ⟨rfl, hwc⟩ := hcut
      have U4 : Hid (Below w2.heap.size w2 wc) := hwc
      have B4 : Hid (Below w1.heap.size w1 wc) := bnext (bnext HB.out U3.out) U4.out
      clear hwc y3 x0 PV
      cases B
      rotate_left
      · have E : Hid (fnE FN = 4) := NO.out fun h => HBd.out.1 rfl ⟨(HR.out.1 h).1, (HR.out.1 h).2.1⟩
        go_wp2
        go_ret
        exact ⟨ret_int E.out.symm, bnext UP.out (bnext B1.out B4.out)⟩
      have h12 : ah < xp ∧ xp < n := by
        have h := HBd.out
        simp at h
        omega
      obtain ⟨h1, h2⟩ := h12
      obtain ⟨p, rfl⟩ := Int.eq_ofNat_of_zero_le (a := xp) (by omega)
      have hpn : p < n := by omega
      rw [Int.toNat_natCast] at HR
      clear HBd
      have x0 := (X3.out.later hX3.out U4.out).1 0 _ rfl
      have x1 := (X3.out.later hX3.out U4.out).1 1 _ rfl
      have x3 := (X3.out.later hX3.out U4.out).1 3 _ rfl
      obtain ⟨c0, c1, c2, c3, c4⟩ := HC.out.later B4.out p hpn
      obtain ⟨G, eG⟩ : ∃ G, goesB ⟨p, xk, xm, xd⟩ (gO (gF lc p)) (gI (gF lc p)) = G := ⟨_, rfl⟩
      have HG : Hid (G = true ↔ gI (gF lc p) = 0 ∧ (xk = 1 ∧ (gO (gF lc p) = 20 ∨ gO (gF lc p) = 19) ∧ xd = 0 ∨ xk = 2 ∧ gO (gF lc p) = 9 ∨ xk = 3 ∧ gO (gF lc p) = 10)) := by rw [← eG]; unfold Hid goesB; exact decide_eq_true_iff
      rw [eG] at HR
      clear eG
      generalize gO (gF lc p) = vO at c0 HG
      generalize gA (gF lc p) = vA at c1
      generalize gB (gF lc p) = vB at c2
      generalize gC (gF lc p) = vC at c3
      generalize gI (gF lc p) = vI at c4 HG
      go_upto_region 13 with fail
      have U5 : Hid (Below wc.heap.size wc (wc.alloc (.cells #[.int .i64 vO, .int .i64 vA, .int .i64 vB, .int .i64 vC, .int .i64 vI] 38))) := keep_alloc8 (Below.refl _ _) _
      have X5 : Hid (XAt (wc.alloc (.cells #[.int .i64 vO, .int .i64 vA, .int .i64 vB, .int .i64 vC, .int .i64 vI] 38)) wc.heap.size [.int .i64 vO, .int .i64 vA, .int .i64 vB, .int .i64 vC, .int .i64 vI]) := XAt.new _ _ _
      generalize wc.alloc (.cells #[.int .i64 vO, .int .i64 vA, .int .i64 vB, .int .i64 vC, .int .i64 vI] 38) = w5 at U5 X5 ⊢
      have B5 : Hid (Below w1.heap.size w1 w5) := bnext B4.out U5.out
      replace x1 := cell_any x1 U5.out
      replace x3 := cell_any x3 U5.out
      clear x0 c0 c1 c2 c3 c4
      have z0 := X5.out.1 0 _ rfl
      have z4 := X5.out.1 4 _ rfl
      obtain ⟨L, hL⟩ : ∃ L : Bool, (L = true ↔ xk = 1 ∧ (vO = 20 ∨ vO = 19) ∧ xd = 0) := ⟨decide (xk = 1 ∧ (vO = 20 ∨ vO = 19) ∧ xd = 0), decide_eq_true_iff⟩
      have HL : Hid (L = true ↔ xk = 1 ∧ (vO = 20 ∨ vO = 19) ∧ xd = 0) := hL
      clear hL
      go_cut [8] from 87 to 104 (fun z wx => z = .bool L ∧ wx = w5)
      case first =>
        by_cases k1 : xk = 1
        rotate_left
        · obtain rfl : L = false := by
            cases L
            · rfl
            · exact absurd (HL.out.1 rfl).1 k1
          have g1 : (xk == 1) = false := by simpa using k1
          clear k1
          go_wp2
          go_meet
          exact ⟨rfl, rfl⟩
        subst k1
        by_cases k2 : vO = 20 ∨ vO = 19
        rotate_left
        · obtain rfl : L = false := by
            cases L
            · rfl
            · exact absurd (HL.out.1 rfl).2.1 k2
          have g1 : (vO == 20) = false := by simp; omega
          have g2 : (vO == 19) = false := by simp; omega
          clear k2
          go_wp2
          go_meet
          exact ⟨rfl, rfl⟩
        by_cases k3 : xd = 0
        · obtain rfl : L = true := HL.out.2 ⟨rfl, k2, k3⟩
          subst k3
          rcases k2 with rfl | rfl
          all_goals
            go_wp2
            go_meet
            exact ⟨rfl, rfl⟩
        · obtain rfl : L = false := by
            cases L
            · rfl
            · exact absurd (HL.out.1 rfl).2.2 k3
          have g1 : (xd == 0) = false := by simpa using k3
          clear k3
          rcases k2 with rfl | rfl
          all_goals
            go_wp2
            go_meet
            exact ⟨rfl, rfl⟩
      obtain ⟨rfl, hwc⟩ := hcut
      obtain rfl := hwc.symm
      have HG2 : Hid (G = true ↔ vI = 0 ∧ (L = true ∨ xk = 2 ∧ vO = 9 ∨ xk = 3 ∧ vO = 10)) := by unfold Hid; rw [HG.out, HL.out]
      clear HG HL x3
      go_upto_region 14 with fail
      go_cut [133] from 105 to 132 (fun z wx => z = .bool (!G) ∧ wx = w5)
      case first =>
        by_cases k0 : L = true ∨ xk = 2 ∧ vO = 9 ∨ xk = 3 ∧ vO = 10
        rotate_left
        · obtain rfl : G = false := by
            cases G
            · rfl
            · exact absurd (HG2.out.1 rfl).2 k0
          obtain rfl : L = false := by
            cases L
            · rfl
            · exact absurd (.inl rfl) k0
          by_cases k2 : xk = 2
          · subst k2
            have g1 : (vO == 9) = false := by simp; omega
            clear k0
            go_wp2
            go_meet
            exact ⟨rfl, rfl⟩
          · have g2 : (xk == 2) = false := by simpa using k2
            by_cases k3 : xk = 3
            · subst k3
              have g1 : (vO == 10) = false := by simp; omega
              clear k0 k2
              go_wp2
              go_meet
              exact ⟨rfl, rfl⟩
            · have g3 : (xk == 3) = false := by simpa using k3
              clear k0 k2 k3
              go_wp2
              go_meet
              exact ⟨rfl, rfl⟩
        have GI : Hid (G = true ↔ vI = 0) := ⟨fun h => (HG2.out.1 h).1, fun h => HG2.out.2 ⟨h, k0⟩⟩
        have eg : (vI != 0) = !G := by
          cases G
          · have : vI ≠ 0 := fun e => by have := GI.out.2 e; cases this
            simpa using this
          · have := GI.out.1 rfl
            simp [this]
        cases L
        · rcases (by simpa using k0 : xk = 2 ∧ vO = 9 ∨ xk = 3 ∧ vO = 10) with ⟨rfl, rfl⟩ | ⟨rfl, rfl⟩
          all_goals
            clear k0
            go_wp2
            go_meet
            first | exact ⟨rfl, rfl⟩ | exact ⟨by rw [eg], rfl⟩
        · clear k0
          go_wp2
          go_meet
          first | exact ⟨rfl, rfl⟩ | exact ⟨by rw [eg], rfl⟩
      obtain ⟨rfl, hwc⟩ := hcut
      obtain rfl := hwc.symm
      clear x1 z0 z4 HG2
      cases G
      · have E : Hid (fnE FN = 4) := NO.out fun h => by have := (HR.out.1 h).2.2; cases this
        go_wp2
        go_ret
        exact ⟨ret_int E.out.symm, bnext UP.out (bnext B1.out B5.out)⟩
      · have R : Hid (relsUpto lc lr (k + 1)) := YES.out (HR.out.2 ⟨h1, h2, rfl⟩)
        clear NO YES HR
        go_wp2
        go_roundw
        case rel => exact ⟨k + 1, by omega, by go_num, R.out, B5.out⟩
        case measure => simp [intOf]; omega
    · obtain rfl : k = m := by omega
      replace F3 : Hid (¬ resolvedUpto lc lr n → fnE FN = 4) := fun h => F3.out fun h2 => h h2.2
      replace F4 : Hid (resolvedUpto lc lr n → ¬ insideUpto lc lr n → fnE FN = 7) := fun h => F4.out ⟨HS.out, h⟩
      replace F5 : Hid (resolvedUpto lc lr n → insideUpto lc lr n → ¬ lastOk lc → fnE FN = 4) := fun h => F5.out ⟨HS.out, h⟩
      replace F6 : Hid (resolvedUpto lc lr n → insideUpto lc lr n → lastOk lc → fnE FN = 0) := fun h => F6.out ⟨HS.out, h⟩
      clear HS RX bd
      go_wp2
      go_loopw [9] (fun i wr => ∃ k2 : Nat, k2 ≤ n ∧ i = .int .i64 k2 ∧ resolvedUpto lc lr k2 ∧ Below w1.heap.size w1 wr) (fun i _ => n - (intOf i).toNat)
      case atStart => exact ⟨0, Nat.zero_le _, rfl, (fun i r hi => by omega), HB.out⟩
      case round =>
        clear HB B0r BB y3
        obtain ⟨k2, hk2, rfl, hs, hbel⟩ := hrel
        have HB : Hid (Below w1.heap.size w1 wr) := hbel
        have HS : Hid (resolvedUpto lc lr k2) := hs
        have B0r : Hid (Below w0.heap.size w0 wr) := bnext B1.out HB.out
        have y3 := (X1.out.later hX.out B0r.out).1 3 _ rfl
        clear hbel hs
        by_cases hlt2 : k2 < n
        · have hlt2' : (k2 : Int) < n := by omega
          have HX : Hid (lc[k2]? = some (gF lc k2)) := gF_get (by rw [HN.out.1]; exact hlt2)
          have NO : Hid (gO (gF lc k2) = 20 → hasB lr k2 = false → fnE FN = 4) := fun h1 h2 => F3.out fun h => by have := h k2 _ hlt2 HX.out h1; rw [h2] at this; cases this
          have YES : Hid ((gO (gF lc k2) = 20 → hasB lr k2 = true) → resolvedUpto lc lr (k2 + 1)) := fun h => resolvedUpto_next HS.out HX.out h
          replace REL := REL
          have RL : Hid (∀ W, Below w0.heap.size w0 W → Calls Tryz.prog 21 #[.slice ra k rc, .int .i64 (k2 : Int)] W fun e w' => (∃ xa xk xn xd, e = .returned (.tuple #[.agg #[.int .i64 xa, .int .i64 xk, .string xn, .int .i64 xd], .bool (hasB lr k2)])) ∧ Below W.heap.size W w') := fun W hW => REL.out W k2 hW
          generalize hasB lr k2 = b at NO YES RL
          go_upto_region 20 with (go_at_call 21; refine (RL.out _ B0r.out).mono ?_; rintro e w3 ⟨⟨ya, yk, yn, yd, rfl⟩, b3⟩)
          have U3 : Hid (Below w1.heap.size w1 (w3.alloc (.cells #[.int .i64 ya, .int .i64 yk, .string yn, .int .i64 yd] 43))) := bnext HB.out (keep_alloc8 b3 _)
          generalize w3.alloc (.cells #[.int .i64 ya, .int .i64 yk, .string yn, .int .i64 yd] 43) = w4 at U3 ⊢
          clear y3 b3
          obtain ⟨c0, -⟩ := HC.out.later U3.out k2 hlt2
          generalize gO (gF lc k2) = vO at c0 NO YES
          by_cases h20 : vO = 20
          · subst h20
            cases b
            · have E : Hid (fnE FN = 4) := NO.out rfl rfl
              clear YES
              go_wp2
              go_ret
              exact ⟨ret_int E.out.symm, bnext UP.out (bnext B1.out U3.out)⟩
            · have R : Hid (resolvedUpto lc lr (k2 + 1)) := YES.out fun _ => rfl
              clear NO YES
              go_wp2
              go_roundw
              case rel => exact ⟨k2 + 1, by omega, by go_num, R.out, U3.out⟩
              case measure => simp [intOf]; omega
          · have g1 : (vO == 20) = false := by simpa using h20
            have R : Hid (resolvedUpto lc lr (k2 + 1)) := YES.out fun e => absurd e h20
            clear NO YES h20
            go_wp2
            go_roundw
            case rel => exact ⟨k2 + 1, by omega, by go_num, R.out, U3.out⟩
            case measure => simp [intOf]; omega
        · obtain rfl : k2 = n := by omega
          replace F4 := Hid.mk0 (F4.out HS.out)
          replace F5 := Hid.mk0 (F5.out HS.out)
          replace F6 := Hid.mk0 (F6.out HS.out)
          clear HS F3
          go_wp2
          go_loopw [12] (fun i wr => ∃ k3 : Nat, k3 ≤ k2 ∧ i = .int .i64 k3 ∧ insideUpto lc lr k3 ∧ Below w1.heap.size w1 wr) (fun i _ => k2 - (intOf i).toNat)
          case atStart => exact ⟨0, Nat.zero_le _, rfl, (fun i r hi => by omega), HB.out⟩
          case round =>
            clear HB B0r y3
            obtain ⟨k3, hk3, rfl, hs, hbel⟩ := hrel
            have HB : Hid (Below w1.heap.size w1 wr) := hbel
            have HS : Hid (insideUpto lc lr k3) := hs
            have B0r : Hid (Below w0.heap.size w0 wr) := bnext B1.out HB.out
            have y3 := (X1.out.later hX.out B0r.out).1 3 _ rfl
            clear hbel hs
            by_cases hlt3 : k3 < k2
            · have hlt3' : (k3 : Int) < k2 := by omega
              have HX : Hid (lc[k3]? = some (gF lc k3)) := gF_get (by rw [HN.out.1]; exact hlt3)
              have HI : Hid (insideAt lc lr k3 (gF lc k3) ↔ ((kindZ (gO (gF lc k3)) = 2 ∨ kindZ (gO (gF lc k3)) = 3) → hasB lr k3 = false → 0 ≤ (k3 : Int) + 1 + gI (gF lc k3) ∧ (k3 : Int) + 1 + gI (gF lc k3) < k2)) := by unfold Hid insideAt; rw [HN.out.1]
              have NO : Hid (¬ insideAt lc lr k3 (gF lc k3) → fnE FN = 7) := fun h1 => F4.out fun h => h1 (h k3 _ hlt3 HX.out)
              have YES : Hid (insideAt lc lr k3 (gF lc k3) → insideUpto lc lr (k3 + 1)) := fun h => insideUpto_next HS.out HX.out h
              have RL : Hid (∀ W, Below w0.heap.size w0 W → Calls Tryz.prog 21 #[.slice ra k rc, .int .i64 (k3 : Int)] W fun e w' => (∃ xa xk xn xd, e = .returned (.tuple #[.agg #[.int .i64 xa, .int .i64 xk, .string xn, .int .i64 xd], .bool (hasB lr k3)])) ∧ Below W.heap.size W w') := fun W hW => REL.out W k3 hW
              have KK : Hid (∀ W, Calls Tryz.prog 14 #[.agg #[.int .i64 (gO (gF lc k3)), .int .i64 (gA (gF lc k3)), .int .i64 (gB (gF lc k3)), .int .i64 (gC (gF lc k3)), .int .i64 (gI (gF lc k3))]] W fun e w' => e = .returned (.int .i64 (kindZ (gO (gF lc k3)))) ∧ Below W.heap.size W w') := fun W => KD.out W k3 OK.out hlt3
              have kb := kindZ_bd (gO (gF lc k3))
              have ib := gI_bd (gF lc k3)
              generalize hasB lr k3 = b at HI RL
              go_upto_region 26 with (go_at_call 21; refine (RL.out _ B0r.out).mono ?_; rintro e w3 ⟨⟨ya, yk, yn, yd, rfl⟩, b3⟩)
              have U3 : Hid (Below w1.heap.size w1 (w3.alloc (.cells #[.int .i64 ya, .int .i64 yk, .string yn, .int .i64 yd] 43))) := bnext HB.out (keep_alloc8 b3 _)
              generalize w3.alloc (.cells #[.int .i64 ya, .int .i64 yk, .string yn, .int .i64 yd] 43) = w4 at U3 ⊢
              clear y3 b3
              obtain ⟨c0, c1, c2, c3, c4⟩ := HC.out.later U3.out k3 hlt3
              generalize insideAt lc lr k3 (gF lc k3) = IA at HI NO YES
              generalize kindZ (gO (gF lc k3)) = K at kb HI KK
              generalize gO (gF lc k3) = vO at c0 KK
              generalize gA (gF lc k3) = vA at c1 KK
              generalize gB (gF lc k3) = vB at c2 KK
              generalize gC (gF lc k3) = vC at c3 KK
              generalize gI (gF lc k3) = vI at c4 ib HI KK
              go_upto_region 27 with (go_at_call 14; refine (KK.out _).mono ?_; rintro e w5 ⟨rfl, b5⟩)
              have U5 : Hid (Below w1.heap.size w1 w5) := bnext U3.out b5
              replace c4 := cell_any c4 b5
              clear c0 c1 c2 c3 b5 KK RL
              obtain ⟨B, hB⟩ : ∃ B : Bool, (B = true ↔ ¬ IA) := by
                by_cases h : IA
                · exact ⟨false, by simp [h]⟩
                · exact ⟨true, by simp [h]⟩
              have HBd : Hid (B = true ↔ ¬ IA) := hB
              have HBf : Hid (IA → B = false) := fun h => by
                cases B
                · rfl
                · exact absurd h (hB.1 rfl)
              clear hB
              go_cut [208] from 175 to 207 (fun z wx => z = .bool B ∧ wx = w5)
              case first =>
                by_cases hK : K = 2 ∨ K = 3
                rotate_left
                · obtain rfl := HBf.out (HI.out.2 fun h => absurd h hK)
                  have g1 : (K == 2) = false := by simp; omega
                  have g2 : (K == 3) = false := by simp; omega
                  clear hK HI
                  go_wp2
                  go_meet
                  exact ⟨rfl, rfl⟩
                cases b
                rotate_left
                · obtain rfl := HBf.out (HI.out.2 fun _ h => by cases h)
                  clear HI
                  rcases hK with rfl | rfl
                  all_goals
                    go_wp2
                    go_meet
                    exact ⟨rfl, rfl⟩
                by_cases s1 : (k3 : Int) + 1 + vI < 0
                · obtain rfl := HBd.out.2 fun h => by have := HI.out.1 h hK rfl; omega
                  have g1 : decide ((k3 : Int) + 1 + vI < 0) = true := by simpa using s1
                  clear HI
                  rcases hK with rfl | rfl
                  all_goals
                    go_wp2
                    go_meet
                    exact ⟨rfl, rfl⟩
                have g1 : decide ((k3 : Int) + 1 + vI < 0) = false := by simpa using s1
                by_cases s2 : (k2 : Int) ≤ (k3 : Int) + 1 + vI
                · obtain rfl := HBd.out.2 fun h => by have := HI.out.1 h hK rfl; omega
                  have g2 : decide ((k2 : Int) ≤ (k3 : Int) + 1 + vI) = true := by simpa using s2
                  replace s1 : 0 ≤ (k3 : Int) + 1 + vI := by omega
                  clear HI
                  rcases hK with rfl | rfl
                  all_goals
                    go_wp2
                    go_meet
                    exact ⟨rfl, rfl⟩
                · obtain rfl := HBf.out (HI.out.2 fun _ _ => by omega)
                  have g2 : decide ((k2 : Int) ≤ (k3 : Int) + 1 + vI) = false := by simpa using s2
                  replace s1 : 0 ≤ (k3 : Int) + 1 + vI := by omega
                  replace s2 : (k3 : Int) + 1 + vI < k2 := by omega
                  clear HI
                  rcases hK with rfl | rfl
                  all_goals
                    go_wp2
                    go_meet
                    exact ⟨rfl, rfl⟩
              obtain ⟨rfl, hwc⟩ := hcut
              obtain rfl := hwc.symm
              clear HI HBf c4 ib kb
              cases B
              · have R : Hid (insideUpto lc lr (k3 + 1)) := YES.out (Classical.not_not.1 fun h => by have := HBd.out.2 h; cases this)
                clear NO YES HBd
                go_wp2
                go_roundw
                case rel => exact ⟨k3 + 1, by omega, by go_num, R.out, U5.out⟩
                case measure => simp [intOf]; omega
              · have E : Hid (fnE FN = 7) := NO.out (HBd.out.1 rfl)
                clear NO YES HBd
                go_wp2
                go_ret
                exact ⟨ret_int E.out.symm, bnext UP.out (bnext B1.out U5.out)⟩
            · obtain rfl : k3 = k2 := by omega
              replace F5 := Hid.mk0 (F5.out HS.out)
              replace F6 := Hid.mk0 (F6.out HS.out)
              clear HS F4 y3
              obtain ⟨j, rfl⟩ : ∃ j, k3 = j + 1 := ⟨k3 - 1, by omega⟩
              have hj : (j : Int) < (j : Int) + 1 := by omega
              have HX : Hid (∀ x, lc[lc.length - 1]? = some x ↔ gF lc j = x) := fun x => by
                rw [HN.out.1, Nat.add_sub_cancel, gF_get (l := lc) (i := j) (by rw [HN.out.1]; omega)]
                simp
              have NO : Hid (¬ (kindZ (gO (gF lc j)) = 3 ∨ kindZ (gO (gF lc j)) = 5) → fnE FN = 4) := fun h => F5.out fun h2 => h (h2 _ ((HX.out _).2 rfl))
              have YES : Hid ((kindZ (gO (gF lc j)) = 3 ∨ kindZ (gO (gF lc j)) = 5) → fnE FN = 0) := fun h => F6.out fun x hx => by rw [← (HX.out x).1 hx]; exact h
              have KK : Hid (∀ W, Calls Tryz.prog 14 #[.agg #[.int .i64 (gO (gF lc j)), .int .i64 (gA (gF lc j)), .int .i64 (gB (gF lc j)), .int .i64 (gC (gF lc j)), .int .i64 (gI (gF lc j))]] W fun e w' => e = .returned (.int .i64 (kindZ (gO (gF lc j)))) ∧ Below W.heap.size W w') := fun W => KD.out W j OK.out (by omega)
              obtain ⟨c0, c1, c2, c3, c4⟩ := HC.out.later HB.out j (by omega)
              clear F5 F6 HX
              generalize kindZ (gO (gF lc j)) = K at NO YES KK
              generalize gO (gF lc j) = vO at c0 KK
              generalize gA (gF lc j) = vA at c1 KK
              generalize gB (gF lc j) = vB at c2 KK
              generalize gC (gF lc j) = vC at c3 KK
              generalize gI (gF lc j) = vI at c4 KK
              go_upto_region 30 with (go_at_call 14; refine (KK.out _).mono ?_; rintro e w5 ⟨rfl, b5⟩)
              have U5 : Hid (Below w1.heap.size w1 w5) := bnext HB.out b5
              clear c0 c1 c2 c3 c4 b5 KK
              by_cases hK : K = 3 ∨ K = 5
              · have E : Hid (fnE FN = 0) := YES.out hK
                clear NO YES
                rcases hK with rfl | rfl
                all_goals
                  go_wp2
                  go_ret
                  exact ⟨ret_int E.out.symm, bnext UP.out (bnext B1.out U5.out)⟩
              · have E : Hid (fnE FN = 4) := NO.out hK
                have g1 : (K != 3) = true := by simp; omega
                have g2 : (K != 5) = true := by simp; omega
                clear NO YES hK
                go_wp2
                go_ret
                exact ⟨ret_int E.out.symm, bnext UP.out (bnext B1.out U5.out)⟩
end Go.Proofs.YtnejpldbokodaaaGreatDoor
