/- Where functions stand in an order, as the code has it. -/
import Derived.Test.YtlmijnaimdknnaaPlcRep
import Derived.Test.YtlmijnaimdknnaaPlcMayQ
namespace Go.Proofs.Ytlmijnaimdknnaa
open Go.ChangeShapes Go.WideShapes Go.ChangeAt Go.RowKit
set_option linter.unusedVariables false
set_option linter.unusedSimpArgs false
theorem is_yes {w : World} {g n c : Nat} {a : Option Addr} {x : Int} (h : w.cell? ⟨g, 0, none⟩ = some (.slice a n c)) (h1 : 0 ≤ x) (h2 : x < n) :
    Calls Try.prog 13 #[.int .i64 x, .pointer (some ⟨g, 0, none⟩)] w fun e w' => e = .returned (.bool true) ∧ w' = w := by
  go_enter Try.func13, Try.ntmps13
  go_wp2
  go_ret
  exact ⟨rfl, rfl⟩
theorem is_no {w : World} {g n c : Nat} {a : Option Addr} {x : Int} (h : w.cell? ⟨g, 0, none⟩ = some (.slice a n c)) (h1 : ¬ (0 ≤ x ∧ x < n)) :
    Calls Try.prog 13 #[.int .i64 x, .pointer (some ⟨g, 0, none⟩)] w fun e w' => e = .returned (.bool false) ∧ w' = w := by
  rcases (by omega : x < 0 ∨ (0 ≤ x ∧ (n : Int) ≤ x)) with h2 | ⟨h2, h3⟩
  · clear h1
    go_enter Try.func13, Try.ntmps13
    go_wp2
    go_ret
    exact ⟨rfl, rfl⟩
  · clear h1
    have hd : decide (x < (n : Int)) = false := by simpa using h3
    go_enter Try.func13, Try.ntmps13
    go_wp2
    go_ret
    exact ⟨rfl, rfl⟩
/-- The entry is a function that stands. -/
def EntryOk (p : ProgZ) (F : List Int) : Prop := 0 ≤ p.entry ∧ p.entry < p.codes.length ∧ F[p.entry.toNat]? ≠ some (-1)
/-- The order can't be, or leaves the entry out. -/
def OrderBad (p : ProgZ) (o : List Int) : Prop := codeN p.codes o o.length = none ∨ ∃ F w, codeN p.codes o o.length = some (F, w) ∧ ¬ EntryOk p F
def FunPost (p : ProgZ) (o : List Int) (w : World) (e : Ending) (w' : World) : Prop :=
  (∃ F wd g, codeN p.codes o o.length = some (F, wd) ∧ EntryOk p F ∧ e = .returned (.tuple #[.slice (some ⟨g, 0, none⟩) p.codes.length p.codes.length, .int .i64 wd, .bool true]) ∧ w.heap.size ≤ g ∧ g < w'.heap.size ∧ XAt w' g (nums F)) ∨
  (OrderBad p o ∧ ∃ v wd, e = .returned (.tuple #[v, .int .i64 wd, .bool false]))
theorem code_upto {c : List Nat} {o : List Int} {i : Nat} (hi : i < o.length) (h : codeN c o (i + 1) = none) : codeN c o o.length = none := code_stay h (by omega)
set_option maxRecDepth 100000 in
set_option maxHeartbeats 4000000 in
theorem functions_any {w : World} {v vo : Value} {p : ProgZ} {o : List Int} (h : IsP w v p) (ho : IsNums w vo o) (hm : MayQ p) (hl : o.length ≤ 400) :
    Calls Try.prog 10 #[v, vo] w fun e w' => FunPost p o w e w' ∧ Below w.heap.size w w' := by
  obtain ⟨vf, vd, rfl, hf, hd⟩ := h
  obtain ⟨fa, fc, rfl, fm, -, fx⟩ := LstA.open hf
  obtain ⟨da, dc, rfl, dm, -, dx⟩ := LstA.open hd
  obtain ⟨oa, oc, rfl, om, -, ox⟩ := LstA.open ho
  unfold FunPost
  obtain ⟨F, eF⟩ : ∃ F, p.codes.length = F := ⟨_, rfl⟩
  obtain ⟨D, eD⟩ : ∃ D, p.datas.length = D := ⟨_, rfl⟩
  obtain ⟨E, eE⟩ : ∃ E, p.entry = E := ⟨_, rfl⟩
  obtain ⟨O, eO⟩ : ∃ O, o.length = O := ⟨_, rfl⟩
  have hF300 : F ≤ 300 := by rw [← eF]; exact hm.1
  have CM : Hid (∀ n ∈ p.codes, n ≤ 70000) := hm.2.2.1
  rw [eF] at fm fx ⊢
  rw [eD] at dm dx ⊢
  rw [eO] at om ox hl ⊢
  rw [eE]
  have EF : Hid (p.codes.length = F ∧ p.entry = E ∧ o.length = O) := ⟨eF, eE, eO⟩
  have FX : Hid (∀ k, k < F → ∃ b off x, fa = some ⟨b, off, none⟩ ∧ Any8 b ∧ p.codes[k]? = some x ∧ PfAt w b (off + k * 5) x) := fx
  have OX : Hid (∀ k, k < O → ∃ b off x, oa = some ⟨b, off, none⟩ ∧ Any8 b ∧ o[k]? = some x ∧ NumAt .i64 w b (off + k * 1) x) := ox
  have hF' : (F : Int) ≤ 300 := by omega
  have hO' : (O : Int) ≤ 400 := by omega
  have RP : Hid (∀ W q, W.cell? ⟨q, 0, none⟩ = some (.int .i64 (-1)) → Calls Try.prog 12 #[.slice (some ⟨q, 0, none⟩) 1 1, .int .i64 F] W fun e w' => ∃ g, e = .returned (.slice (some ⟨g, 0, none⟩) F F) ∧ W.heap.size ≤ g ∧ g < w'.heap.size ∧ XAt w' g (nums (List.replicate F (-1))) ∧ Below W.heap.size W w') := fun W q hq => repeat_any W q F (-1) hq hF300
  clear hf hd ho eF eD eO eE fx dx ox fm dm om hm
  obtain ⟨W0, eW0⟩ : ∃ W0, ((w.alloc (.cells #[.slice fa F fc, .slice da D dc, .int .i64 E] 25)).alloc (.cells #[.slice none 0 0] 28)) = W0 := ⟨_, rfl⟩
  have UP : Hid (Below w.heap.size w W0) := by rw [← eW0]; exact keep_alloc8 (keep_alloc8 (Below.refl _ _) _) _
  have XA : Hid (XAt W0 w.heap.size [.slice fa F fc, .slice da D dc, .int .i64 E]) := by rw [← eW0]; exact (XAt.new w #[.slice fa F fc, .slice da D dc, .int .i64 E] 25).later (by simp) (keep_alloc8 (Below.refl _ _) _)
  have XB : Hid (XAt W0 (w.heap.size + 1) [.slice none 0 0]) := by
    have h := XAt.new (w.alloc (.cells #[.slice fa F fc, .slice da D dc, .int .i64 E] 25)) #[.slice none 0 0] 28
    rw [World.size_alloc] at h; rw [← eW0]; exact h
  have ha : Hid (w.heap.size < W0.heap.size) := XA.out.lt (by simp)
  have hb : Hid (w.heap.size + 1 < W0.heap.size) := XB.out.lt (by simp)
  have NC : Hid ((W0.alloc (.cells #[.int .i64 (-1)] 3)).cell? ⟨W0.heap.size, 0, none⟩ = some (.int .i64 (-1))) := new_cell' W0 #[.int .i64 (-1)] 3 0 _ rfl
  have BL : Hid (Below W0.heap.size W0 (W0.alloc (.cells #[.int .i64 (-1)] 3))) := keep_alloc8 (Below.refl _ _) _
  have p0 := (XA.out.later ha.out BL.out).1 0 _ rfl
  go_enter Try.func10, Try.ntmps10
  go_upto_region 1 with fail
  try rw [eW0]
  clear eW0
  go_upto_region 2 with ((go_at_call 12); refine (RP.out _ _ NC.out).mono ?_; rintro e w1 ⟨g, rfl, hg1, hg2, hX, hB⟩; have q0 := (XB.out.later hb.out (bnext BL.out hB)).1 0 _ rfl; have q1 := (XB.out.later hb.out (bnext BL.out hB)).2 0)
  have hgb : w.heap.size + 1 < g := by have h1 := BL.out.size; have h2 := hb.out; omega
  have XA2 : Hid (XAt (w1.setCell ⟨w.heap.size + 1, 0, none⟩ (.slice (some ⟨g, 0, none⟩) F F)) w.heap.size [.slice fa F fc, .slice da D dc, .int .i64 E]) := xat_other (XA.out.later ha.out (bnext BL.out hB)) (by omega) _
  have XB2 : Hid (XAt (w1.setCell ⟨w.heap.size + 1, 0, none⟩ (.slice (some ⟨g, 0, none⟩) F F)) (w.heap.size + 1) [.slice (some ⟨g, 0, none⟩) F F]) := (XB.out.later hb.out (bnext BL.out hB)).set 0 (by simp) _
  have XG2 : Hid (XAt (w1.setCell ⟨w.heap.size + 1, 0, none⟩ (.slice (some ⟨g, 0, none⟩) F F)) g (nums (List.replicate F (-1)))) := xat_other hX (by omega) _
  have UP2 : Hid (Below w.heap.size w (w1.setCell ⟨w.heap.size + 1, 0, none⟩ (.slice (some ⟨g, 0, none⟩) F F))) := (bnext UP.out (bnext BL.out hB)).setCell (by show w.heap.size ≤ w.heap.size + 1; omega) _
  have HG : Hid (w.heap.size + 1 < g ∧ g < (w1.setCell ⟨w.heap.size + 1, 0, none⟩ (.slice (some ⟨g, 0, none⟩) F F)).heap.size) := ⟨hgb, by simpa using hg2⟩
  generalize (w1.setCell ⟨w.heap.size + 1, 0, none⟩ (.slice (some ⟨g, 0, none⟩) F F)) = w2 at XA2 XB2 XG2 UP2 HG ⊢
  clear hg1 hg2 hX hB q0 q1 hgb p0 XA XB NC BL UP ha hb
  go_wp2
  go_loopw [5, 18] (fun wd i wr => ∃ k : Nat, ∃ G z, k ≤ O ∧ i = .int .i64 k ∧ wd = .int .i64 z ∧ codeN p.codes o k = some (G, z) ∧ XAt wr g (nums G) ∧ XAt wr w.heap.size [.slice fa F fc, .slice da D dc, .int .i64 E] ∧ XAt wr (w.heap.size + 1) [.slice (some ⟨g, 0, none⟩) F F] ∧ Below w.heap.size w wr ∧ g < wr.heap.size) (fun _ i _ => O - (intOf i).toNat)
  case atStart => exact ⟨0, List.replicate F (-1), 0, Nat.zero_le _, rfl, rfl, by simp only [codeN, EF.out.1], XG2.out, XA2.out, XB2.out, UP2.out, HG.out.2⟩
  case round =>
    obtain ⟨k, G, z, hk, rfl, rfl, hc, hG, hA, hB, hU, hlt⟩ := hrel
    have HC : Hid (codeN p.codes o k = some (G, z)) := hc
    obtain ⟨cl, cz, cm⟩ := code_some hc
    have hz2 := cm CM.out
    have HGl : Hid (G.length = F) := by rw [cl]; exact EF.out.1
    have HX : Hid (XAt wr g (nums G)) := hG
    have HA : Hid (XAt wr w.heap.size [.slice fa F fc, .slice da D dc, .int .i64 E]) := hA
    have HB : Hid (XAt wr (w.heap.size + 1) [.slice (some ⟨g, 0, none⟩) F F]) := hB
    have HU : Hid (Below w.heap.size w wr) := hU
    have HL : Hid (g < wr.heap.size) := hlt
    have q0 := hB.1 0 _ rfl
    have q1 := hB.2 0
    have p0 := hA.1 0 _ rfl
    have p2 := hA.1 2 _ rfl
    clear hc hG hA hB hU hlt cl cm XG2 XA2 XB2 UP2
    by_cases hlt : k < O
    · have hlt' : (k : Int) < O := by omega
      have hk400 : (k : Int) ≤ 400 := by omega
      have hz3 : z ≤ 28000000 := by omega
      obtain ⟨b, off, f, rfl, -, hx, x0⟩ := OX.out k hlt
      have HF : Hid (o[k]? = some f) := hx
      rw [Nat.mul_one] at x0
      have y0 := cell_any x0 HU.out
      clear x0 hx
      by_cases hr : 0 ≤ f ∧ f < F
      · obtain ⟨i, rfl⟩ : ∃ i : Nat, f = i := ⟨f.toNat, by omega⟩
        have hiF : i < F := by omega
        have hi' : (i : Int) < F := by omega
        have IS : Hid (∀ W, W.cell? ⟨w.heap.size + 1, 0, none⟩ = some (.slice (some ⟨g, 0, none⟩) F F) → Calls Try.prog 13 #[.int .i64 i, .pointer (some ⟨w.heap.size + 1, 0, none⟩)] W fun e w' => e = .returned (.bool true) ∧ w' = W) := fun W h => is_yes h (by omega) hi'
        obtain ⟨x, hx⟩ := get_some (l := G) (k := i) (by have := HGl.out; omega)
        have HXX : Hid (G[i]? = some x) := hx
        have g0 := HX.out.1 i _ (nums_get hx)
        have g1 := HX.out.2 i
        clear hr hx
        by_cases hx1 : x = -1
        · subst hx1
          obtain ⟨fb, fo, n, rfl, -, hn, a1, c1, a2, m2, c2, x3, l3, -, -⟩ := FX.out i hiF
          have y3 := cell_any x3 HU.out
          have Y3 : Hid (w.cell? ⟨fb, fo + i * 5 + 3, none⟩ = some (.slice a1 n c1)) := x3
          have hn7 := CM.out n (List.mem_of_getElem? hn)
          have hn8 : (n : Int) ≤ 70000 := by omega
          have HN : Hid (p.codes[i]? = some n) := hn
          have hs : wrap64 (z + n) = z + n := IntWalk.wrap64_in _ (by omega)
          clear x3 l3 hn hn7
          go_upto_region 8 with ((go_at_call 13); refine (IS.out _ q0).mono ?_; rintro e wr ⟨rfl, rfl⟩)
          go_upto_region 9 with fail
          have HX4 : Hid (XAt (wr.setCell ⟨g, i, none⟩ (.int .i64 z)) g (nums (G.set i z))) := xnum_set HX.out (by have := HGl.out; omega) z
          have HA4 : Hid (XAt (wr.setCell ⟨g, i, none⟩ (.int .i64 z)) w.heap.size [.slice (some ⟨fb, fo, none⟩) F fc, .slice da D dc, .int .i64 E]) := xat_other HA.out (by have := HG.out.1; omega) _
          have HB4 : Hid (XAt (wr.setCell ⟨g, i, none⟩ (.int .i64 z)) (w.heap.size + 1) [.slice (some ⟨g, 0, none⟩) F F]) := xat_other HB.out (by have := HG.out.1; omega) _
          have HU4 : Hid (Below w.heap.size w (wr.setCell ⟨g, i, none⟩ (.int .i64 z))) := HU.out.setCell (by show w.heap.size ≤ g; have := HG.out.1; omega) _
          have HL4 : Hid (g < (wr.setCell ⟨g, i, none⟩ (.int .i64 z)).heap.size) := by have := HL.out; simpa [Hid] using this
          have y4 : (wr.setCell ⟨g, i, none⟩ (.int .i64 z)).cell? ⟨fb, fo + i * 5 + 3, none⟩ = some (.slice a1 n c1) := (World.cell?_setCell_other _ _ _ _ (fun q => by
            have h1 := World.block_lt_of_cell? w _ Y3.out; have h2 := HG.out.1; injection q with q1; simp only at h1; omega)).trans y3
          generalize (wr.setCell ⟨g, i, none⟩ (.int .i64 z)) = w4 at HX4 HA4 HB4 HU4 HL4 y4 ⊢
          clear q0 q1 p0 p2 g0 g1 y0 y3
          have p0 := HA4.out.1 0 _ rfl
          go_wp2
          go_roundw
          case rel => exact ⟨k + 1, G.set i z, z + n, by omega, by go_num, by simp only [hs], by
            have h := code_step HC.out HF.out (by omega) (by have := EF.out.1; omega) (by rw [Int.toNat_natCast]; exact HXX.out)
            rw [Int.toNat_natCast, List.getD_eq_getElem?_getD, HN.out] at h; exact h, HX4.out, HA4.out, HB4.out, HU4.out, HL4.out⟩
          case measure => simp [intOf]; omega
        · have hne : (x != -1) = true := by simpa using hx1
          have NN : Hid (codeN p.codes o (k + 1) = none) := code_none HC.out HF.out (fun q => hx1 (by have h := q.2.2; rw [Int.toNat_natCast, HXX.out] at h; exact Option.some.inj h))
          clear hx1
          go_wp2_with ((go_at_call 13); refine (IS.out _ q0).mono ?_; rintro e wr ⟨rfl, rfl⟩)
          refine bodyPost_ret (v := Value.tuple #[.slice none 0 0, .int .i64 0, .bool false]) ?_ rfl ⟨.inr ⟨.inl (code_upto (by have := EF.out; omega) NN.out), _, _, rfl⟩, HU.out.setCell (by show w.heap.size ≤ w.heap.size + 1; omega) _⟩
          simp [results, Try.results10, go_sem, q0]
      · have IS : Hid (∀ W, W.cell? ⟨w.heap.size + 1, 0, none⟩ = some (.slice (some ⟨g, 0, none⟩) F F) → Calls Try.prog 13 #[.int .i64 f, .pointer (some ⟨w.heap.size + 1, 0, none⟩)] W fun e w' => e = .returned (.bool false) ∧ w' = W) := fun W h => is_no h hr
        have NN : Hid (codeN p.codes o (k + 1) = none) := code_none HC.out HF.out (fun q => hr ⟨q.1, by have := EF.out.1; omega⟩)
        clear hr
        go_wp2_with ((go_at_call 13); refine (IS.out _ q0).mono ?_; rintro e wr ⟨rfl, rfl⟩)
        refine bodyPost_ret (v := Value.tuple #[.slice none 0 0, .int .i64 0, .bool false]) ?_ rfl ⟨.inr ⟨.inl (code_upto (by have := EF.out; omega) NN.out), _, _, rfl⟩, HU.out.setCell (by show w.heap.size ≤ w.heap.size + 1; omega) _⟩
        simp [results, Try.results10, go_sem, q0]
    · obtain rfl : k = O := by omega
      clear hlt hz2
      by_cases hr : 0 ≤ E ∧ E < F
      · obtain ⟨i, rfl⟩ : ∃ i : Nat, E = i := ⟨E.toNat, by omega⟩
        have hiF : i < F := by omega
        have hi' : (i : Int) < F := by omega
        have IS : Hid (∀ W, W.cell? ⟨w.heap.size + 1, 0, none⟩ = some (.slice (some ⟨g, 0, none⟩) F F) → Calls Try.prog 13 #[.int .i64 i, .pointer (some ⟨w.heap.size + 1, 0, none⟩)] W fun e w' => e = .returned (.bool true) ∧ w' = W) := fun W h => is_yes h (by omega) hi'
        obtain ⟨x, hx⟩ := get_some (l := G) (k := i) (by have := HGl.out; omega)
        have HXX : Hid (G[i]? = some x) := hx
        have g0 := HX.out.1 i _ (nums_get hx)
        clear hr hx
        have ng1 : ¬ g = w.heap.size + 1 := by have := HG.out.1; omega
        have ng2 : ¬ w.heap.size + 1 = g := by have := HG.out.1; omega
        by_cases hx1 : x = -1
        · subst hx1
          have NE : Hid (¬ EntryOk p G) := fun q => q.2.2 (by rw [EF.out.2.1, Int.toNat_natCast]; exact HXX.out)
          go_upto_region 11 with fail
          have s0 : (wr.setCell ⟨w.heap.size + 1, 0, none⟩ (.slice (some ⟨g, 0, none⟩) F F)).drew.cell? ⟨w.heap.size + 1, 0, none⟩ = some (.slice (some ⟨g, 0, none⟩) F F) := by
            show (wr.setCell ⟨w.heap.size + 1, 0, none⟩ (.slice (some ⟨g, 0, none⟩) F F)).cell? ⟨w.heap.size + 1, 0, none⟩ = _
            exact World.cell?_setCell_same _ _ _ q0
          have UE : Hid (Below w.heap.size w (wr.setCell ⟨w.heap.size + 1, 0, none⟩ (.slice (some ⟨g, 0, none⟩) F F)).drew) := (HU.out.setCell (by show w.heap.size ≤ w.heap.size + 1; omega) _).drew
          have XE : Hid (g < (wr.setCell ⟨w.heap.size + 1, 0, none⟩ (.slice (some ⟨g, 0, none⟩) F F)).drew.heap.size ∧ XAt (wr.setCell ⟨w.heap.size + 1, 0, none⟩ (.slice (some ⟨g, 0, none⟩) F F)).drew g (nums G)) := ⟨by have := HL.out; simpa using this, xat_other (w := wr) HX.out ng1 _⟩
          clear RP FX OX CM HX HL p0
          go_region_held3 (fun W => W.cell? ⟨w.heap.size + 1, 0, none⟩ = some (.slice (some ⟨g, 0, none⟩) F F) ∧ W.frozen? ⟨w.heap.size + 1, 0, none⟩ = false ∧ W.cell? ⟨w.heap.size, 2, none⟩ = some (.int .i64 i) ∧ W.cell? ⟨g, i, none⟩ = some (.int .i64 (-1))) (first | (refine ⟨?_, ?_, ?_, ?_⟩ <;> first | exact s0 | (go_keep; done)) | go_keep) ((go_at_call 13; refine (IS.out _ (by assumption)).mono ?_; rintro e w5 ⟨rfl, e5⟩; subst e5))
          all_goals
            go_wp2
            refine bodyPost_ret (v := Value.tuple #[.slice (some ⟨g, 0, none⟩) F F, .int .i64 z, .bool false]) ?_ rfl ⟨.inr ⟨.inr ⟨G, z, by have := HC.out; rw [EF.out.2.2]; exact this, NE.out⟩, _, _, rfl⟩, UE.out⟩
            simp [results, Try.results10, go_sem, s0]
        · have hne : (x != -1) = true := by simpa using hx1
          have HNE : Hid (¬ x = -1) := hx1
          clear hx1
          go_upto_region 11 with fail
          have s0 : (wr.setCell ⟨w.heap.size + 1, 0, none⟩ (.slice (some ⟨g, 0, none⟩) F F)).drew.cell? ⟨w.heap.size + 1, 0, none⟩ = some (.slice (some ⟨g, 0, none⟩) F F) := by
            show (wr.setCell ⟨w.heap.size + 1, 0, none⟩ (.slice (some ⟨g, 0, none⟩) F F)).cell? ⟨w.heap.size + 1, 0, none⟩ = _
            exact World.cell?_setCell_same _ _ _ q0
          have UE : Hid (Below w.heap.size w (wr.setCell ⟨w.heap.size + 1, 0, none⟩ (.slice (some ⟨g, 0, none⟩) F F)).drew) := (HU.out.setCell (by show w.heap.size ≤ w.heap.size + 1; omega) _).drew
          have XE : Hid (g < (wr.setCell ⟨w.heap.size + 1, 0, none⟩ (.slice (some ⟨g, 0, none⟩) F F)).drew.heap.size ∧ XAt (wr.setCell ⟨w.heap.size + 1, 0, none⟩ (.slice (some ⟨g, 0, none⟩) F F)).drew g (nums G)) := ⟨by have := HL.out; simpa using this, xat_other (w := wr) HX.out ng1 _⟩
          clear RP FX OX CM HX HL p0
          go_region_held3 (fun W => W.cell? ⟨w.heap.size + 1, 0, none⟩ = some (.slice (some ⟨g, 0, none⟩) F F) ∧ W.frozen? ⟨w.heap.size + 1, 0, none⟩ = false ∧ W.cell? ⟨w.heap.size, 2, none⟩ = some (.int .i64 i) ∧ W.cell? ⟨g, i, none⟩ = some (.int .i64 x)) (first | (refine ⟨?_, ?_, ?_, ?_⟩ <;> first | exact s0 | (go_keep; done)) | go_keep) ((go_at_call 13; refine (IS.out _ (by assumption)).mono ?_; rintro e w5 ⟨rfl, e5⟩; subst e5))
          all_goals
            go_wp2
            refine bodyPost_ret (v := Value.tuple #[.slice (some ⟨g, 0, none⟩) F F, .int .i64 z, .bool true]) ?_ rfl ⟨.inl ⟨G, z, g, by have := HC.out; first | exact this | (rw [← EF.out.2.2]; rw [EF.out.2.2]; exact this), ⟨by have := EF.out.2.1; omega, by have := EF.out; omega, ?_⟩, rfl, by have := HG.out.1; omega, XE.out.1, XE.out.2⟩, UE.out⟩
            · simp [results, Try.results10, go_sem, s0]
            · rw [EF.out.2.1, Int.toNat_natCast, HXX.out]; intro q; exact HNE.out (Option.some.inj q)
      · have IS : Hid (∀ W, W.cell? ⟨w.heap.size + 1, 0, none⟩ = some (.slice (some ⟨g, 0, none⟩) F F) → Calls Try.prog 13 #[.int .i64 E, .pointer (some ⟨w.heap.size + 1, 0, none⟩)] W fun e w' => e = .returned (.bool false) ∧ w' = W) := fun W h => is_no h hr
        have NE : Hid (¬ EntryOk p G) := fun q => hr ⟨by have := q.1; have := EF.out.2.1; omega, by have := q.2.1; have := EF.out; omega⟩
        have ng1 : ¬ g = w.heap.size + 1 := by have := HG.out.1; omega
        have ng2 : ¬ w.heap.size + 1 = g := by have := HG.out.1; omega
        clear hr
        go_upto_region 11 with fail
        have s0 : (wr.setCell ⟨w.heap.size + 1, 0, none⟩ (.slice (some ⟨g, 0, none⟩) F F)).drew.cell? ⟨w.heap.size + 1, 0, none⟩ = some (.slice (some ⟨g, 0, none⟩) F F) := by
          show (wr.setCell ⟨w.heap.size + 1, 0, none⟩ (.slice (some ⟨g, 0, none⟩) F F)).cell? ⟨w.heap.size + 1, 0, none⟩ = _
          exact World.cell?_setCell_same _ _ _ q0
        have UE : Hid (Below w.heap.size w (wr.setCell ⟨w.heap.size + 1, 0, none⟩ (.slice (some ⟨g, 0, none⟩) F F)).drew) := (HU.out.setCell (by show w.heap.size ≤ w.heap.size + 1; omega) _).drew
        have XE : Hid (g < (wr.setCell ⟨w.heap.size + 1, 0, none⟩ (.slice (some ⟨g, 0, none⟩) F F)).drew.heap.size ∧ XAt (wr.setCell ⟨w.heap.size + 1, 0, none⟩ (.slice (some ⟨g, 0, none⟩) F F)).drew g (nums G)) := ⟨by have := HL.out; simpa using this, xat_other (w := wr) HX.out ng1 _⟩
        clear RP FX OX CM HX HL p0
        have hu : undef = Value.tuple #[] := rfl
        first
          | (go_region_with ((go_at_call 13); refine (IS.out _ (by first | exact q0 | exact s0 | (simp [q0]; done))).mono ?_; rintro e w5 ⟨rfl, e5⟩; subst e5))
          | fail
        all_goals
            go_wp2
            refine bodyPost_ret (v := Value.tuple #[.slice (some ⟨g, 0, none⟩) F F, .int .i64 z, .bool false]) ?_ rfl ⟨.inr ⟨.inr ⟨G, z, by have := HC.out; rw [EF.out.2.2]; exact this, NE.out⟩, _, _, rfl⟩, UE.out⟩
            simp [results, Try.results10, go_sem, s0]
end Go.Proofs.Ytlmijnaimdknnaa
