/- NamesPlaces' walk. -/
import Derived.Test.YteakbpcmafdikaaGreatDoorNamAwake
import Derived.Test.YteakbpcmafdikaaGreatDoorNamGood
import Derived.Deep.RegionHeld3
import Derived.BigQuiet
namespace Go.Proofs.YteakbpcmafdikaaGreatDoor
open Go.ChangeShapes Go.WideShapes Go.ChangeAt Go.RowKit
set_option linter.unusedVariables false
set_option linter.unusedSimpArgs false
/-- What is asked of Resolve's answer, in the words of a program in memory. -/
def ResPost2 (l : List ObjM) (e : Ending) (w' : World) : Prop :=
  (∃ p a n c b m d, resZ l = (0, p) ∧ e = .returned (.tuple #[.agg #[.slice a n c, .slice b m d, .int .i64 p.entry], .int .i64 0]) ∧ IsPFs (fun _ => True) w' (.slice a n c) p.funcs ∧ IsPDs (fun _ => True) w' (.slice b m d) p.datas ∧ p.funcs.length = n ∧ p.datas.length = m) ∨
  ∃ x, resZ l = (x, noProg) ∧ x ≠ 0 ∧ e = .returned (.tuple #[.agg #[.slice none 0 0, .slice none 0 0, .int .i64 0], .int .i64 x])
theorem resolve_two {A : Nat → Prop} {w : World} {v : Value} {l : List ObjM} (h : IsObjs A w v l) (hT : Tab w) (hl : l.length ≤ 20) (hfew : ∀ o ∈ l, fewO o) :
    Calls Tryz.prog 11 #[v] w fun e w' => ResPost2 l e w' ∧ Below w.heap.size w w' := by
  refine (resolve_any h hT hl hfew).mono ?_
  rintro e w' ⟨⟨a, d, LF, LD, E, hr, rfl, hg⟩ | ⟨x, hr, hx, rfl⟩, hb⟩
  · refine ⟨.inl ?_, hb⟩
    obtain ⟨vf, vd, hv, hf, hd⟩ := hg.isProg E
    simp only [Value.agg.injEq, Array.mk.injEq, List.cons.injEq, and_true] at hv
    obtain ⟨rfl, rfl⟩ := hv
    obtain ⟨fa, fc, rfl, -, -, -⟩ := LstA.open hf
    obtain ⟨da, dc, rfl, -, -, -⟩ := LstA.open hd
    exact ⟨_, _, _, _, _, _, _, hr, rfl, hf, hd, rfl, rfl⟩
  · exact ⟨.inr ⟨x, hr, hx, rfl⟩, hb⟩
set_option maxRecDepth 100000
set_option maxHeartbeats 4000000 in
theorem places_walk (w : World) (v : Value) (l : List ObjM) (h : IsObjs (fun _ => True) w v l) (hT : Tab w) : Calls Tryz.prog 4 #[v] w fun e w' => e = .returned (.bool true) ∧ Below w.heap.size w w' := by
  have HV : Hid (IsObjs (fun _ => True) w v l) := h
  have HT : Hid (Tab w) := hT
  have AW : Hid (∀ X, Below w.heap.size w X → Calls Tryz.prog 9 #[] X fun e w' => e = .returned (.bool true) ∧ Below X.heap.size X w') := fun X hX => awake11 X (HT.out.later hX)
  have FW : Hid (∀ X, Below w.heap.size w X → Calls Tryz.prog 10 #[v] X fun e w' => Says e (l.length ≤ 18 ∧ ∀ o ∈ l, fewO o) ∧ Below X.heap.size X w') := fun X hX => few11_any (objs_keep HV.out hX)
  have RS : Hid (∀ X, Below w.heap.size w X → l.length ≤ 18 ∧ (∀ o ∈ l, fewO o) → Calls Tryz.prog 11 #[v] X fun e w' => ResPost2 l e w' ∧ Below X.heap.size X w') := fun X hX hf => resolve_two (objs_keep HV.out hX) (HT.out.later hX) (by omega) hf.2
  have SN : Hid (∀ X, Calls Tryz.prog 14 #[.agg #[.slice none 0 0, .slice none 0 0, .int .i64 0], .agg #[.slice none 0 0, .slice none 0 0, .int .i64 0]] X fun e w' => e = .returned (.bool true) ∧ Below X.heap.size X w') := fun X => by
    refine (same11_any (A := fun _ => True) (A' := fun _ => True) isProg_none isProg_none).mono ?_
    rintro e w' ⟨⟨b, rfl, hb⟩, hB⟩
    obtain rfl := hb.2 rfl
    exact ⟨rfl, hB⟩
  obtain ⟨oa, oc, rfl, -, -, -⟩ := LstA.open h
  obtain ⟨n, en⟩ : ∃ n, l.length = n := ⟨_, rfl⟩
  rw [en] at FW RS ⊢
  clear h hT HV HT en
  go_enter Tryz.func4, Tryz.ntmps4
  by_cases hf : n ≤ 18 ∧ ∀ o ∈ l, fewO o
  rotate_left
  · have HF : Hid (¬ (n ≤ 18 ∧ ∀ o ∈ l, fewO o)) := hf
    clear hf
    go_upto_region 2 with (first
      | (go_at_call 9; refine (AW.out _ (Below.refl _ _)).mono ?_; rintro e w1 ⟨rfl, b1⟩; have K1 := Hid.mk0 b1)
      | (go_at_call 10; refine (FW.out _ K1.out).mono ?_; rintro e w2 ⟨hs, b2⟩; have K2 := Hid.mk0 (bnext K1.out b2); obtain rfl := hs.no HF.out; clear hs))
    go_wp2_with (go_at_call 9; refine (AW.out _ K2.out).mono ?_; rintro e w3 ⟨rfl, b3⟩)
    go_ret
    exact ⟨rfl, bnext K2.out b3⟩
  have HF : Hid (n ≤ 18 ∧ ∀ o ∈ l, fewO o) := hf
  clear hf
  go_upto_region 4 with (first
    | (go_at_call 9; refine (AW.out _ (Below.refl _ _)).mono ?_; rintro e w1 ⟨rfl, b1⟩; have K1 := Hid.mk0 b1)
    | (go_at_call 10; refine (FW.out _ K1.out).mono ?_; rintro e w2 ⟨hs, b2⟩; have K2 := Hid.mk0 (bnext K1.out b2); obtain rfl := hs.yes HF.out; clear hs)
    | (go_at_call 11; refine (RS.out _ K2.out HF.out).mono ?_; rintro e w3 ⟨⟨p, fa, nf, fc, da, nd, dc, hr, rfl, hpf, hpd, hnf, hnd⟩ | ⟨x, hr, hx, rfl⟩, b3⟩; all_goals have K3 := Hid.mk0 (bnext K2.out b3)))
  rotate_left
  · have hx' : (x != 0) = true := by simpa using hx
    have f0 := new_cell' w3 #[.slice none 0 0, .slice none 0 0, .int .i64 0] 28 0 _ rfl
    have f1 := new_cell' w3 #[.slice none 0 0, .slice none 0 0, .int .i64 0] 28 1 _ rfl
    have f2 := new_cell' w3 #[.slice none 0 0, .slice none 0 0, .int .i64 0] 28 2 _ rfl
    have KA := Hid.mk0 (keep_alloc8 K3.out (.cells #[.slice none 0 0, .slice none 0 0, .int .i64 0] 28))
    go_wp2_with (go_at_call 14; refine (SN.out _).mono ?_; rintro e w4 ⟨rfl, b4⟩)
    go_ret
    exact ⟨rfl, bnext KA.out b4⟩
  have G : Hid (GoodZ l p) := res_good hr
  obtain ⟨ek, ef, he, hef, hen⟩ := good_entry G.out
  have F4 : Hid (∃ w4, w4 = w3.alloc (.cells #[.slice fa nf fc, .slice da nd dc, .int .i64 p.entry] 28) ∧ (XAt w4 w3.heap.size [.slice fa nf fc, .slice da nd dc, .int .i64 p.entry] ∧ w3.heap.size < w4.heap.size) ∧ Below w.heap.size w w4 ∧ IsPFs (fun _ => True) w4 (.slice fa nf fc) p.funcs ∧ IsPDs (fun _ => True) w4 (.slice da nd dc) p.datas) :=
    ⟨_, rfl, ⟨XAt.new _ _ _, by simp⟩, keep_alloc8 K3.out _, hpf.keep (Stay.of_below (keep_alloc8 (Below.refl _ _) _)), hpd.keep (Stay.of_below (keep_alloc8 (Below.refl _ _) _))⟩
  obtain ⟨w4, e4, hxp, hb4, hpf4, hpd4⟩ := F4.out
  rw [← e4]
  obtain ⟨a1, c1, hv1, lm1, -, FX0⟩ := LstA.open hpf4
  obtain ⟨a2, c2, hv2, lm2, -, DX0⟩ := LstA.open hpd4
  rw [hnf] at hv1 FX0 lm1
  rw [hnd] at hv2 DX0 lm2
  unfold maxLen at lm1 lm2
  have bf : (nf : Int) ≤ 9223372036854775807 := by omega
  have bd : (nd : Int) ≤ 9223372036854775807 := by omega
  clear lm1 lm2
  simp only [Value.slice.injEq, true_and] at hv1 hv2
  obtain ⟨rfl, rfl⟩ := hv1
  obtain ⟨rfl, rfl⟩ := hv2
  have FX : Hid (∀ k, k < nf → ∃ b off x, fa = some ⟨b, off, none⟩ ∧ True ∧ p.funcs[k]? = some x ∧ PFAt (fun _ => True) w4 b (off + k * 5) x) := FX0
  have DX : Hid (∀ k, k < nd → ∃ b off x, da = some ⟨b, off, none⟩ ∧ True ∧ p.datas[k]? = some x ∧ PDAt (fun _ => True) w4 b (off + k * 5) x) := DX0
  rw [he] at hxp ⊢
  have XP : Hid (XAt w4 w3.heap.size [.slice fa nf fc, .slice da nd dc, .int .i64 ek] ∧ w3.heap.size < w4.heap.size) := hxp
  have B4 : Hid (Below w.heap.size w w4) := hb4
  have LN : Hid (p.funcs.length = nf ∧ p.datas.length = nd) := ⟨hnf, hnd⟩
  have hek : (ek : Int) < nf := by have := (List.getElem?_eq_some_iff.1 hef).1; omega
  obtain ⟨eb, eo, ex, hfa, -, hex, evc, evr, ecell, -⟩ := FX.out ek (by omega)
  rw [hef] at hex
  cases hex
  rw [hen] at ecell
  have EC : Hid (fa = some ⟨eb, eo, none⟩ ∧ w4.cell? ⟨eb, eo + ek * 5, none⟩ = some (.string ⟨#[109, 97, 105, 110]⟩)) := ⟨hfa, ecell⟩
  clear e4 F4 FX0 DX0 hxp hb4 hpf4 hpd4 hpf hpd hr he hef hen hfa ecell K3 b3 AW FW RS SN K1 K2 b1 b2 hnf hnd
  generalize w3.heap.size = g at XP ⊢
  have p0 := XP.out.1.1 0 _ rfl
  have p1 := XP.out.1.1 1 _ rfl
  have p2 := XP.out.1.1 2 _ rfl
  obtain ⟨hfa, ecell⟩ := EC.out
  subst hfa
  clear EC
  go_upto_region 8 with fail
  have z1 : decide (nf ≤ ek) = false := decide_eq_false (by omega)
  have z2 : decide ((ek : Int) < 0) = false := decide_eq_false (by omega)
  simp only [z1, z2, Bool.or_false]
  clear p0 p1 p2 ecell z1 z2
  go_wp2
  go_loopw [5] (fun i wr => ∃ k : Nat, k ≤ nf ∧ i = .int .i64 k ∧ Below w4.heap.size w4 wr) (fun i _ => nf - (intOf i).toNat)
  case atStart => exact ⟨0, Nat.zero_le _, rfl, Below.refl _ _⟩
  case round =>
    obtain ⟨k, hk, rfl, hbel⟩ := hrel
    have HB : Hid (Below w4.heap.size w4 wr) := hbel
    have xp := XP.out.1.later XP.out.2 hbel
    have p0 := xp.1 0 _ rfl
    have p1 := xp.1 1 _ rfl
    have p2 := xp.1 2 _ rfl
    clear hbel xp
    by_cases hlt : k < nf
    · have hlt' : (k : Int) < nf := by omega
      obtain ⟨b, off, f, hfa, -, hx, vc, vr, -, -, -, x3, x4, wc, wr4⟩ := FX.out k hlt
      obtain ⟨rfl, rfl⟩ : eb = b ∧ eo = off := by simpa using hfa
      have HX : Hid (p.funcs[k]? = some f) := hx
      obtain ⟨ca, cc, rfl, -, -, -⟩ := LstA.open wc.1
      obtain ⟨ra, rc, rfl, lm3, -, RX0⟩ := LstA.open wr4
      obtain ⟨nr, enr⟩ : ∃ nr, f.rels.length = nr := ⟨_, rfl⟩
      unfold maxLen at lm3
      have br : (nr : Int) ≤ 9223372036854775807 := by omega
      clear lm3
      obtain ⟨ncd, enc⟩ : ∃ ncd, f.code.length = ncd := ⟨_, rfl⟩
      rw [enr] at RX0 x4
      rw [enc] at x3
      have NC : Hid (f.code.length = ncd) := enc
      have RX : Hid (∀ j, j < nr → ∃ b o x, ra = some ⟨b, o, none⟩ ∧ True ∧ f.rels[j]? = some x ∧ PRelAt w4 b (o + j * 4) x) := RX0
      have X34 : Hid (w4.cell? ⟨eb, eo + k * 5 + 3, none⟩ = some (.slice ca ncd cc) ∧ w4.cell? ⟨eb, eo + k * 5 + 4, none⟩ = some (.slice ra nr rc)) := ⟨x3, x4⟩
      clear hfa hx x3 x4 wc wr4 RX0 enr enc
      go_wp2
      go_loopw [6] (fun i ws => ∃ j : Nat, j ≤ nr ∧ i = .int .i64 j ∧ Below w4.heap.size w4 ws) (fun i _ => nr - (intOf i).toNat)
      case atStart => exact ⟨0, Nat.zero_le _, rfl, HB.out⟩
      case round =>
        obtain ⟨j, hj, rfl, hbs⟩ := hrel
        have HBS : Hid (Below w4.heap.size w4 wr) := hbs
        clear p0 p1 p2
        have xp := XP.out.1.later XP.out.2 hbs
        have p0 := xp.1 0 _ rfl
        have p1 := xp.1 1 _ rfl
        have p2 := xp.1 2 _ rfl
        have x3 := cell_any X34.out.1 hbs
        have x4 := cell_any X34.out.2 hbs
        clear hbs xp
        by_cases hjl : j < nr
        · have hjl' : (j : Int) < nr := by omega
          obtain ⟨rb, ro, q, rfl, -, hq, r0, r1, r2, r3⟩ := RX.out j hjl
          obtain ⟨t1, t2, t3, t4, t5⟩ := good_frel G.out HX.out hq
          obtain ⟨qa, qk, qt, qd⟩ := q
          dsimp only at t1 t2 t3 t4 t5 r0 r1 r2 r3
          rw [LN.out.1] at t2
          rw [LN.out.2] at t3
          rw [NC.out] at t5
          replace r0 := cell_any r0 HBS.out
          replace r1 := cell_any r1 HBS.out
          replace r2 := cell_any r2 HBS.out
          replace r3 := cell_any r3 HBS.out
          have F5 : Hid (∃ w5, w5 = wr.alloc (.cells #[.int .i64 qa, .int .i64 qk, .int .i64 qt, .int .i64 qd] 38) ∧ XAt w5 wr.heap.size [.int .i64 qa, .int .i64 qk, .int .i64 qt, .int .i64 qd] ∧ Below w4.heap.size w4 w5) := ⟨_, rfl, XAt.new _ _ _, keep_alloc8 HBS.out _⟩
          clear hq
          go_upto_region 15 with fail
          obtain ⟨w5, e5, hx5, hb5⟩ := F5.out
          rw [← e5]
          have HB5 : Hid (Below w4.heap.size w4 w5) := hb5
          clear p0 p1 p2 x3 x4 r0 r1 r2 r3
          have xp := XP.out.1.later XP.out.2 hb5
          have p0 := xp.1 0 _ rfl
          have p1 := xp.1 1 _ rfl
          have x3 := cell_any X34.out.1 hb5
          have r0 := hx5.1 0 _ rfl
          have r1 := hx5.1 1 _ rfl
          have r2 := hx5.1 2 _ rfl
          clear xp hb5 hx5 e5 F5
          generalize wr.heap.size = rg at r0 r1 r2 ⊢
          have t4' : decide (qa < 0) = false := decide_eq_false (by omega)
          have t5' : decide ((ncd : Int) ≤ qa) = false := decide_eq_false (by omega)
          have t1' : decide (qt < 0) = false := decide_eq_false (by omega)
          have SS : Hid ((fun W => Below w4.heap.size w4 W ∧ W.cell? ⟨g, 0, none⟩ = some (.slice (some ⟨eb, eo, none⟩) nf fc) ∧ W.cell? ⟨g, 1, none⟩ = some (.slice da nd dc) ∧ W.cell? ⟨eb, eo + k * 5 + 3, none⟩ = some (.slice ca ncd cc) ∧ W.cell? ⟨rg, 0, none⟩ = some (.int .i64 qa) ∧ W.cell? ⟨rg, 1, none⟩ = some (.int .i64 qk) ∧ W.cell? ⟨rg, 2, none⟩ = some (.int .i64 qt)) w5 ∧ (fun W => Below w4.heap.size w4 W ∧ W.cell? ⟨g, 0, none⟩ = some (.slice (some ⟨eb, eo, none⟩) nf fc) ∧ W.cell? ⟨g, 1, none⟩ = some (.slice da nd dc) ∧ W.cell? ⟨eb, eo + k * 5 + 3, none⟩ = some (.slice ca ncd cc) ∧ W.cell? ⟨rg, 0, none⟩ = some (.int .i64 qa) ∧ W.cell? ⟨rg, 1, none⟩ = some (.int .i64 qk) ∧ W.cell? ⟨rg, 2, none⟩ = some (.int .i64 qt)) w5.drew) := ⟨⟨HB5.out, p0, p1, x3, r0, r1, r2⟩, ⟨HB5.out.drew, p0, p1, x3, r0, r1, r2⟩⟩
          by_cases hk1 : qk = 1
          · have t2' := t2 hk1
            have t2f : decide ((nf : Int) ≤ qt) = false := decide_eq_false (by omega)
            subst hk1
            clear t2 t3
            go_quiet (fail)
            go_wp2
            go_roundw
            case rel => exact ⟨j + 1, by omega, by go_num, (by first | exact below_drewN HB5.out _ | exact HB5.out | exact HB5.out.drew)⟩
            case measure => simp [intOf]; omega
          · have hkk : (qk == 1) = false := by simpa using hk1
            have hkn : (qk != 1) = true := by simpa using hk1
            have t3' := t3 hk1
            have t3f : decide ((nd : Int) ≤ qt) = false := decide_eq_false (by omega)
            clear t2 t3
            go_quiet (fail)
            go_wp2
            go_roundw
            case rel => exact ⟨j + 1, by omega, by go_num, (by first | exact below_drewN HB5.out _ | exact HB5.out | exact HB5.out.drew)⟩
            case measure => simp [intOf]; omega
        · obtain rfl : j = nr := by omega
          go_wp2
          go_roundw
          case rel => exact ⟨k + 1, by omega, by go_num, HBS.out⟩
          case measure => simp [intOf]; omega
    · obtain rfl : k = nf := by omega
      go_wp2
      clear p0 p1 p2
      go_loopw [8] (fun i wr => ∃ m : Nat, m ≤ nd ∧ i = .int .i64 m ∧ Below w4.heap.size w4 wr) (fun i _ => nd - (intOf i).toNat)
      case atStart => exact ⟨0, Nat.zero_le _, rfl, HB.out⟩
      case round =>
        obtain ⟨m, hm, rfl, hbel⟩ := hrel
        have HB2 : Hid (Below w4.heap.size w4 wr) := hbel
        have xp := XP.out.1.later XP.out.2 hbel
        have p0 := xp.1 0 _ rfl
        have p1 := xp.1 1 _ rfl
        have p2 := xp.1 2 _ rfl
        clear hbel xp
        by_cases hlt : m < nd
        · have hlt' : (m : Int) < nd := by omega
          obtain ⟨b, off, d, rfl, -, hx, vc, vr, -, -, -, -, x4, -, wr4⟩ := DX.out m hlt
          have HX : Hid (p.datas[m]? = some d) := hx
          obtain ⟨ra, rc, rfl, lm3, -, RX0⟩ := LstA.open wr4
          obtain ⟨nr, enr⟩ : ∃ nr, d.rels.length = nr := ⟨_, rfl⟩
          unfold maxLen at lm3
          have br : (nr : Int) ≤ 9223372036854775807 := by omega
          clear lm3
          rw [enr] at RX0 x4
          have RX : Hid (∀ j, j < nr → ∃ b o x, ra = some ⟨b, o, none⟩ ∧ True ∧ d.rels[j]? = some x ∧ PRelAt w4 b (o + j * 4) x) := RX0
          have X4 : Hid (w4.cell? ⟨b, off + m * 5 + 4, none⟩ = some (.slice ra nr rc)) := x4
          clear hx x4 wr4 RX0 enr
          go_wp2
          go_loopw [9] (fun i wr => ∃ j : Nat, j ≤ nr ∧ i = .int .i64 j ∧ Below w4.heap.size w4 wr) (fun i _ => nr - (intOf i).toNat)
          case atStart => exact ⟨0, Nat.zero_le _, rfl, HB2.out⟩
          case round =>
            obtain ⟨j, hj, rfl, hbs⟩ := hrel
            have HBS : Hid (Below w4.heap.size w4 wr) := hbs
            clear p0 p1 p2
            have xp := XP.out.1.later XP.out.2 hbs
            have p0 := xp.1 0 _ rfl
            have p1 := xp.1 1 _ rfl
            have p2 := xp.1 2 _ rfl
            have x4 := cell_any X4.out hbs
            clear hbs xp
            by_cases hjl : j < nr
            · have hjl' : (j : Int) < nr := by omega
              obtain ⟨rb, ro, q, rfl, -, hq, r0, r1, r2, r3⟩ := RX.out j hjl
              obtain ⟨t1, t2, t3⟩ := good_drel G.out HX.out hq
              obtain ⟨qa, qk, qt, qd⟩ := q
              dsimp only at t1 t2 t3 r0 r1 r2 r3
              rw [LN.out.2] at t2
              subst t3
              replace r0 := cell_any r0 HBS.out
              replace r1 := cell_any r1 HBS.out
              replace r2 := cell_any r2 HBS.out
              replace r3 := cell_any r3 HBS.out
              have F5 : Hid (∃ w5, w5 = wr.alloc (.cells #[.int .i64 qa, .int .i64 4, .int .i64 qt, .int .i64 qd] 38) ∧ XAt w5 wr.heap.size [.int .i64 qa, .int .i64 4, .int .i64 qt, .int .i64 qd] ∧ Below w4.heap.size w4 w5) := ⟨_, rfl, XAt.new _ _ _, keep_alloc8 HBS.out _⟩
              clear hq
              go_upto_region 24 with fail
              obtain ⟨w5, e5, hx5, hb5⟩ := F5.out
              rw [← e5]
              have HB5 : Hid (Below w4.heap.size w4 w5) := hb5
              clear p0 p1 p2 x4 r0 r1 r2 r3
              have xp := XP.out.1.later XP.out.2 hb5
              have p1 := xp.1 1 _ rfl
              have r1 := hx5.1 1 _ rfl
              have r2 := hx5.1 2 _ rfl
              clear xp hb5 hx5 e5 F5
              generalize wr.heap.size = rg at r1 r2 ⊢
              go_wp2
              go_roundw
              case rel => exact ⟨j + 1, by omega, by go_num, HB5.out⟩
              case measure => simp [intOf]; omega
            · obtain rfl : j = nr := by omega
              go_wp2
              go_roundw
              case rel => exact ⟨m + 1, by omega, by go_num, HBS.out⟩
              case measure => simp [intOf]; omega
        · obtain rfl : m = nd := by omega
          go_wp2
          go_ret
          exact ⟨rfl, bnext B4.out HB2.out⟩
end Go.Proofs.YteakbpcmafdikaaGreatDoor
