/- Whether a program's parts may be patched, as the document's answer has it. -/
import Derived.Test.YtombfnnpdamlgaaDoorPatRefC
import Derived.Test.YtombfnnpdamlgaaDoorPatMay
namespace Go.Proofs.YtombfnnpdamlgaaDoor
open Go.ChangeShapes Go.WideShapes Go.ChangeAt Go.RowKit
set_option linter.unusedVariables false
set_option linter.unusedSimpArgs false
theorem asc_next {gap : Int} {rs : List PRelM} {m : Nat} (h : ∀ (j : Nat) r s, j + 1 < m → rs[j]? = some r → rs[j + 1]? = some s → r.at_ + gap ≤ s.at_) {r : PRelM} (hr : rs[m]? = some r) (hn : m = 0 ∨ ∃ q, rs[m - 1]? = some q ∧ q.at_ + gap ≤ r.at_) :
    ∀ (j : Nat) r s, j + 1 < m + 1 → rs[j]? = some r → rs[j + 1]? = some s → r.at_ + gap ≤ s.at_ := by
  intro j a b hj ha hb
  by_cases hjm : j + 1 < m
  · exact h j a b hjm ha hb
  · obtain rfl : m = j + 1 := by omega
    rcases hn with hn | ⟨q, hq, hg⟩
    · omega
    · rw [Nat.add_sub_cancel, ha] at hq
      rw [hr] at hb
      injection hq with hq
      injection hb with hb
      subst hq hb
      exact hg
set_option maxRecDepth 100000 in
set_option maxHeartbeats 40000000 in
theorem rright13_any {w : World} {v : Value} {p : ProgM} (h : IsProg Any8 w v p) (hsz : ∀ D ∈ p.datas, 1 ≤ D.size ∧ D.size ≤ 4096) :
    Calls Tryd.prog 22 #[v] w fun e w' => OnlyIf e (RightP p) ∧ Below w.heap.size w w' := by
  obtain ⟨vf, vd, rfl, hf, hd⟩ := h
  obtain ⟨fa, fc, rfl, fm, -, fx⟩ := LstA.open hf
  obtain ⟨da, dc, rfl, dm, -, dx⟩ := LstA.open hd
  obtain ⟨nf, eF⟩ : ∃ F, p.funcs.length = F := ⟨_, rfl⟩
  obtain ⟨nd, eD⟩ : ∃ D, p.datas.length = D := ⟨_, rfl⟩
  obtain ⟨E, eE⟩ : ∃ E, p.entry = E := ⟨_, rfl⟩
  rw [eF] at fm fx ⊢
  rw [eD] at dm dx ⊢
  rw [eE]
  have EF : Hid (p.funcs.length = nf ∧ p.datas.length = nd) := ⟨eF, eD⟩
  have FX : Hid (∀ k, k < nf → ∃ b off x, fa = some ⟨b, off, none⟩ ∧ Any8 b ∧ p.funcs[k]? = some x ∧ PFAt Any8 w b (off + k * 5) x) := fx
  have DX : Hid (∀ k, k < nd → ∃ b off x, da = some ⟨b, off, none⟩ ∧ Any8 b ∧ p.datas[k]? = some x ∧ PDAt Any8 w b (off + k * 5) x) := dx
  have SZ : Hid (∀ D ∈ p.datas, 1 ≤ D.size ∧ D.size ≤ 4096) := hsz
  have c0 := new_cell' w #[.slice fa nf fc, .slice da nd dc, .int .i64 E] 25 0 _ rfl
  have c1 := new_cell' w #[.slice fa nf fc, .slice da nd dc, .int .i64 E] 25 1 _ rfl
  have UP : Hid (Below w.heap.size w (w.alloc (.cells #[.slice fa nf fc, .slice da nd dc, .int .i64 E] 25))) := keep_alloc8 (Below.refl _ _) _
  have fm' := may_len fm
  have dm' := may_len dm
  clear hf hd eF eD eE fx dx fm dm hsz
  go_enter Tryd.func22, Tryd.ntmps22
  go_upto_region 1 with fail
  generalize w.alloc (.cells #[.slice fa nf fc, .slice da nd dc, .int .i64 E] 25) = w0 at c0 c1 UP ⊢
  have C01 : Hid (w0.cell? ⟨w.heap.size, 0, none⟩ = some (.slice fa nf fc) ∧ w0.cell? ⟨w.heap.size, 1, none⟩ = some (.slice da nd dc)) := ⟨c0, c1⟩
  clear c0 c1
  go_wp2
  go_loopw [3] (fun i wr => ∃ k : Nat, k ≤ nf ∧ i = .int .i64 k ∧ (∀ j F, j < k → p.funcs[j]? = some F → FnOk nf nd F) ∧ Below w0.heap.size w0 wr) (fun i _ => nf - (intOf i).toNat)
  case atStart => exact ⟨0, Nat.zero_le _, rfl, (fun j y hj => by omega), Below.refl _ _⟩
  case round =>
    obtain ⟨k, hk, rfl, hp, hbel⟩ := hrel
    have HP : Hid (∀ j F, j < k → p.funcs[j]? = some F → FnOk nf nd F) := hp
    have HB : Hid (Below w0.heap.size w0 wr) := hbel
    clear hp hbel
    have d0 := cell_any C01.out.1 HB.out
    have d1 := cell_any C01.out.2 HB.out
    by_cases hlt : k < nf
    · have hlt' : (k : Int) < nf := by omega
      obtain ⟨b, off, F, rfl, -, hx, vc, vr, x0, x1, x2, x3, x4, hw, hr⟩ := FX.out k hlt
      have HX : Hid (p.funcs[k]? = some F) := hx
      have UB : Hid (Below w.heap.size w wr) := bnext UP.out HB.out
      obtain ⟨ca, cc, rfl, ch, -, ccells⟩ := hw.1
      have HWR : Hid (Wrd F.code) := hw.2
      obtain ⟨ra, rc, rfl, rm, -, rx⟩ := LstA.open hr
      obtain ⟨n, em⟩ : ∃ m, F.code.length = m := ⟨_, rfl⟩
      obtain ⟨rn, ern⟩ : ∃ m, F.rels.length = m := ⟨_, rfl⟩
      have y0 := cell_any x0 UB.out
      have y1 := cell_any x1 UB.out
      have y2 := cell_any x2 UB.out
      have y3 := cell_any x3 UB.out
      have y4 := cell_any x4 UB.out
      rw [em] at ch y3
      rw [ern] at rm rx y4
      have cm' : (n : Int) ≤ 9223372036854775807 := may_len (Nat.le_trans ch.1.1 ch.2)
      have rm' := may_len rm
      have EM : Hid (F.code.length = n ∧ F.rels.length = rn) := ⟨em, ern⟩
      have RX : Hid (∀ k, k < rn → ∃ b off x, ra = some ⟨b, off, none⟩ ∧ Any8 b ∧ F.rels[k]? = some x ∧ PRelAt w b (off + k * 4) x) := rx
      have CX : Hid (F.code = [] ∨ ∃ b off, ca = some ⟨b, off, none⟩ ∧ ∀ i x, F.code[i]? = some x → NumAt .u32 w b (off + i * 1) x) := ccells
      obtain ⟨nm, enm⟩ : ∃ s, F.name = s := ⟨_, rfl⟩
      obtain ⟨kp, ekp⟩ : ∃ s, F.keep = s := ⟨_, rfl⟩
      obtain ⟨lf, elf⟩ : ∃ s, F.leaf = s := ⟨_, rfl⟩
      rw [enm] at y0
      rw [ekp] at y1
      rw [elf] at y2
      clear x0 x1 x2 x3 x4 hx hw hr rm rx ch ccells em ern enm ekp elf
      have g3 := new_cell' wr #[.string nm, .bool kp, .bool lf, .slice ca n cc, .slice ra rn rc] 44 3 _ rfl
      have g4 := new_cell' wr #[.string nm, .bool kp, .bool lf, .slice ca n cc, .slice ra rn rc] 44 4 _ rfl
      have HB1 : Hid (Below w0.heap.size w0 (wr.alloc (.cells #[.string nm, .bool kp, .bool lf, .slice ca n cc, .slice ra rn rc] 44))) := keep_alloc8 HB.out _
      go_upto_region 5 with fail
      generalize wr.alloc (.cells #[.string nm, .bool kp, .bool lf, .slice ca n cc, .slice ra rn rc] 44) = w1 at g3 g4 HB1 ⊢
      have G34 : Hid (w1.cell? ⟨wr.heap.size, 3, none⟩ = some (.slice ca n cc) ∧ w1.cell? ⟨wr.heap.size, 4, none⟩ = some (.slice ra rn rc)) := ⟨g3, g4⟩
      obtain ⟨B, eB⟩ : ∃ B, wr.heap.size = B := ⟨_, rfl⟩
      rw [eB] at G34 ⊢
      clear g3 g4 y0 y1 y2 y3 y4 d0 d1 eB UB HB
      go_wp2
      go_loopw [5] (fun i wq => ∃ m : Nat, m ≤ rn ∧ i = .int .i64 m ∧ (∀ j r, j < m → F.rels[j]? = some r → RelF nf nd F.code r) ∧ (∀ (j : Nat) r s, j + 1 < m → F.rels[j]? = some r → F.rels[j + 1]? = some s → r.at_ + 1 ≤ s.at_) ∧ Below w1.heap.size w1 wq) (fun i _ => rn - (intOf i).toNat)
      case atStart => exact ⟨0, Nat.zero_le _, rfl, (fun j y hj => by omega), (fun j r s hj => by omega), Below.refl _ _⟩
      case round =>
        obtain ⟨m, hm, rfl, hr1, hr2, hb2⟩ := hrel
        have HR1 : Hid (∀ j r, j < m → F.rels[j]? = some r → RelF nf nd F.code r) := hr1
        have HR2 : Hid (∀ (j : Nat) r s, j + 1 < m → F.rels[j]? = some r → F.rels[j + 1]? = some s → r.at_ + 1 ≤ s.at_) := hr2
        have HB2 : Hid (Below w1.heap.size w1 wr) := hb2
        clear hr1 hr2 hb2
        have g3 := cell_any G34.out.1 HB2.out
        have g4 := cell_any G34.out.2 HB2.out
        by_cases hlm : m < rn
        · have hlm' : (m : Int) < rn := by omega
          obtain ⟨q, qo, r, rfl, -, hr, x0, x1, x2, x3⟩ := RX.out m hlm
          have UB2 : Hid (Below w.heap.size w wr) := bnext UP.out (bnext HB1.out HB2.out)
          have HRR : Hid (F.rels[m]? = some r) := hr
          have y0 := cell_any x0 UB2.out
          have y1 := cell_any x1 UB2.out
          have y2 := cell_any x2 UB2.out
          have y3 := cell_any x3 UB2.out
          obtain ⟨a, kd, tt, ad⟩ := r
          dsimp only at y0 y1 y2 y3
          clear x0 x1 x2 x3 hr
          have XR := XAt.new wr #[.int .i64 a, .int .i64 kd, .int .i64 tt, .int .i64 ad] 46
          have HB3 : Hid (Below wr.heap.size wr (wr.alloc (.cells #[.int .i64 a, .int .i64 kd, .int .i64 tt, .int .i64 ad] 46))) := keep_alloc8 (Below.refl _ _) _
          go_upto_region 9 with fail
          generalize wr.alloc (.cells #[.int .i64 a, .int .i64 kd, .int .i64 tt, .int .i64 ad] 46) = w2 at XR HB3 ⊢
          have XRH : Hid (XAt w2 wr.heap.size [.int .i64 a, .int .i64 kd, .int .i64 tt, .int .i64 ad]) := XR
          have r0 := XR.1 0 _ rfl
          have r1 := XR.1 1 _ rfl
          have r2 := XR.1 2 _ rfl
          have r3 := XR.1 3 _ rfl
          have e3 := cell_any g3 HB3.out
          have e4 := cell_any g4 HB3.out
          have UD : Hid (Below w.heap.size w w2) := bnext UB2.out HB3.out
          obtain ⟨C, eC⟩ : ∃ C, wr.heap.size = C := ⟨_, rfl⟩
          have HC : Hid (wr.heap.size = C) := eC
          rw [eC] at r0 r1 r2 r3 ⊢
          clear XR y0 y1 y2 y3 g3 g4 eC
          have PV : Hid (m = 0 ∨ ∃ (j : Nat) (pv : PRelM), m = j + 1 ∧ F.rels[j]? = some pv ∧ w2.cell? ⟨q, qo + j * 4, none⟩ = some (.int .i64 pv.at_)) := by
            rcases Nat.eq_zero_or_pos m with h | h
            · exact .inl h
            · refine .inr ?_
              obtain ⟨j, rfl⟩ : ∃ j, m = j + 1 := ⟨m - 1, by omega⟩
              obtain ⟨q', qo', pv, e, -, hpv, x0, -⟩ := RX.out j (by omega)
              injection e with e
              injection e with e1 e2
              subst e1 e2
              exact ⟨j, pv, rfl, hpv, cell_any x0 UD.out⟩
          go_cut [80] from 27 to 147 (fun z wx => ∃ bb : Bool, z = .bool bb ∧ (bb = false → (0 ≤ a ∧ a < n ∧ (m = 0 ∨ ∃ q : PRelM, F.rels[m - 1]? = some q ∧ q.at_ + 1 ≤ a) ∧ -1048576 ≤ ad ∧ ad ≤ 1048576 ∧ 0 ≤ tt)) ∧ Below w2.heap.size w2 wx)
          case first =>
            rcases (by omega : a < 0 ∨ (0 ≤ a ∧ (n : Int) ≤ a) ∨ (0 ≤ a ∧ a < n)) with q1 | ⟨q1, q2⟩ | ⟨q1, q2⟩
            · have b1 : decide (a < 0) = true := decide_eq_true q1
              as_aux_lemma =>
                go_big_quiet (fail)
                go_wp2
                go_meet
                exact ⟨true, rfl, (fun h => by cases h), below_drewN (Below.refl _ _) _⟩
            · have b1 : decide (a < 0) = false := decide_eq_false (by omega)
              have b2 : decide ((n : Int) ≤ a) = true := decide_eq_true q2
              as_aux_lemma =>
                go_big_quiet (fail)
                go_wp2
                go_meet
                exact ⟨true, rfl, (fun h => by cases h), below_drewN (Below.refl _ _) _⟩
            · have b1 : decide (a < 0) = false := decide_eq_false (by omega)
              have b2 : decide ((n : Int) ≤ a) = false := decide_eq_false (by omega)
              rcases PV.out with rfl | ⟨j, pv, rfl, hpv, z0⟩
              · have b3 : decide ((0 : Int) < 0) = false := by decide
                rcases (by omega : ad < -1048576 ∨ (-1048576 ≤ ad ∧ 1048576 < ad) ∨ (-1048576 ≤ ad ∧ ad ≤ 1048576 ∧ tt < 0) ∨ (-1048576 ≤ ad ∧ ad ≤ 1048576 ∧ 0 ≤ tt)) with z1 | ⟨z1, z2⟩ | ⟨z1, z2, z3⟩ | ⟨z1, z2, z3⟩
                · have b4 : decide (ad < -1048576) = true := decide_eq_true (by omega)
                  as_aux_lemma =>
                    go_big_quiet (fail)
                    go_wp2
                    go_meet
                    exact ⟨true, rfl, (fun h => by cases h), below_drewN (Below.refl _ _) _⟩
                · have b4 : decide (ad < -1048576) = false := decide_eq_false (by omega)
                  have b5 : decide (1048576 < ad) = true := decide_eq_true (by omega)
                  as_aux_lemma =>
                    go_big_quiet (fail)
                    go_wp2
                    go_meet
                    exact ⟨true, rfl, (fun h => by cases h), below_drewN (Below.refl _ _) _⟩
                · have b4 : decide (ad < -1048576) = false := decide_eq_false (by omega)
                  have b5 : decide (1048576 < ad) = false := decide_eq_false (by omega)
                  have b6 : decide (tt < 0) = true := decide_eq_true (by omega)
                  as_aux_lemma =>
                    go_big_quiet (fail)
                    go_wp2
                    go_meet
                    exact ⟨true, rfl, (fun h => by cases h), below_drewN (Below.refl _ _) _⟩
                · have b4 : decide (ad < -1048576) = false := decide_eq_false (by omega)
                  have b5 : decide (1048576 < ad) = false := decide_eq_false (by omega)
                  have b6 : decide (tt < 0) = false := decide_eq_false (by omega)
                  as_aux_lemma =>
                    go_big_quiet (fail)
                    go_wp2
                    go_meet
                    exact ⟨false, rfl, (fun _ => ⟨q1, q2, (by first | exact .inl rfl | exact .inl trivial | trivial), z1, z2, z3⟩), below_drewN (Below.refl _ _) _⟩
              · have b3 : decide ((0 : Int) < (j : Int) + 1) = true := decide_eq_true (by omega)
                obtain ⟨pa, epa⟩ : ∃ pa, pv.at_ = pa := ⟨_, rfl⟩
                rw [epa] at z0
                have HPV : Hid (F.rels[j]? = some pv ∧ pv.at_ = pa) := ⟨hpv, epa⟩
                clear hpv epa
                rcases (by omega : a ≤ pa ∨ pa + 1 ≤ a) with y1 | y1
                · have b7 : decide (a ≤ pa) = true := decide_eq_true y1
                  as_aux_lemma =>
                    go_big_quiet (fail)
                    go_wp2
                    go_meet
                    exact ⟨true, rfl, (fun h => by cases h), below_drewN (Below.refl _ _) _⟩
                · have b7 : decide (a ≤ pa) = false := decide_eq_false (by omega)
                  rcases (by omega : ad < -1048576 ∨ (-1048576 ≤ ad ∧ 1048576 < ad) ∨ (-1048576 ≤ ad ∧ ad ≤ 1048576 ∧ tt < 0) ∨ (-1048576 ≤ ad ∧ ad ≤ 1048576 ∧ 0 ≤ tt)) with z1 | ⟨z1, z2⟩ | ⟨z1, z2, z3⟩ | ⟨z1, z2, z3⟩
                  · have b4 : decide (ad < -1048576) = true := decide_eq_true (by omega)
                    as_aux_lemma =>
                      go_big_quiet (fail)
                      go_wp2
                      go_meet
                      exact ⟨true, rfl, (fun h => by cases h), below_drewN (Below.refl _ _) _⟩
                  · have b4 : decide (ad < -1048576) = false := decide_eq_false (by omega)
                    have b5 : decide (1048576 < ad) = true := decide_eq_true (by omega)
                    as_aux_lemma =>
                      go_big_quiet (fail)
                      go_wp2
                      go_meet
                      exact ⟨true, rfl, (fun h => by cases h), below_drewN (Below.refl _ _) _⟩
                  · have b4 : decide (ad < -1048576) = false := decide_eq_false (by omega)
                    have b5 : decide (1048576 < ad) = false := decide_eq_false (by omega)
                    have b6 : decide (tt < 0) = true := decide_eq_true (by omega)
                    as_aux_lemma =>
                      go_big_quiet (fail)
                      go_wp2
                      go_meet
                      exact ⟨true, rfl, (fun h => by cases h), below_drewN (Below.refl _ _) _⟩
                  · have b4 : decide (ad < -1048576) = false := decide_eq_false (by omega)
                    have b5 : decide (1048576 < ad) = false := decide_eq_false (by omega)
                    have b6 : decide (tt < 0) = false := decide_eq_false (by omega)
                    as_aux_lemma =>
                      go_big_quiet (fail)
                      go_wp2
                      go_meet
                      exact ⟨false, rfl, (fun _ => ⟨q1, q2, .inr ⟨pv, by rw [Nat.add_sub_cancel]; exact HPV.out.1, by rw [HPV.out.2]; exact y1⟩, z1, z2, z3⟩), below_drewN (Below.refl _ _) _⟩
          case rest =>
            obtain ⟨bb, rfl, hok, hwc⟩ := hcut
            have HC2 : Hid (Below w2.heap.size w2 wc) := hwc
            have HUC : Hid (Below w.heap.size w wc) := bnext UD.out hwc
            have HB12 : Hid (Below w1.heap.size w1 w2) := bnext HB2.out HB3.out
            have HOK : Hid (bb = false → (0 ≤ a ∧ a < n ∧ (m = 0 ∨ ∃ q : PRelM, F.rels[m - 1]? = some q ∧ q.at_ + 1 ≤ a) ∧ -1048576 ≤ ad ∧ ad ≤ 1048576 ∧ 0 ≤ tt)) := hok
            clear hok hwc r0 r1 r2 r3 e3 e4 PV
            cases bb
            case true =>
              go_wp2
              go_ret
              exact ⟨only_no, HUC.out⟩
            case false =>
              obtain ⟨q1, q2, q3, q4, q5, q6⟩ := HOK.out rfl
              have Q3 : Hid (m = 0 ∨ ∃ q : PRelM, F.rels[m - 1]? = some q ∧ q.at_ + 1 ≤ a) := q3
              obtain ⟨A, rfl⟩ : ∃ A : Nat, a = A := ⟨a.toNat, by omega⟩
              have hAn : A < n := by omega
              obtain ⟨y, hy⟩ : ∃ y, F.code[A]? = some y := get_some (by rw [EM.out.1]; exact hAn)
              have hyr := HWR.out y (List.mem_of_getElem? hy)
              have hgd : F.code.getD ((A : Int)).toNat 0 = y := by rw [Int.toNat_natCast, List.getD_eq_getElem?_getD, hy]; rfl
              rcases CX.out with hc0 | ⟨cb, co, rfl, hcc⟩
              · rw [hc0] at hy; simp at hy
              have kc : w.cell? ⟨cb, co + A, none⟩ = some (.int .u32 y) := by have h : w.cell? ⟨cb, co + A * 1, none⟩ = _ := hcc A y hy; rwa [Nat.mul_one] at h
              replace kc := cell_any kc HUC.out
              have NX : Hid (RelF nf nd F.code ⟨A, kd, tt, ad⟩ → (∀ j r, j < m + 1 → F.rels[j]? = some r → RelF nf nd F.code r) ∧ (∀ (j : Nat) r s, j + 1 < m + 1 → F.rels[j]? = some r → F.rels[j + 1]? = some s → r.at_ + 1 ≤ s.at_)) := fun h => ⟨upto_next HR1.out HRR.out h, asc_next HR2.out HRR.out Q3.out⟩
              have RF : Hid (okG y = true → ((kd = 1 ∧ (gO y = 19 ∨ gO y = 20) ∧ tt < nf) ∨ (((kd = 2 ∧ gO y = 9) ∨ (kd = 3 ∧ gO y = 10)) ∧ tt < nd)) → RelF nf nd F.code ⟨A, kd, tt, ad⟩) := fun h1 h2 => by
                unfold RelF
                rw [EM.out.1]
                dsimp only
                rw [hgd]
                exact ⟨q1, q2, q4, q5, q6, h1, h2⟩
              have HG : Hid (∀ W, Calls Tryd.prog 17 #[.int .u32 y] W fun e w' => e = .returned (rgetV y) ∧ Below W.heap.size W w') := fun W => rget_all y W hyr.1 hyr.2
              unfold rgetV insV at HG
              have r0 := cell_any (XRH.out.1 0 _ rfl) HC2.out
              rw [HC.out] at r0
              have e3 := cell_any G34.out.1 (bnext HB12.out HC2.out)
              have BC : Hid (∀ W, Below wc.heap.size wc W → W.cell? ⟨C, 0, none⟩ = some (.int .i64 A) ∧ W.cell? ⟨C, 1, none⟩ = some (.int .i64 kd) ∧ W.cell? ⟨C, 2, none⟩ = some (.int .i64 tt) ∧ W.cell? ⟨w.heap.size, 0, none⟩ = some (.slice (some ⟨b, off, none⟩) nf fc) ∧ W.cell? ⟨w.heap.size, 1, none⟩ = some (.slice da nd dc)) := fun W hW => by
                have h := bnext HC2.out hW
                rw [← HC.out]
                exact ⟨cell_any (XRH.out.1 0 _ rfl) h, cell_any (XRH.out.1 1 _ rfl) h, cell_any (XRH.out.1 2 _ rfl) h, cell_any C01.out.1 (bnext HB1.out (bnext HB12.out h)), cell_any C01.out.2 (bnext HB1.out (bnext HB12.out h))⟩
              have HBX : Hid (Below w1.heap.size w1 wc) := bnext HB12.out HC2.out
              clear hy hyr hgd hcc q3
              by_cases hk : okG y = true
              · have HK : Hid (okG y = true) := hk
                simp only [if_pos hk] at HG
                clear hk
                go_upto_region 12 with (go_at_call 17; refine (HG.out _).mono ?_; rintro e w5 ⟨rfl, hb5⟩)
                have XI := XAt.new w5 #[.int .i64 (gO y), .int .i64 (gA y), .int .i64 (gB y), .int .i64 (gC y), .int .i64 (gI y)] 49
                have H5 : Hid (Below wc.heap.size wc (w5.alloc (.cells #[.int .i64 (gO y), .int .i64 (gA y), .int .i64 (gB y), .int .i64 (gC y), .int .i64 (gI y)] 49))) := keep_alloc8 hb5 _
                generalize w5.alloc (.cells #[.int .i64 (gO y), .int .i64 (gA y), .int .i64 (gB y), .int .i64 (gC y), .int .i64 (gI y)] 49) = w6 at XI H5 ⊢
                obtain ⟨r0', r1, r2, p0, p1⟩ := BC.out _ H5.out
                have i0 := XI.1 0 _ rfl
                clear XI r0 e3 kc
                obtain ⟨O, eO⟩ : ∃ O, gO y = O := ⟨_, rfl⟩
                rw [eO] at i0 RF ⊢
                clear eO
                rcases (by omega : kd = 1 ∨ kd = 2 ∨ kd = 3 ∨ (kd ≠ 1 ∧ kd ≠ 2 ∧ kd ≠ 3)) with rfl | rfl | rfl | ⟨n1, n2, n3⟩
                · skip
                  rcases (by omega : O = 19 ∨ O = 20 ∨ (O ≠ 19 ∧ O ≠ 20)) with rfl | rfl | ⟨o1, o2⟩
                  · skip
                    rcases (by omega : tt < nf ∨ (nf : Int) ≤ tt) with t1 | t1
                    · skip
                      have t2 : decide (tt < (nf : Int)) = true := decide_eq_true t1
                      as_aux_lemma =>
                        go_wp2
                        all_goals
                          go_roundw
                          case rel => exact ⟨m + 1, by omega, by go_num, (NX.out (RF.out HK.out (.inl ⟨rfl, .inl rfl, t1⟩))).1, (NX.out (RF.out HK.out (.inl ⟨rfl, .inl rfl, t1⟩))).2, bnext HBX.out H5.out⟩
                          case measure => simp [intOf]; omega
                    · have t2 : decide (tt < (nf : Int)) = false := decide_eq_false (by omega)
                      as_aux_lemma =>
                        go_wp2
                        go_ret
                        exact ⟨only_no, bnext HUC.out H5.out⟩
                  · skip
                    rcases (by omega : tt < nf ∨ (nf : Int) ≤ tt) with t1 | t1
                    · skip
                      have t2 : decide (tt < (nf : Int)) = true := decide_eq_true t1
                      as_aux_lemma =>
                        go_wp2
                        all_goals
                          go_roundw
                          case rel => exact ⟨m + 1, by omega, by go_num, (NX.out (RF.out HK.out (.inl ⟨rfl, .inr rfl, t1⟩))).1, (NX.out (RF.out HK.out (.inl ⟨rfl, .inr rfl, t1⟩))).2, bnext HBX.out H5.out⟩
                          case measure => simp [intOf]; omega
                    · have t2 : decide (tt < (nf : Int)) = false := decide_eq_false (by omega)
                      as_aux_lemma =>
                        go_wp2
                        go_ret
                        exact ⟨only_no, bnext HUC.out H5.out⟩
                  · skip
                    have o1' : (O == 19) = false := by simpa using o1
                    have o2' : (O == 20) = false := by simpa using o2
                    as_aux_lemma =>
                      go_wp2
                      go_ret
                      exact ⟨only_no, bnext HUC.out H5.out⟩
                · skip
                  rcases (by omega : O = 9 ∨ O ≠ 9) with rfl | o1
                  · skip
                    rcases (by omega : tt < nd ∨ (nd : Int) ≤ tt) with t1 | t1
                    · skip
                      have t2 : decide (tt < (nd : Int)) = true := decide_eq_true t1
                      as_aux_lemma =>
                        go_wp2
                        all_goals
                          go_roundw
                          case rel => exact ⟨m + 1, by omega, by go_num, (NX.out (RF.out HK.out (.inr ⟨.inl ⟨rfl, rfl⟩, t1⟩))).1, (NX.out (RF.out HK.out (.inr ⟨.inl ⟨rfl, rfl⟩, t1⟩))).2, bnext HBX.out H5.out⟩
                          case measure => simp [intOf]; omega
                    · have t2 : decide (tt < (nd : Int)) = false := decide_eq_false (by omega)
                      as_aux_lemma =>
                        go_wp2
                        go_ret
                        exact ⟨only_no, bnext HUC.out H5.out⟩
                  · skip
                    have o1' : (O == 9) = false := by simpa using o1
                    as_aux_lemma =>
                      go_wp2
                      go_ret
                      exact ⟨only_no, bnext HUC.out H5.out⟩
                · skip
                  rcases (by omega : O = 10 ∨ O ≠ 10) with rfl | o1
                  · skip
                    rcases (by omega : tt < nd ∨ (nd : Int) ≤ tt) with t1 | t1
                    · skip
                      have t2 : decide (tt < (nd : Int)) = true := decide_eq_true t1
                      as_aux_lemma =>
                        go_wp2
                        all_goals
                          go_roundw
                          case rel => exact ⟨m + 1, by omega, by go_num, (NX.out (RF.out HK.out (.inr ⟨.inr ⟨rfl, rfl⟩, t1⟩))).1, (NX.out (RF.out HK.out (.inr ⟨.inr ⟨rfl, rfl⟩, t1⟩))).2, bnext HBX.out H5.out⟩
                          case measure => simp [intOf]; omega
                    · have t2 : decide (tt < (nd : Int)) = false := decide_eq_false (by omega)
                      as_aux_lemma =>
                        go_wp2
                        go_ret
                        exact ⟨only_no, bnext HUC.out H5.out⟩
                  · skip
                    have o1' : (O == 10) = false := by simpa using o1
                    as_aux_lemma =>
                      go_wp2
                      go_ret
                      exact ⟨only_no, bnext HUC.out H5.out⟩
                · skip
                  have n1' : (kd == 1) = false := by simpa using n1
                  have n2' : (kd == 2) = false := by simpa using n2
                  have n3' : (kd == 3) = false := by simpa using n3
                  as_aux_lemma =>
                    go_wp2
                    go_ret
                    exact ⟨only_no, bnext HUC.out H5.out⟩
              · simp only [if_neg hk] at HG
                clear hk
                go_upto_region 12 with (go_at_call 17; refine (HG.out _).mono ?_; rintro e w5 ⟨rfl, hb5⟩)
                have XI := XAt.new w5 #[.int .i64 0, .int .i64 0, .int .i64 0, .int .i64 0, .int .i64 0] 49
                have H5 : Hid (Below wc.heap.size wc (w5.alloc (.cells #[.int .i64 0, .int .i64 0, .int .i64 0, .int .i64 0, .int .i64 0] 49))) := keep_alloc8 hb5 _
                generalize w5.alloc (.cells #[.int .i64 0, .int .i64 0, .int .i64 0, .int .i64 0, .int .i64 0] 49) = w6 at XI H5 ⊢
                obtain ⟨r0', r1, r2, p0, p1⟩ := BC.out _ H5.out
                have i0 := XI.1 0 _ rfl
                clear XI r0 e3 kc
                rcases (by omega : kd = 1 ∨ kd = 2 ∨ kd = 3 ∨ (kd ≠ 1 ∧ kd ≠ 2 ∧ kd ≠ 3)) with rfl | rfl | rfl | ⟨n1, n2, n3⟩
                · skip
                  as_aux_lemma =>
                    go_wp2
                    go_ret
                    exact ⟨only_no, bnext HUC.out H5.out⟩
                · skip
                  as_aux_lemma =>
                    go_wp2
                    go_ret
                    exact ⟨only_no, bnext HUC.out H5.out⟩
                · skip
                  as_aux_lemma =>
                    go_wp2
                    go_ret
                    exact ⟨only_no, bnext HUC.out H5.out⟩
                · skip
                  have n1' : (kd == 1) = false := by simpa using n1
                  have n2' : (kd == 2) = false := by simpa using n2
                  have n3' : (kd == 3) = false := by simpa using n3
                  as_aux_lemma =>
                    go_wp2
                    go_ret
                    exact ⟨only_no, bnext HUC.out H5.out⟩
        · obtain rfl : m = rn := by omega
          have FO : Hid (FnOk nf nd F) := ⟨fun r hr => by
            obtain ⟨j, hj⟩ := List.mem_iff_getElem?.1 hr
            exact HR1.out j r (by have := get_lt hj; have := EM.out.2; omega) hj, fun j r s h1 h2 => HR2.out j r s (by have := get_lt h2; have := EM.out.2; omega) h1 h2⟩
          go_wp2
          go_roundw
          case rel => exact ⟨k + 1, by omega, by go_num, upto_next HP.out HX.out FO.out, bnext HB1.out HB2.out⟩
          case measure => simp [intOf]; omega
    · obtain rfl : k = nf := by omega
      have HFS : Hid (∀ F ∈ p.funcs, FnOk k nd F) := upto_all (by rw [EF.out.1]; exact HP.out)
      clear HP d1
      have HBF : Hid (Below w0.heap.size w0 wr) := HB.out
      clear HB
      go_wp2
      go_loopw [11] (fun i wr => ∃ l : Nat, l ≤ nd ∧ i = .int .i64 l ∧ (∀ j D, j < l → p.datas[j]? = some D → DtOk nd D) ∧ Below w0.heap.size w0 wr) (fun i _ => nd - (intOf i).toNat)
      case atStart => exact ⟨0, Nat.zero_le _, rfl, (fun j y hj => by omega), HBF.out⟩
      case round =>
        obtain ⟨l, hl, rfl, hp, hbel⟩ := hrel
        have HP : Hid (∀ j D, j < l → p.datas[j]? = some D → DtOk nd D) := hp
        have HB : Hid (Below w0.heap.size w0 wr) := hbel
        clear hp hbel
        have d1 := cell_any C01.out.2 HB.out
        by_cases hlt : l < nd
        · have hlt' : (l : Int) < nd := by omega
          obtain ⟨b, off, D, rfl, -, hx, vc, vr, x0, x1, x2, x3, x4, hw, hr⟩ := DX.out l hlt
          have HX : Hid (p.datas[l]? = some D) := hx
          have UB : Hid (Below w.heap.size w wr) := bnext UP.out HB.out
          have hsz := SZ.out D (List.mem_of_getElem? hx)
          obtain ⟨ca, cc, rfl, ch, -, ccells⟩ := hw.1
          obtain ⟨ra, rc, rfl, rm, -, rx⟩ := LstA.open hr
          obtain ⟨n, em⟩ : ∃ m, D.bytes.length = m := ⟨_, rfl⟩
          obtain ⟨rn, ern⟩ : ∃ m, D.rels.length = m := ⟨_, rfl⟩
          have y0 := cell_any x0 UB.out
          have y1 := cell_any x1 UB.out
          have y2 := cell_any x2 UB.out
          have y3 := cell_any x3 UB.out
          have y4 := cell_any x4 UB.out
          rw [em] at y3
          rw [ern] at rm rx y4
          have rm' := may_len rm
          have ER : Hid (D.rels.length = rn) := ern
          have RX : Hid (∀ k, k < rn → ∃ b off x, ra = some ⟨b, off, none⟩ ∧ Any8 b ∧ D.rels[k]? = some x ∧ PRelAt w b (off + k * 4) x) := rx
          obtain ⟨al, eal⟩ : ∃ s, D.align = s := ⟨_, rfl⟩
          obtain ⟨fi, efi⟩ : ∃ s, D.fixed = s := ⟨_, rfl⟩
          obtain ⟨sz, esz⟩ : ∃ s, D.size = s := ⟨_, rfl⟩
          have ES : Hid (D.size = sz) := esz
          rw [eal] at y0
          rw [efi] at y1
          rw [esz] at y2 hsz
          obtain ⟨s1, s2⟩ := hsz
          clear x0 x1 x2 x3 x4 hx hw hr rm rx ch ccells em ern eal efi esz
          have g2 := new_cell' wr #[.int .i64 al, .bool fi, .int .i64 sz, .slice ca n cc, .slice ra rn rc] 55 2 _ rfl
          have g4 := new_cell' wr #[.int .i64 al, .bool fi, .int .i64 sz, .slice ca n cc, .slice ra rn rc] 55 4 _ rfl
          have HB1 : Hid (Below w0.heap.size w0 (wr.alloc (.cells #[.int .i64 al, .bool fi, .int .i64 sz, .slice ca n cc, .slice ra rn rc] 55))) := keep_alloc8 HB.out _
          go_upto_region 20 with fail
          generalize wr.alloc (.cells #[.int .i64 al, .bool fi, .int .i64 sz, .slice ca n cc, .slice ra rn rc] 55) = w1 at g2 g4 HB1 ⊢
          have G34 : Hid (w1.cell? ⟨wr.heap.size, 2, none⟩ = some (.int .i64 sz) ∧ w1.cell? ⟨wr.heap.size, 4, none⟩ = some (.slice ra rn rc)) := ⟨g2, g4⟩
          obtain ⟨B, eB⟩ : ∃ B, wr.heap.size = B := ⟨_, rfl⟩
          rw [eB] at G34 ⊢
          clear g2 g4 y0 y1 y2 y3 y4 d1 eB UB HB
          go_wp2
          go_loopw [13] (fun i wq => ∃ m : Nat, m ≤ rn ∧ i = .int .i64 m ∧ (∀ j r, j < m → D.rels[j]? = some r → RelD nd sz r) ∧ (∀ (j : Nat) r s, j + 1 < m → D.rels[j]? = some r → D.rels[j + 1]? = some s → r.at_ + 4 ≤ s.at_) ∧ Below w1.heap.size w1 wq) (fun i _ => rn - (intOf i).toNat)
          case atStart => exact ⟨0, Nat.zero_le _, rfl, (fun j y hj => by omega), (fun j r s hj => by omega), Below.refl _ _⟩
          case round =>
            obtain ⟨m, hm, rfl, hr1, hr2, hb2⟩ := hrel
            have HR1 : Hid (∀ j r, j < m → D.rels[j]? = some r → RelD nd sz r) := hr1
            have HR2 : Hid (∀ (j : Nat) r s, j + 1 < m → D.rels[j]? = some r → D.rels[j + 1]? = some s → r.at_ + 4 ≤ s.at_) := hr2
            have HB2 : Hid (Below w1.heap.size w1 wr) := hb2
            clear hr1 hr2 hb2
            have g2 := cell_any G34.out.1 HB2.out
            have g4 := cell_any G34.out.2 HB2.out
            have h1 := cell_any C01.out.2 (bnext HB1.out HB2.out)
            by_cases hlm : m < rn
            · have hlm' : (m : Int) < rn := by omega
              obtain ⟨q, qo, r, rfl, -, hr, x0, x1, x2, x3⟩ := RX.out m hlm
              have UB2 : Hid (Below w.heap.size w wr) := bnext UP.out (bnext HB1.out HB2.out)
              have HRR : Hid (D.rels[m]? = some r) := hr
              have y0 := cell_any x0 UB2.out
              have y1 := cell_any x1 UB2.out
              have y2 := cell_any x2 UB2.out
              have y3 := cell_any x3 UB2.out
              obtain ⟨a, kd, tt, ad⟩ := r
              dsimp only at y0 y1 y2 y3
              clear x0 x1 x2 x3 hr
              have XR := XAt.new wr #[.int .i64 a, .int .i64 kd, .int .i64 tt, .int .i64 ad] 46
              have HB3 : Hid (Below wr.heap.size wr (wr.alloc (.cells #[.int .i64 a, .int .i64 kd, .int .i64 tt, .int .i64 ad] 46))) := keep_alloc8 (Below.refl _ _) _
              go_upto_region 24 with fail
              generalize wr.alloc (.cells #[.int .i64 a, .int .i64 kd, .int .i64 tt, .int .i64 ad] 46) = w2 at XR HB3 ⊢
              have r0 := XR.1 0 _ rfl
              have r1 := XR.1 1 _ rfl
              have r2 := XR.1 2 _ rfl
              have r3 := XR.1 3 _ rfl
              have e2 := cell_any g2 HB3.out
              have e4 := cell_any g4 HB3.out
              have k1 := cell_any h1 HB3.out
              have UD : Hid (Below w.heap.size w w2) := bnext UB2.out HB3.out
              obtain ⟨C, eC⟩ : ∃ C, wr.heap.size = C := ⟨_, rfl⟩
              have HC : Hid (wr.heap.size = C) := eC
              rw [eC] at r0 r1 r2 r3 ⊢
              clear XR y0 y1 y2 y3 g2 g4 h1 eC
              have PV : Hid (m = 0 ∨ ∃ (j : Nat) (pv : PRelM), m = j + 1 ∧ D.rels[j]? = some pv ∧ w2.cell? ⟨q, qo + j * 4, none⟩ = some (.int .i64 pv.at_) ∧ RelD nd sz pv) := by
                rcases Nat.eq_zero_or_pos m with h | h
                · exact .inl h
                · refine .inr ?_
                  obtain ⟨j, rfl⟩ : ∃ j, m = j + 1 := ⟨m - 1, by omega⟩
                  obtain ⟨q', qo', pv, e, -, hpv, x0, -⟩ := RX.out j (by omega)
                  injection e with e
                  injection e with e1 e2
                  subst e1 e2
                  exact ⟨j, pv, rfl, hpv, cell_any x0 UD.out, HR1.out j pv (by omega) hpv⟩
              go_cut [227] from 160 to 227 (fun z wx => ∃ bb : Bool, z = .bool bb ∧ (bb = false → (kd = 4 ∧ 0 ≤ a ∧ a ≤ sz - 4 ∧ (m = 0 ∨ ∃ q : PRelM, D.rels[m - 1]? = some q ∧ q.at_ + 4 ≤ a) ∧ 0 ≤ tt ∧ tt < nd ∧ -1048576 ≤ ad ∧ ad ≤ 1048576)) ∧ Below w2.heap.size w2 wx)
              case first =>
                by_cases hk4 : kd = 4
                · subst hk4
                  rcases (by omega : a < 0 ∨ (0 ≤ a ∧ sz - 4 < a) ∨ (0 ≤ a ∧ a ≤ sz - 4)) with q1 | ⟨q1, q2⟩ | ⟨q1, q2⟩
                  · have b1 : decide (a < 0) = true := decide_eq_true q1
                    as_aux_lemma =>
                      go_big_quiet (fail)
                      go_wp2
                      go_meet
                      exact ⟨true, rfl, (fun h => by cases h), below_drewN (Below.refl _ _) _⟩
                  · have b1 : decide (a < 0) = false := decide_eq_false (by omega)
                    have b2 : decide (sz - 4 < a) = true := decide_eq_true q2
                    as_aux_lemma =>
                      go_big_quiet (fail)
                      go_wp2
                      go_meet
                      exact ⟨true, rfl, (fun h => by cases h), below_drewN (Below.refl _ _) _⟩
                  · have b1 : decide (a < 0) = false := decide_eq_false (by omega)
                    have b2 : decide (sz - 4 < a) = false := decide_eq_false (by omega)
                    rcases PV.out with rfl | ⟨j, pv, rfl, hpv, z0, hpd⟩
                    · have b3 : decide ((0 : Int) < 0) = false := by decide
                      rcases (by omega : tt < 0 ∨ (0 ≤ tt ∧ (nd : Int) ≤ tt) ∨ (0 ≤ tt ∧ tt < nd ∧ ad < -1048576) ∨ (0 ≤ tt ∧ tt < nd ∧ -1048576 ≤ ad ∧ 1048576 < ad) ∨ (0 ≤ tt ∧ tt < nd ∧ -1048576 ≤ ad ∧ ad ≤ 1048576)) with z1 | ⟨z1, z2⟩ | ⟨z1, z2, z3⟩ | ⟨z1, z2, z3, z4⟩ | ⟨z1, z2, z3, z4⟩
                      · have c4 : decide (tt < 0) = true := decide_eq_true (by omega)
                        as_aux_lemma =>
                          go_big_quiet (fail)
                          go_wp2
                          go_meet
                          exact ⟨true, rfl, (fun h => by cases h), below_drewN (Below.refl _ _) _⟩
                      · have c4 : decide (tt < 0) = false := decide_eq_false (by omega)
                        have c5 : decide ((nd : Int) ≤ tt) = true := decide_eq_true (by omega)
                        as_aux_lemma =>
                          go_big_quiet (fail)
                          go_wp2
                          go_meet
                          exact ⟨true, rfl, (fun h => by cases h), below_drewN (Below.refl _ _) _⟩
                      · have c4 : decide (tt < 0) = false := decide_eq_false (by omega)
                        have c5 : decide ((nd : Int) ≤ tt) = false := decide_eq_false (by omega)
                        have c6 : decide (ad < -1048576) = true := decide_eq_true (by omega)
                        as_aux_lemma =>
                          go_big_quiet (fail)
                          go_wp2
                          go_meet
                          exact ⟨true, rfl, (fun h => by cases h), below_drewN (Below.refl _ _) _⟩
                      · have c4 : decide (tt < 0) = false := decide_eq_false (by omega)
                        have c5 : decide ((nd : Int) ≤ tt) = false := decide_eq_false (by omega)
                        have c6 : decide (ad < -1048576) = false := decide_eq_false (by omega)
                        have c7 : decide (1048576 < ad) = true := decide_eq_true (by omega)
                        as_aux_lemma =>
                          go_big_quiet (fail)
                          go_wp2
                          go_meet
                          exact ⟨true, rfl, (fun h => by cases h), below_drewN (Below.refl _ _) _⟩
                      · have c4 : decide (tt < 0) = false := decide_eq_false (by omega)
                        have c5 : decide ((nd : Int) ≤ tt) = false := decide_eq_false (by omega)
                        have c6 : decide (ad < -1048576) = false := decide_eq_false (by omega)
                        have c7 : decide (1048576 < ad) = false := decide_eq_false (by omega)
                        as_aux_lemma =>
                          go_big_quiet (fail)
                          go_wp2
                          go_meet
                          exact ⟨false, rfl, (fun _ => ⟨by first | rfl | trivial, q1, q2, (by first | exact .inl rfl | exact .inl trivial | trivial), z1, z2, z3, z4⟩), below_drewN (Below.refl _ _) _⟩
                    · have b3 : decide ((0 : Int) < (j : Int) + 1) = true := decide_eq_true (by omega)
                      obtain ⟨-, f1, f2, -⟩ := hpd
                      obtain ⟨pa, epa⟩ : ∃ pa, pv.at_ = pa := ⟨_, rfl⟩
                      rw [epa] at z0 f1 f2
                      have HPV : Hid (D.rels[j]? = some pv ∧ pv.at_ = pa) := ⟨hpv, epa⟩
                      clear hpv epa
                      rcases (by omega : a - pa < 4 ∨ pa + 4 ≤ a) with y1 | y1
                      · have b7 : decide (a - pa < 4) = true := decide_eq_true y1
                        as_aux_lemma =>
                          go_big_quiet (fail)
                          go_wp2
                          go_meet
                          exact ⟨true, rfl, (fun h => by cases h), below_drewN (Below.refl _ _) _⟩
                      · have b7 : decide (a - pa < 4) = false := decide_eq_false (by omega)
                        rcases (by omega : tt < 0 ∨ (0 ≤ tt ∧ (nd : Int) ≤ tt) ∨ (0 ≤ tt ∧ tt < nd ∧ ad < -1048576) ∨ (0 ≤ tt ∧ tt < nd ∧ -1048576 ≤ ad ∧ 1048576 < ad) ∨ (0 ≤ tt ∧ tt < nd ∧ -1048576 ≤ ad ∧ ad ≤ 1048576)) with z1 | ⟨z1, z2⟩ | ⟨z1, z2, z3⟩ | ⟨z1, z2, z3, z4⟩ | ⟨z1, z2, z3, z4⟩
                        · have c4 : decide (tt < 0) = true := decide_eq_true (by omega)
                          as_aux_lemma =>
                            go_big_quiet (fail)
                            go_wp2
                            go_meet
                            exact ⟨true, rfl, (fun h => by cases h), below_drewN (Below.refl _ _) _⟩
                        · have c4 : decide (tt < 0) = false := decide_eq_false (by omega)
                          have c5 : decide ((nd : Int) ≤ tt) = true := decide_eq_true (by omega)
                          as_aux_lemma =>
                            go_big_quiet (fail)
                            go_wp2
                            go_meet
                            exact ⟨true, rfl, (fun h => by cases h), below_drewN (Below.refl _ _) _⟩
                        · have c4 : decide (tt < 0) = false := decide_eq_false (by omega)
                          have c5 : decide ((nd : Int) ≤ tt) = false := decide_eq_false (by omega)
                          have c6 : decide (ad < -1048576) = true := decide_eq_true (by omega)
                          as_aux_lemma =>
                            go_big_quiet (fail)
                            go_wp2
                            go_meet
                            exact ⟨true, rfl, (fun h => by cases h), below_drewN (Below.refl _ _) _⟩
                        · have c4 : decide (tt < 0) = false := decide_eq_false (by omega)
                          have c5 : decide ((nd : Int) ≤ tt) = false := decide_eq_false (by omega)
                          have c6 : decide (ad < -1048576) = false := decide_eq_false (by omega)
                          have c7 : decide (1048576 < ad) = true := decide_eq_true (by omega)
                          as_aux_lemma =>
                            go_big_quiet (fail)
                            go_wp2
                            go_meet
                            exact ⟨true, rfl, (fun h => by cases h), below_drewN (Below.refl _ _) _⟩
                        · have c4 : decide (tt < 0) = false := decide_eq_false (by omega)
                          have c5 : decide ((nd : Int) ≤ tt) = false := decide_eq_false (by omega)
                          have c6 : decide (ad < -1048576) = false := decide_eq_false (by omega)
                          have c7 : decide (1048576 < ad) = false := decide_eq_false (by omega)
                          as_aux_lemma =>
                            go_big_quiet (fail)
                            go_wp2
                            go_meet
                            exact ⟨false, rfl, (fun _ => ⟨by first | rfl | trivial, q1, q2, .inr ⟨pv, by rw [Nat.add_sub_cancel]; exact HPV.out.1, by rw [HPV.out.2]; exact y1⟩, z1, z2, z3, z4⟩), below_drewN (Below.refl _ _) _⟩
                · have b0 : (kd != 4) = true := by simpa using hk4
                  as_aux_lemma =>
                    go_big_quiet (fail)
                    go_wp2
                    go_meet
                    exact ⟨true, rfl, (fun h => by cases h), below_drewN (Below.refl _ _) _⟩
              case rest =>
                obtain ⟨bb, rfl, hok, hwc⟩ := hcut
                have HUC : Hid (Below w.heap.size w wc) := bnext UD.out hwc
                have HBX : Hid (Below w1.heap.size w1 wc) := bnext (bnext HB2.out HB3.out) hwc
                have HOK : Hid (bb = false → (kd = 4 ∧ 0 ≤ a ∧ a ≤ sz - 4 ∧ (m = 0 ∨ ∃ q : PRelM, D.rels[m - 1]? = some q ∧ q.at_ + 4 ≤ a) ∧ 0 ≤ tt ∧ tt < nd ∧ -1048576 ≤ ad ∧ ad ≤ 1048576)) := hok
                clear hok hwc r0 r1 r2 r3 e2 e4 k1 PV
                cases bb
                case true =>
                  go_wp2
                  go_ret
                  exact ⟨only_no, HUC.out⟩
                case false =>
                  obtain ⟨q0, q1, q2, q3, q4, q5, q6, q7⟩ := HOK.out rfl
                  have NX : Hid ((∀ j r, j < m + 1 → D.rels[j]? = some r → RelD nd sz r) ∧ (∀ (j : Nat) r s, j + 1 < m + 1 → D.rels[j]? = some r → D.rels[j + 1]? = some s → r.at_ + 4 ≤ s.at_)) := ⟨upto_next HR1.out HRR.out ⟨q0, q1, q2, q4, q5, q6, q7⟩, asc_next HR2.out HRR.out q3⟩
                  go_wp2
                  all_goals
                    go_roundw
                    case rel => exact ⟨m + 1, by omega, by go_num, NX.out.1, NX.out.2, HBX.out⟩
                    case measure => simp [intOf]; omega
            · obtain rfl : m = rn := by omega
              have FO : Hid (DtOk nd D) := ⟨fun r hr => by
                obtain ⟨j, hj⟩ := List.mem_iff_getElem?.1 hr
                rw [ES.out]
                exact HR1.out j r (by have := get_lt hj; have := ER.out; omega) hj, fun j r s h1 h2 => HR2.out j r s (by have := get_lt h2; have := ER.out; omega) h1 h2⟩
              go_wp2
              go_roundw
              case rel => exact ⟨l + 1, by omega, by go_num, upto_next HP.out HX.out FO.out, bnext HB1.out HB2.out⟩
              case measure => simp [intOf]; omega
        · obtain rfl : l = nd := by omega
          have HDS : Hid (∀ D ∈ p.datas, DtOk l D) := upto_all (by rw [EF.out.2]; exact HP.out)
          go_wp2
          go_ret
          exact ⟨only_yes ⟨by rw [EF.out.1, EF.out.2]; exact HFS.out, by rw [EF.out.2]; exact HDS.out⟩, bnext UP.out HB.out⟩
end Go.Proofs.YtombfnnpdamlgaaDoor
