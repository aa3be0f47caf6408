/- Whether a program's data may be, as the document's answer has it. -/
import Derived.Test.YtlmijnaimdknnaaPlcKit
namespace Go.Proofs.Ytlmijnaimdknnaa
open Go.ChangeShapes Go.WideShapes Go.ChangeAt Go.RowKit
set_option linter.unusedVariables false
set_option linter.unusedSimpArgs false
set_option maxRecDepth 100000 in
set_option maxHeartbeats 4000000 in
theorem may_any {w : World} {v : Value} {p : ProgZ} (h : IsP w v p) :
    Calls Try.prog 5 #[v] w fun e w' => OnlyIf e (MayZ p) ∧ Below w.heap.size w w' := by
  obtain ⟨vf, vd, rfl, hf, hd⟩ := h
  obtain ⟨fa, fc, rfl, fm, -, fx⟩ := LstA.open hf
  obtain ⟨da, dc, rfl, dm, -, dx⟩ := LstA.open hd
  obtain ⟨F, eF⟩ : ∃ F, p.codes.length = F := ⟨_, rfl⟩
  obtain ⟨D, eD⟩ : ∃ D, p.datas.length = D := ⟨_, rfl⟩
  obtain ⟨E, eE⟩ : ∃ E, p.entry = E := ⟨_, rfl⟩
  rw [eF] at fm fx ⊢
  rw [eD] at dm dx ⊢
  rw [eE]
  have EF : Hid (p.codes.length = F ∧ p.datas.length = D) := ⟨eF, eD⟩
  have FX : Hid (∀ k, k < F → ∃ b off x, fa = some ⟨b, off, none⟩ ∧ Any8 b ∧ p.codes[k]? = some x ∧ PfAt w b (off + k * 5) x) := fx
  have DX : Hid (∀ k, k < D → ∃ b off x, da = some ⟨b, off, none⟩ ∧ Any8 b ∧ p.datas[k]? = some x ∧ PdAt w b (off + k * 5) x) := dx
  have c0 := new_cell' w #[.slice fa F fc, .slice da D dc, .int .i64 E] 25 0 _ rfl
  have c1 := new_cell' w #[.slice fa F fc, .slice da D dc, .int .i64 E] 25 1 _ rfl
  have UP : Hid (Below w.heap.size w (w.alloc (.cells #[.slice fa F fc, .slice da D dc, .int .i64 E] 25))) := keep_alloc8 (Below.refl _ _) _
  clear hf hd eF eD eE fx dx fm dm
  go_enter Try.func5, Try.ntmps5
  go_upto_region 1 with fail
  generalize w.alloc (.cells #[.slice fa F fc, .slice da D dc, .int .i64 E] 25) = w0 at c0 c1 UP ⊢
  rcases (by omega : 300 < (F : Int) ∨ ((F : Int) ≤ 300 ∧ 300 < (D : Int)) ∨ ((F : Int) ≤ 300 ∧ (D : Int) ≤ 300)) with h1 | ⟨h1, h2⟩ | ⟨h1, h2⟩
  · go_wp2
    go_ret
    exact ⟨only_no, UP.out⟩
  · go_wp2
    go_ret
    exact ⟨only_no, UP.out⟩
  · go_wp2
    go_loop [3] (fun i => ∃ k : Nat, k ≤ F ∧ i = .int .i64 k ∧ ∀ j y, j < k → p.codes[j]? = some y → y ≤ 70000) (fun i => F - (intOf i).toNat)
    case atStart => exact ⟨0, Nat.zero_le _, rfl, fun j y hj => by omega⟩
    case round =>
      obtain ⟨k, hk, rfl, hp⟩ := hrel
      have HP : Hid (∀ j y, j < k → p.codes[j]? = some y → y ≤ 70000) := hp
      clear hp
      by_cases hlt : k < F
      · have hlt' : (k : Int) < F := by omega
        obtain ⟨b, off, x, rfl, -, hx, a1, cc1, a2, m2, cc2, x3, l3, x4, l4⟩ := FX.out k hlt
        have HX : Hid (p.codes[k]? = some x) := hx
        have y3 := cell_any x3 UP.out
        have y4 := cell_any x4 UP.out
        have l3' := may_len l3
        have l4' := may_len l4
        clear x3 x4 hx l3 l4
        rcases (by omega : 70000 < (x : Int) ∨ ((x : Int) ≤ 70000 ∧ 300 < (m2 : Int)) ∨ ((x : Int) ≤ 70000 ∧ (m2 : Int) ≤ 300)) with q1 | ⟨q1, q2⟩ | ⟨q1, q2⟩
        · go_wp2
          go_ret
          exact ⟨only_no, UP.out⟩
        · go_wp2
          go_ret
          exact ⟨only_no, UP.out⟩
        · go_wp2
          go_round
          case rel => exact ⟨k + 1, by omega, by go_num, upto_next HP.out HX.out (by omega)⟩
          case measure => simp [intOf]; omega
      · obtain rfl : k = F := by omega
        have HF : Hid (∀ f ∈ p.codes, f ≤ 70000) := upto_all (by rw [EF.out.1]; exact HP.out)
        clear HP
        go_wp2
        go_loopw [4] (fun i wr => ∃ k : Nat, k ≤ D ∧ i = .int .i64 k ∧ (∀ j y, j < k → p.datas[j]? = some y → 1 ≤ y.align ∧ y.align ≤ 16 ∧ 1 ≤ y.size ∧ y.size ≤ 4096) ∧ Below w0.heap.size w0 wr) (fun i _ => D - (intOf i).toNat)
        case atStart => exact ⟨0, Nat.zero_le _, rfl, (fun j y hj => by omega), Below.refl _ _⟩
        case round =>
          obtain ⟨k, hk, rfl, hp, hbel⟩ := hrel
          have HP : Hid (∀ j y, j < k → p.datas[j]? = some y → 1 ≤ y.align ∧ y.align ≤ 16 ∧ 1 ≤ y.size ∧ y.size ≤ 4096) := hp
          have HB : Hid (Below w0.heap.size w0 wr) := hbel
          clear hp hbel
          have d0 := cell_any c0 HB.out
          have d1 := cell_any c1 HB.out
          by_cases hlt : k < D
          · have hlt' : (k : Int) < D := by omega
            obtain ⟨b, off, x, rfl, -, hx, x0, x1, x2, x3, x4, l3, l4⟩ := DX.out k hlt
            have HX : Hid (p.datas[k]? = some x) := hx
            have UB : Hid (Below w.heap.size w wr) := bnext UP.out HB.out
            obtain ⟨al, fi, si, ba, bn, bc, ra, rn, rc⟩ := x
            dsimp only at *
            have y0 := cell_any x0 UB.out
            have y1 := cell_any x1 UB.out
            have y2 := cell_any x2 UB.out
            have y3 := cell_any x3 UB.out
            have y4 := cell_any x4 UB.out
            have l3' := may_len l3
            have l4' := may_len l4
            clear x0 x1 x2 x3 x4 hx l3 l4 c0 c1
            rcases (by omega : al < 1 ∨ (1 ≤ al ∧ 16 < al) ∨ (1 ≤ al ∧ al ≤ 16 ∧ si < 1) ∨ (1 ≤ al ∧ al ≤ 16 ∧ 1 ≤ si ∧ 4096 < si) ∨ (1 ≤ al ∧ al ≤ 16 ∧ 1 ≤ si ∧ si ≤ 4096 ∧ si < (bn : Int)) ∨ (1 ≤ al ∧ al ≤ 16 ∧ 1 ≤ si ∧ si ≤ 4096 ∧ (bn : Int) ≤ si ∧ 300 < (rn : Int)) ∨ (1 ≤ al ∧ al ≤ 16 ∧ 1 ≤ si ∧ si ≤ 4096 ∧ (bn : Int) ≤ si ∧ (rn : Int) ≤ 300)) with q1 | ⟨q1, q2⟩ | ⟨q1, q2, q3⟩ | ⟨q1, q2, q3, q4⟩ | ⟨q1, q2, q3, q4, q5⟩ | ⟨q1, q2, q3, q4, q5, q6⟩ | ⟨q1, q2, q3, q4, q5, q6⟩
            iterate 6
              · go_wp2
                go_ret
                exact ⟨only_no, (bnext UP.out (keep_alloc8 HB.out _))⟩
            · go_wp2
              go_roundw
              case rel => exact ⟨k + 1, by omega, by go_num, upto_next HP.out HX.out ⟨q1, q2, q3, q4⟩, keep_alloc8 HB.out _⟩
              case measure => simp [intOf]; omega
          · obtain rfl : k = D := by omega
            clear c0 c1
            go_wp2
            go_ret
            exact ⟨only_yes ⟨by have := EF.out; omega, by have := EF.out; omega, HF.out, upto_all (by rw [EF.out.2]; exact HP.out)⟩, bnext UP.out HB.out⟩
end Go.Proofs.Ytlmijnaimdknnaa
