/- Has an object few parts? As the document says it. -/
import Derived.Test.YtnejpldbokodaaaGreatDoorObjKit
import Derived.BigQuiet
namespace Go.Proofs.YtnejpldbokodaaaGreatDoor
open Go.ChangeShapes Go.WideShapes Go.ChangeAt Go.RowKit
set_option linter.unusedVariables false
set_option linter.unusedSimpArgs false
def fewF (f : FuncM) : Prop := f.code.length ≤ 2100 ∧ f.rels.length ≤ 70 ∧ f.name.size ≤ 100
def fewD (d : DataM) : Prop := d.bytes.length ≤ 5000 ∧ d.rels.length ≤ 70 ∧ d.name.size ≤ 100
def fewO (o : ObjM) : Prop := (o.funcs.length ≤ 70 ∧ o.datas.length ≤ 70 ∧ o.notes.length ≤ 70) ∧ (∀ f ∈ o.funcs, fewF f) ∧ ∀ d ∈ o.datas, fewD d
theorem iff_no {P : Prop} (h : ¬ P) : (false = true ↔ P) := ⟨(fun e => by cases e), fun e => absurd e h⟩
theorem iff_yes {P : Prop} (h : P) : (true = true ↔ P) := ⟨fun _ => h, fun _ => rfl⟩
/-- The answer is whether it is so. -/
def Says (e : Ending) (P : Prop) : Prop := ∃ b, e = .returned (.bool b) ∧ (b = true ↔ P)
/-- All up to k, and the next one. -/
theorem upto_next {α : Type} {P : α → Prop} {l : List α} {k : Nat} {x : α} (h : ∀ j y, j < k → l[j]? = some y → P y) (hx : l[k]? = some x) (hp : P x) : ∀ j y, j < k + 1 → l[j]? = some y → P y := fun j y hj hy => by
  rcases (by omega : j < k ∨ j = k) with h1 | rfl
  · exact h j y h1 hy
  · rw [hx] at hy; cases hy; exact hp
theorem upto_all {α : Type} {P : α → Prop} {l : List α} (h : ∀ j y, j < l.length → l[j]? = some y → P y) : ∀ x ∈ l, P x := fun x hx => by
  obtain ⟨j, hj⟩ := List.mem_iff_getElem?.mp hx
  exact h j x ((List.getElem?_eq_some_iff.1 hj).1) hj
theorem LstA.open {α : Type} {sz : Nat} {el : Nat → Nat → α → Prop} {A : Nat → Prop} {v : Value} {l : List α} (h : LstA sz el A v l) : ∃ a c, v = .slice a l.length c ∧ l.length ≤ maxLen ∧ (Head a l.length c) ∧ ∀ k, k < l.length → ∃ b off x, a = some ⟨b, off, none⟩ ∧ A b ∧ l[k]? = some x ∧ el b (off + k * sz) x := by
  obtain ⟨a, c, e, ⟨hh, hc⟩, hA, hl⟩ := h
  refine ⟨a, c, e, Nat.le_trans hh.1 hc, hh, fun k hk => ?_⟩
  rcases hl with rfl | ⟨b, off, e, hx⟩
  · simp at hk
  · exact ⟨b, off, l[k], e, hA _ e, List.getElem?_eq_getElem hk, hx k _ (List.getElem?_eq_getElem hk)⟩
set_option maxRecDepth 100000 in
set_option maxHeartbeats 2000000 in
theorem few_any {A : Nat → Prop} {w : World} {v : Value} {o : ObjM} (h : IsObj A w v o) :
    Calls Tryz.prog 10 #[v] w fun e w' => Says e (fewO o) ∧ Below w.heap.size w w' := by
  obtain ⟨vf, vd, vn, rfl, hf, hd, hn⟩ := h
  obtain ⟨fa, fc, rfl, fm, fh, fx⟩ := LstA.open hf
  obtain ⟨da, dc, rfl, dm, dh, dx⟩ := LstA.open hd
  obtain ⟨na, nc, rfl, nm, nh, nx⟩ := LstA.open hn
  obtain ⟨F, eF⟩ : ∃ F, o.funcs.length = F := ⟨_, rfl⟩
  obtain ⟨D, eD⟩ : ∃ D, o.datas.length = D := ⟨_, rfl⟩
  obtain ⟨N, eN⟩ : ∃ N, o.notes.length = N := ⟨_, rfl⟩
  rw [eF] at fm fh fx ⊢
  rw [eD] at dm dh dx ⊢
  rw [eN] at nm nh nx ⊢
  have EF : Hid (o.funcs.length = F ∧ o.datas.length = D ∧ o.notes.length = N) := ⟨eF, eD, eN⟩
  have FX : Hid (∀ k, k < F → ∃ b off x, fa = some ⟨b, off, none⟩ ∧ A b ∧ o.funcs[k]? = some x ∧ FuncAt A w b (off + k * 4) x) := fx
  have DX : Hid (∀ k, k < D → ∃ b off x, da = some ⟨b, off, none⟩ ∧ A b ∧ o.datas[k]? = some x ∧ DataAt A w b (off + k * 7) x) := dx
  have up : Below w.heap.size w (w.alloc (.cells #[.slice fa F fc, .slice da D dc, .slice na N nc] 34)) := keep_alloc8 (Below.refl _ _) _
  have c0 := new_cell' w #[.slice fa F fc, .slice da D dc, .slice na N nc] 34 0 _ rfl
  have c1 := new_cell' w #[.slice fa F fc, .slice da D dc, .slice na N nc] 34 1 _ rfl
  have c2 := new_cell' w #[.slice fa F fc, .slice da D dc, .slice na N nc] 34 2 _ rfl
  have UP : Hid (Below w.heap.size w (w.alloc (.cells #[.slice fa F fc, .slice da D dc, .slice na N nc] 34))) := up
  clear hf hd hn eF eD eN fx dx nx up fm dm nm fh dh nh
  go_enter Tryz.func10, Tryz.ntmps10
  go_upto_region 1 with fail
  generalize w.alloc (.cells #[.slice fa F fc, .slice da D dc, .slice na N nc] 34) = w0 at c0 c1 c2 UP ⊢
  rcases (by omega : 70 < (F : Int) ∨ ((F : Int) ≤ 70 ∧ 70 < (D : Int)) ∨ ((F : Int) ≤ 70 ∧ (D : Int) ≤ 70 ∧ 70 < (N : Int)) ∨ ((F : Int) ≤ 70 ∧ (D : Int) ≤ 70 ∧ (N : Int) ≤ 70)) with h1 | ⟨h1, h2⟩ | ⟨h1, h2, h3⟩ | ⟨h1, h2, h3⟩
  · go_wp2
    go_ret
    exact ⟨⟨false, rfl, iff_no (fun e => by have := e.1.1; have := EF.out; omega)⟩, UP.out⟩
  · go_wp2
    go_ret
    exact ⟨⟨false, rfl, iff_no (fun e => by have := e.1.2.1; have := EF.out; omega)⟩, UP.out⟩
  · go_wp2
    go_ret
    exact ⟨⟨false, rfl, iff_no (fun e => by have := e.1.2.2; have := EF.out; omega)⟩, UP.out⟩
  · go_wp2
    go_loop [3] (fun i => ∃ k : Nat, k ≤ F ∧ i = .int .i64 k ∧ ∀ j y, j < k → o.funcs[j]? = some y → fewF y) (fun i => F - (intOf i).toNat)
    case atStart => exact ⟨0, Nat.zero_le _, rfl, fun j y hj => by omega⟩
    case round =>
      obtain ⟨k, hk, rfl, hp⟩ := hrel
      have HP : Hid (∀ j y, j < k → o.funcs[j]? = some y → fewF y) := hp
      clear hp
      by_cases hlt : k < F
      · have hlt' : (k : Int) < F := by omega
        obtain ⟨b, off, x, rfl, hA, hx, vc, vr, x0, x1, x2, x3, wc, wr, hs⟩ := FX.out k hlt
        obtain ⟨ca, cc, rfl, -, -, -⟩ := LstA.open wc.1
        obtain ⟨ra, rc, rfl, -, -, -⟩ := LstA.open wr
        have HX : Hid (o.funcs[k]? = some x) := hx
        have y0 := cell_any x0 UP.out
        have y2 := cell_any x2 UP.out
        have y3 := cell_any x3 UP.out
        clear x0 x1 x2 x3 wc wr hx
        have no : ¬ fewF x → ¬ fewO o := fun h1 h2 => h1 (h2.2.1 x (List.mem_of_getElem? HX.out))
        have NO : Hid (¬ fewF x → ¬ fewO o) := no
        clear no
        rcases (by omega : 2100 < (x.code.length : Int) ∨ ((x.code.length : Int) ≤ 2100 ∧ 70 < (x.rels.length : Int)) ∨ ((x.code.length : Int) ≤ 2100 ∧ (x.rels.length : Int) ≤ 70 ∧ 100 < (x.name.size : Int)) ∨ ((x.code.length : Int) ≤ 2100 ∧ (x.rels.length : Int) ≤ 70 ∧ (x.name.size : Int) ≤ 100)) with q1 | ⟨q1, q2⟩ | ⟨q1, q2, q3⟩ | ⟨q1, q2, q3⟩
        · go_wp2
          go_ret
          exact ⟨⟨false, rfl, iff_no (NO.out fun e => by have := e.1; omega)⟩, UP.out⟩
        · go_wp2
          go_ret
          exact ⟨⟨false, rfl, iff_no (NO.out fun e => by have := e.2.1; omega)⟩, UP.out⟩
        · go_wp2
          go_ret
          exact ⟨⟨false, rfl, iff_no (NO.out fun e => by have := e.2.2; omega)⟩, UP.out⟩
        · go_wp2
          go_round
          case rel => exact ⟨k + 1, by omega, by go_num, upto_next HP.out HX.out ⟨by omega, by omega, by omega⟩⟩
          case measure => simp [intOf]; omega
      · obtain rfl : k = F := by omega
        have HF : Hid (∀ f ∈ o.funcs, fewF f) := upto_all (by rw [EF.out.1]; exact HP.out)
        clear HP
        go_wp2
        go_loop [4] (fun i => ∃ k : Nat, k ≤ D ∧ i = .int .i64 k ∧ ∀ j y, j < k → o.datas[j]? = some y → fewD y) (fun i => D - (intOf i).toNat)
        case atStart => exact ⟨0, Nat.zero_le _, rfl, fun j y hj => by omega⟩
        case round =>
          obtain ⟨k, hk, rfl, hp⟩ := hrel
          have HP : Hid (∀ j y, j < k → o.datas[j]? = some y → fewD y) := hp
          clear hp
          by_cases hlt : k < D
          · have hlt' : (k : Int) < D := by omega
            obtain ⟨b, off, x, rfl, hA, hx, vb, vr, x0, x1, x2, x3, x4, x5, x6, wb, wr, hs⟩ := DX.out k hlt
            obtain ⟨ca, cc, rfl, -, -, -⟩ := LstA.open wb.1
            obtain ⟨ra, rc, rfl, -, -, -⟩ := LstA.open wr
            have HX : Hid (o.datas[k]? = some x) := hx
            have y0 := cell_any x0 UP.out
            have y5 := cell_any x5 UP.out
            have y6 := cell_any x6 UP.out
            have NO : Hid (¬ fewD x → ¬ fewO o) := fun h1 h2 => h1 (h2.2.2 x (List.mem_of_getElem? HX.out))
            clear x0 x1 x2 x3 x4 x5 x6 wb wr hx
            rcases (by omega : 5000 < (x.bytes.length : Int) ∨ ((x.bytes.length : Int) ≤ 5000 ∧ 70 < (x.rels.length : Int)) ∨ ((x.bytes.length : Int) ≤ 5000 ∧ (x.rels.length : Int) ≤ 70 ∧ 100 < (x.name.size : Int)) ∨ ((x.bytes.length : Int) ≤ 5000 ∧ (x.rels.length : Int) ≤ 70 ∧ (x.name.size : Int) ≤ 100)) with q1 | ⟨q1, q2⟩ | ⟨q1, q2, q3⟩ | ⟨q1, q2, q3⟩
            · go_wp2
              go_ret
              exact ⟨⟨false, rfl, iff_no (NO.out fun e => by have := e.1; omega)⟩, UP.out⟩
            · go_wp2
              go_ret
              exact ⟨⟨false, rfl, iff_no (NO.out fun e => by have := e.2.1; omega)⟩, UP.out⟩
            · go_wp2
              go_ret
              exact ⟨⟨false, rfl, iff_no (NO.out fun e => by have := e.2.2; omega)⟩, UP.out⟩
            · go_wp2
              go_round
              case rel => exact ⟨k + 1, by omega, by go_num, upto_next HP.out HX.out ⟨by omega, by omega, by omega⟩⟩
              case measure => simp [intOf]; omega
          · obtain rfl : k = D := by omega
            go_wp2
            go_ret
            exact ⟨⟨true, rfl, iff_yes ⟨by have := EF.out; omega, HF.out, upto_all (by rw [EF.out.2.1]; exact HP.out)⟩⟩, UP.out⟩
end Go.Proofs.YtnejpldbokodaaaGreatDoor
