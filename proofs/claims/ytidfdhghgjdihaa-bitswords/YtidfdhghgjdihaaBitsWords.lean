/- For every word and every slice of bytes BitsWords returns true: Put answers the word's bytes, Get the word of the first four bytes. No condition. -/
import Derived.Test.YtidfdhghgjdihaaAwake
import Derived.Deep.RegionWith
import Derived.WalkKit
import Derived.ProofKit
import Derived.OpenShut
import Derived.ShutString
import Derived.ChangeOld
import Derived.Below
namespace Go.Proofs.Ytidfdhghgjdihaa.bitsWords
open Go.ChangeShapes Go.WideShapes Go.ChangeAt Go.RowKit
open Go.ChangeMaps (open_string shut_string)
set_option linter.unusedVariables false

theorem own : ownKnob Try.prog.godebug = none := by kernel_rfl
theorem laidOut : laidOutB Try.prog = true := by kernel_rfl

/-- A slice of integers that came in: nil, or a row of cells. -/
def IsRow (k : IntKind) (w : World) (a : Option Addr) (len cap : Nat) (zs : List Int) : Prop :=
  (a = none ∧ len = 0 ∧ cap = 0 ∧ zs = []) ∨
  ∃ x, a = some x ∧ len ≤ cap ∧ cap ≤ maxLen ∧ zs.length = cap ∧ (∀ i, i < zs.length → w.cell? (x.add i) = some (.int k (zs.getD i 0))) ∧ ∀ n ∈ zs, (Lit.int k n).wf = true


theorem wf_u32_bd {x : Int} (h : (Lit.int .u32 x).wf = true) : 0 ≤ x ∧ x < 4294967296 := by
  simp [Lit.wf, IntKind.min, IntKind.max, IntKind.signed, IntKind.bits] at h; omega
theorem wf_u8_bd {x : Int} (h : (Lit.int .u8 x).wf = true) : 0 ≤ x ∧ x < 256 := by
  simp [Lit.wf, IntKind.min, IntKind.max, IntKind.signed, IntKind.bits] at h; omega

/-- Two rows of the same four bytes are the same. -/
theorem same_four (w : World) (a b : Nat) (y0 y1 y2 y3 : Int)
    (ha0 : w.cell? ⟨a, 0, none⟩ = some (.int .u8 y0)) (ha1 : w.cell? ⟨a, 1, none⟩ = some (.int .u8 y1)) (ha2 : w.cell? ⟨a, 2, none⟩ = some (.int .u8 y2)) (ha3 : w.cell? ⟨a, 3, none⟩ = some (.int .u8 y3))
    (hb0 : w.cell? ⟨b, 0, none⟩ = some (.int .u8 y0)) (hb1 : w.cell? ⟨b, 1, none⟩ = some (.int .u8 y1)) (hb2 : w.cell? ⟨b, 2, none⟩ = some (.int .u8 y2)) (hb3 : w.cell? ⟨b, 3, none⟩ = some (.int .u8 y3)) :
    Calls Try.prog 10 #[.slice (some ⟨a, 0, none⟩) 4 4, .slice (some ⟨b, 0, none⟩) 4 4] w fun e w' => e = .returned (.bool true) ∧ Below w.heap.size w w' := by
  refine same_any w a b 0 0 [y0, y1, y2, y3] (by simp) ?_ ?_
  · intro i hi
    simp at hi
    rcases (by omega : i = 0 ∨ i = 1 ∨ i = 2 ∨ i = 3) with rfl | rfl | rfl | rfl <;> simpa
  · intro i hi
    simp at hi
    rcases (by omega : i = 0 ∨ i = 1 ∨ i = 2 ∨ i = 3) with rfl | rfl | rfl | rfl <;> simpa

/-- Cells of the second and the third of three new blocks. -/
theorem cell_two (w : World) (o o2 : Obj) (cs : Array Value) (t : TypeId) (i : Nat) (v : Value) (h : cs[i]? = some v) :
    (((w.alloc o).alloc (.cells cs t)).alloc o2).drew.cell? ⟨w.heap.size + 1, i, none⟩ = some v := by
  show (((w.alloc o).alloc (.cells cs t)).alloc o2).cell? ⟨w.heap.size + 1, i, none⟩ = some v
  have e : w.heap.size + 1 = (w.alloc o).heap.size := by simp
  rw [e]
  have h1 : ((w.alloc o).alloc (.cells cs t)).cell? ⟨(w.alloc o).heap.size, i, none⟩ = some v := by simp [go_sem, h]
  exact (((Below.refl _ _).alloc (Nat.le_refl _) o2).cell (p := ⟨(w.alloc o).heap.size, i, none⟩) (by simp)).trans h1
theorem cell_three (w : World) (o o2 : Obj) (cs : Array Value) (t : TypeId) (i : Nat) (v : Value) (h : cs[i]? = some v) :
    (((w.alloc o).alloc o2).alloc (.cells cs t)).drew.cell? ⟨w.heap.size + 1 + 1, i, none⟩ = some v := by
  show (((w.alloc o).alloc o2).alloc (.cells cs t)).cell? ⟨w.heap.size + 1 + 1, i, none⟩ = some v
  have e : w.heap.size + 1 + 1 = ((w.alloc o).alloc o2).heap.size := by simp
  rw [e]
  simp [go_sem, h]

theorem walk_long (a0 : Int) (a1 : Option Addr) (len1 cap1 : Nat) (w : World) (hl : 100 < len1) (hm : len1 ≤ 9223372036854775807) :
    Calls Try.prog 3 #[.int .u32 a0, .slice a1 len1 cap1] w fun e w' => e = .returned (.bool true) ∧ Below w.heap.size w w' := by
  go_enter Try.func3, Try.ntmps3
  go_wp2_with fail
  refine (awake_any _).mono ?_
  rintro e w1 ⟨rfl, hb1⟩
  go_wp2_with fail
  refine (awake_any _).mono ?_
  rintro e w2 ⟨rfl, hb2⟩
  go_wp2
  go_ret
  exact ⟨rfl, hb1.trans (hb2.mono hb1.size)⟩

/-- With what Get and the document's answer say of the bytes. -/
theorem walk_core (a0 : Int) (a1 : Option Addr) (len1 cap1 : Nat) (r : Int) (w : World) (c0 : 0 ≤ a0) (c1 : a0 < 4294967296) (hl : len1 ≤ 100)
    (hg : ∀ wx, Below w.heap.size w wx → Calls Try.prog 12 #[.slice a1 len1 cap1] wx fun e w' => e = .returned (.int .u32 r) ∧ Below w.heap.size w w')
    (hr : ∀ wx, Below w.heap.size w wx → Calls Try.prog 13 #[.slice a1 len1 cap1] wx fun e w' => e = .returned (.int .u32 r) ∧ Below w.heap.size w w') :
    Calls Try.prog 3 #[.int .u32 a0, .slice a1 len1 cap1] w fun e w' => e = .returned (.bool true) ∧ Below w.heap.size w w' := by
  have hg' : Hid (∀ wx, Below w.heap.size w wx → Calls Try.prog 12 #[.slice a1 len1 cap1] wx fun e w' => e = .returned (.int .u32 r) ∧ Below w.heap.size w w') := hg
  have hr' : Hid (∀ wx, Below w.heap.size w wx → Calls Try.prog 13 #[.slice a1 len1 cap1] wx fun e w' => e = .returned (.int .u32 r) ∧ Below w.heap.size w w') := hr
  clear hg hr
  go_enter Try.func3, Try.ntmps3
  go_wp2_with fail
  refine (awake_any _).mono ?_
  rintro e w1 ⟨rfl, hb1⟩
  go_wp2_with (go_at_call 9; refine (put_any a0 _ c0 c1).mono ?_; rintro e w' ⟨rfl, rfl⟩; simp only [bytesOf])
  have hz := hb1.size
  go_region_with (first
    | (go_at_call 11; refine (rput_any a0 _ c0 c1).mono ?_; rintro e w' ⟨rfl, rfl⟩; simp only [bytesOf])
    | (go_at_call 10; refine (same_four _ _ _ (a0 % 256) (a0 / 256 % 256) (a0 / 65536 % 256) (a0 / 16777216) ?_ ?_ ?_ ?_ ?_ ?_ ?_ ?_).mono ?_; exact cell_two _ _ _ _ _ _ _ rfl; exact cell_two _ _ _ _ _ _ _ rfl; exact cell_two _ _ _ _ _ _ _ rfl; exact cell_two _ _ _ _ _ _ _ rfl; exact cell_three _ _ _ _ _ _ _ rfl; exact cell_three _ _ _ _ _ _ _ rfl; exact cell_three _ _ _ _ _ _ _ rfl; exact cell_three _ _ _ _ _ _ _ rfl; rintro e w3 ⟨rfl, hb3⟩; have hB3 : Below w.heap.size w w3 := ((((hb1.alloc hz _).alloc (by simp; omega) _).alloc (by simp; omega) _).drew).trans (hb3.mono (by simp; omega)); clear hb3)
    | (go_at_call 12; refine (hg'.out _ hB3).mono ?_; rintro e w4 ⟨rfl, hb4⟩; have hB4 : Below w.heap.size w w4 := hb4; clear hb4)
    | (go_at_call 13; refine (hr'.out _ hB4).mono ?_; rintro e w5 ⟨rfl, hb5⟩))
  go_wp2
  go_ret
  exact ⟨rfl, hb5⟩

theorem walk (a0 : Int) (a1 : Option Addr) (len1 cap1 : Nat) (z1 : List Int) (w : World) (w0 : (Lit.int .u32 a0).wf = true) (w1 : IsRow .u8 w a1 len1 cap1 z1) :
    Calls Try.prog 3 #[.int .u32 a0, .slice a1 len1 cap1] w fun e w' => e = .returned (.bool true) ∧ Below w.heap.size w w' := by
  obtain ⟨c0, c1⟩ := wf_u32_bd w0
  have hm : len1 ≤ 9223372036854775807 := by
    rcases w1 with ⟨_, rfl, _, _⟩ | ⟨x, _, hl, hm, _⟩
    · omega
    · unfold maxLen at hm; omega
  by_cases hl : 100 < len1
  · exact walk_long a0 a1 len1 cap1 w hl hm
  by_cases h0 : len1 = 0
  · subst h0
    refine walk_core a0 a1 0 cap1 0 w c0 c1 (by omega) ?_ ?_
    · intro wx hx
      exact (get_nil wx cap1 a1).mono fun e w' ⟨he, hb⟩ => ⟨he, hx.trans (hb.mono hx.size)⟩
    · intro wx hx
      exact (rget_nil wx cap1 a1).mono fun e w' ⟨he, hb⟩ => ⟨he, hx.trans (hb.mono hx.size)⟩
  · rcases w1 with ⟨_, rfl, _, _⟩ | ⟨x, rfl, hl', hm', hz, hcell, hwz⟩
    · omega
    obtain ⟨b, off, spot⟩ := x
    have hc := hcell 0 (by omega)
    have hspot : spot = none := by simpa [Addr.add] using World.cell?_spot hc
    subst hspot
    have hf : ∀ i, 0 ≤ z1.getD i 0 ∧ z1.getD i 0 < 256 := by
      intro i
      by_cases hi : i < z1.length
      · have e : z1.getD i 0 = z1[i] := by simp [List.getD_eq_getElem?_getD, List.getElem?_eq_getElem hi]
        rw [e]; exact wf_u8_bd (hwz _ (List.getElem_mem hi))
      · have e : z1.getD i 0 = 0 := by rw [List.getD_eq_getElem?_getD, List.getElem?_eq_none (by omega : z1.length ≤ i)]; rfl
        rw [e]; omega
    have hcs : ∀ wx, Below w.heap.size w wx → ∀ i, i < len1 → i < 4 → wx.cell? ⟨b, off + i, none⟩ = some (.int .u8 (z1.getD i 0)) := by
      intro wx hx i hi _
      have h := hcell i (by omega)
      have e : (⟨b, off, none⟩ : Addr).add i = ⟨b, off + i, none⟩ := by cases i <;> simp [Addr.add]
      rw [e] at h
      exact cell_later hx h
    refine walk_core a0 _ len1 cap1 (sumZ (fun i => z1.getD i 0) (min len1 4)) w c0 c1 (by omega) ?_ ?_
    · intro wx hx
      exact (get_any wx b off len1 cap1 (fun i => z1.getD i 0) hm (hcs wx hx) hf).mono fun e w' ⟨he, hb⟩ => ⟨he, hx.trans (hb.mono hx.size)⟩
    · intro wx hx
      exact (rget_any wx b off len1 cap1 (fun i => z1.getD i 0) hm (hcs wx hx) hf).mono fun e w' ⟨he, hb⟩ => ⟨he, hx.trans (hb.mono hx.size)⟩

/-! ### The row's step -/
set_option maxRecDepth 100000 in
theorem lifted (os : Os) (started : os.Started) (H : Type) (enc : TypeId × Value → H) :
    ReturnsInHanded {} Try.checked os 3 .any (Rows.bitsWordsSpec.pre6 enc Try.prog Try.f3 Rows.bitsWordsRow.domain false) (Rows.bitsWordsSpec.post enc Try.prog Try.f3 false true false false) := by
  refine returnsInHanded_of_change (C := Try.checked) own started (by kernel_rfl) Try.func3
    (ChangeSpec.witness6 (enc := enc) (C := Try.checked) false ⟨#[], #[.int .u32 0, .slice none 0 0], []⟩ 8 (by kernel_rfl) (by kernel_rfl) (by kernel_rfl) (by kernel_rfl)) ?_
  intro W base args ds gs before hval0 hW hcnd _
  have hval : ∀ (j : Nat) t v, Try.f3.params[j]? = some t → args[j]? = some v → Value.okWide Try.prog W .any base t v := hval0
  have hW' := hW
  obtain ⟨p, q, hA0, hV, rfl, hfz, hnd⟩ := hW
  have hA : DataW.TrodAll enc Try.prog W 0 (fun _ => true) true Try.f3.params.toList args.toList ds p := hA0
  rw [Try.params3] at hA hval
  obtain ⟨v0, vs0, d0, ds0, p0, q0, hargs, rfl, rfl, h0, r0⟩ := trodAll_cons hA
  obtain ⟨v1, vs1, d1, ds1, p1, q1, rfl, rfl, rfl, h1, r1⟩ := trodAll_cons r0
  obtain ⟨rfl, rfl, rfl⟩ := trodAll_nil r1
  obtain rfl : args = #[v0, v1] := by cases args; simp_all
  obtain ⟨rfl, rfl⟩ := trodVars_none hV
  obtain ⟨a0, rfl, rfl, rfl, w0⟩ := open_int Try.underlying22 (hval 0 22 v0 rfl rfl) h0
  obtain ⟨a1, len1, cap1, rfl⟩ := okWide_slice Try.underlying23 (hval 1 23 v1 rfl rfl)
  have k1 := h1
  have lt1 : ∀ x ∈ p1, x.block < W.heap.size := by obtain ⟨m, hm⟩ := k1; exact DataW.trod_lt m _ _ _ hm
  obtain ⟨z1, w1⟩ : ∃ zs, IsRow .u8 W a1 len1 cap1 zs := by
    obtain ⟨fuel, hf⟩ := h1
    rcases open_ints Try.underlying23 Try.underlying5 (by kernel_rfl) hf with ⟨hcs, _⟩ | ⟨x, l, c, zs, hcs, _, hl, hm, hz, _, hcell, hwz⟩
    · simp [Value.cells] at hcs
      obtain ⟨rfl, rfl, rfl⟩ := hcs
      exact ⟨[], .inl ⟨rfl, rfl, rfl, rfl⟩⟩
    · simp [Value.cells] at hcs
      obtain ⟨rfl, rfl, rfl⟩ := hcs
      exact ⟨zs, .inr ⟨_, rfl, hl, hm, by simpa using hz, hcell, hwz⟩⟩
  clear hA0 hval0
  refine (walk a0 a1 len1 cap1 z1 W w0 w1).mono fun e W' ⟨he, bel⟩ => ?_
  subst he
  exact ⟨_, rfl, _, _, _, [], _, [], hW', trodAll_mk1 (shut_bool Try.underlying4 _), (trodAll_cons_mk (shut_int Try.underlying22 w0) (trodAll_cons_mk (Below.trod laidOut (by kernel_rfl) (of_decide_eq_true (by kernel_rfl)) k1 bel lt1) trodAll_mk0)), rfl, bel.frame _, fun h => by cases h⟩

theorem over : Rows.bitsWordsRow.holds Try.pinned (OpenSpec.ofChange Rows.bitsWordsSpec) :=
  OpenClaim.holds_of_wide 3 Try.f3 rfl rfl rfl rfl rfl rfl rfl ⟨rfl, rfl, rfl, rfl, rfl⟩ rfl rfl rfl rfl rfl (by kernel_rfl) Try.func3 (by kernel_rfl)
    (of_decide_eq_true (by kernel_rfl)) (by unfold Func.isWrapper; first | (rw [if_pos (by decide +kernel)]; kernel_rfl) | (rw [if_neg (by decide +kernel)]; exact ⟨rfl, rfl⟩))
    (fun os started H enc _ => lifted os started H enc)

/-- The statement. -/
theorem proved_BitsWords : Rows.BitsWordsSaid := over
end Go.Proofs.Ytidfdhghgjdihaa.bitsWords

namespace Go.Proofs.Ytidfdhghgjdihaa
theorem BitsWords_holds : Rows.BitsWordsSaid := bitsWords.proved_BitsWords
#print axioms BitsWords_holds
end Go.Proofs.Ytidfdhghgjdihaa
