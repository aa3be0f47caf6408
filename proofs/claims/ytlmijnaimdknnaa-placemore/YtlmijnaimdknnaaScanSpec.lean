/- What is taken of bytes, in plain words; a scanner in memory. -/
import Derived.Test.YtlmijnaimdknnaaScanMath
namespace Go.Proofs.Ytlmijnaimdknnaa
open Go.ChangeShapes Go.WideShapes Go.ChangeAt Go.RowKit
set_option linter.unusedVariables false
set_option linter.unusedSimpArgs false
/-- The text that the first n numbers make. -/
def textF (n : Nat) (f : Nat → Int) : ByteArray := strOfNums ((List.range n).map f)
theorem textF_size (n : Nat) (f : Nat → Int) : (textF n f).size = n := by
  unfold textF
  rw [strOfNums_size, List.length_map, List.length_range]
theorem textF_byte (n : Nat) (f : Nat → Int) (hf : ∀ i, 0 ≤ f i ∧ f i < 256) (i : Nat) (hi : i < n) : byteZ (textF n f) i = f i := by
  unfold byteZ textF strOfNums
  have := hf i
  simp [hi]
  omega
/-- Are the n bytes a name? -/
def nameF (n : Nat) (f : Nat → Int) : Bool := decide (1 ≤ n ∧ n ≤ 32 ∧ ∀ i, i < n → letterB (f i) = true)
theorem named_text (n : Nat) (f : Nat → Int) (hf : ∀ i, 0 ≤ f i ∧ f i < 256) : namedB (textF n f) = nameF n f := by
  unfold namedB nameF
  rw [textF_size, Bool.eq_iff_iff, decide_eq_true_eq, decide_eq_true_eq]
  constructor
  · rintro ⟨h1, h2, h3⟩
    exact ⟨h1, h2, fun i hi => by rw [← textF_byte n f hf i hi]; exact h3 i hi⟩
  · rintro ⟨h1, h2, h3⟩
    exact ⟨h1, h2, fun i hi => by rw [textF_byte n f hf i hi]; exact h3 i hi⟩
theorem text_eq (n m : Nat) (f g : Nat → Int) (hf : ∀ i, 0 ≤ f i ∧ f i < 256) (hg : ∀ i, 0 ≤ g i ∧ g i < 256) : ((textF n f).toList == (textF m g).toList) = eqB n m f g := by
  unfold textF eqB
  rw [Lib.strOfNums_toList, Lib.strOfNums_toList]
  unfold Lib.bytesOf
  rw [List.map_map, List.map_map, Bool.eq_iff_iff, beq_iff_eq, decide_eq_true_iff]
  constructor
  · intro h
    have hl := congrArg List.length h
    simp at hl
    subst hl
    refine ⟨rfl, fun i hi => ?_⟩
    have h2 := congrArg (·[i]?) h
    simp [hi] at h2
    have h3 := congrArg UInt8.toNat h2
    have := hf i
    have := hg i
    simp at h3
    omega
  · rintro ⟨rfl, h⟩
    exact List.map_congr_left fun i hi => by simp [h i (by simpa using hi)]
theorem text_conv (w : World) (a : Option Addr) (n c : Nat) (f : Nat → Int) (h : Bytes w a n f) : (convert 29 9 (.slice a n c)).run Try.prog w = .ok (.string (textF n f)) w := by
  obtain ⟨hf, h0 | ⟨b, off, rfl, hc⟩⟩ := h
  · subst h0
    have hl : ∀ a, (loadCells a 0).run Try.prog w = .ok #[] w := fun a => by
      have := run_loadCells_list (P := Try.prog) w a [] (fun j v hj => by simp at hj)
      simpa using this
    rw [run_convert_bytes_string w 29 9 5 a 0 c Try.underlying29 Try.underlying5 Try.underlying9]
    cases a with
    | none => simp [Conv.bytesToString, textF, strOfNums, ByteArray.empty, ByteArray.emptyWithCapacity]; rfl
    | some b =>
      rw [run_bytesToString w b 0 c [] (by simpa using hl b)]
      rfl
  · exact run_convert_bytes_arg (P := Try.prog) w 29 5 Try.underlying29 Try.underlying5 b off n c ((List.range n).map f) (by simp) (fun i hi => by rw [hc i hi]; simp [hi]) 9 Try.underlying9
/-- How many bytes an act wants. -/
def wantZ (f : Nat → Int) (d x : Int) : Int := if d = 0 then 1 + x % 4 else if d = 1 then x else if d = 2 then 1 + f 0 else if d = 3 then 8 else if d = 4 then 2 else 0
/-- The error that an act meets: of n bytes. -/
def errZ (n : Nat) (f : Nat → Int) (d x : Int) : Int :=
  if d = 2 ∧ n = 0 then 2 else if (n : Int) < wantZ f d x then 2
  else if (d = 2 ∧ nameF (f 0).toNat (fun i => f (i + 1)) = false) ∨ (d = 4 ∧ x < f 0 + 256 * f 1) then 4 else 0
theorem want_bd {f : Nat → Int} (hf : ∀ i, 0 ≤ f i ∧ f i < 256) (d x : Int) (hx : 0 ≤ x ∧ x ≤ 65535) : 0 ≤ wantZ f d x ∧ wantZ f d x ≤ 65535 := by
  have := hf 0
  unfold wantZ
  repeat' split
  all_goals omega
/-- A number of eight bytes. -/
def eightZ (f : Nat → Int) : Int := sumZ f 4 + 4294967296 * sumZ (fun i => f (i + 4)) 4
theorem eight_bd {f : Nat → Int} (hf : ∀ i, 0 ≤ f i ∧ f i < 256) : 0 ≤ eightZ f ∧ eightZ f < 18446744073709551616 := by
  have h1 := sum_bd f hf 4
  have h2 := sum_bd (fun i => f (i + 4)) (fun i => hf _) 4
  unfold eightZ
  omega
end Go.Proofs.Ytlmijnaimdknnaa
