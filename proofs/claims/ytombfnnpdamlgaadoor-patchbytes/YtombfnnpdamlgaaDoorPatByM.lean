/- What PatchBytes says of numbers: the four bytes of an address, read again; rows of Booleans. No condition. -/
import Derived.Test.YtombfnnpdamlgaaDoorPatEqM
import Derived.Test.YtombfnnpdamlgaaDoorSlices
import Derived.Test.YtombfnnpdamlgaaDoorPlcRep
namespace Go.Proofs.YtombfnnpdamlgaaDoor
open Go.ChangeShapes Go.WideShapes Go.ChangeAt Go.RowKit
set_option linter.unusedVariables false
set_option linter.unusedSimpArgs false
theorem infoBo : (Tryd.prog.info? 4).map (fun i => (i.zero, i.size, i.bytes)) = some (some (.bool false), 1, 1) := by kernel_rfl
def bools (l : List Bool) : List Value := l.map Value.bool
theorem zeros_bools (n : Nat) : (madeCells (Value.bool false).cells (n * 1)).toList = bools (List.replicate n false) := by
  rw [Nat.mul_one]; show (madeCells #[Value.bool false] n).toList = _
  rw [toList_madeCells_one]; simp [bools]
theorem xbool_set {w : World} {g : Nat} {l : List Bool} (h : XAt w g (bools l)) {k : Nat} (hk : k < l.length) (x : Bool) : XAt (w.setCell ⟨g, k, none⟩ (.bool x)) g (bools (l.set k x)) := by
  have h2 := h.set k (by unfold bools; rw [List.length_map]; exact hk) (.bool x)
  unfold bools at h2 ⊢
  rwa [List.map_set]
theorem bools_get {l : List Bool} {k : Nat} {x : Bool} (h : l[k]? = some x) : (bools l)[k]? = some (.bool x) := by unfold bools; rw [List.getElem?_map, h]; rfl
theorem wrapU (x : Int) : IntKind.u32.wrap x = x % 4294967296 := by rw [IntKind.wrap_u32]
/-- The address, reckoned in words of 32 bits. -/
theorem addr_sum {P ad : Int} (h0 : 0 ≤ 65536 + P + ad) (h1 : 65536 + P + ad < 4294967296) : IntKind.u32.wrap (65536 + P + IntKind.u32.wrap ad) = 65536 + P + ad := by
  rw [wrapU, wrapU]; omega
theorem getD_of {l : List Int} {k : Nat} {x : Int} (h : l[k]? = some x) : l.getD k 0 = x := by rw [List.getD_eq_getElem?_getD, h]; rfl
/-- Four bytes that a relocation has, read as a number. -/
theorem dataZ_sum {nd : Nat} {D : PDataM} (h : DtOk nd D) (hs : (D.bytes.length : Int) ≤ D.size) {x : PlanZ} {L : List Int} (hz : dataZ x D = some L) {k : Nat} {r : PRelM} (hr : D.rels[k]? = some r) (hb : valZ x r < 4294967296) :
    0 ≤ valZ x r ∧ sumZ (fun i => L.getD (r.at_.toNat + i) 0) 4 = valZ x r := by
  obtain ⟨h0, h4⟩ := dataZ_at h hs hz hr
  have hR := h.1 r (List.mem_of_getElem? hr)
  have hl := fill_len hs
  have hL : L.length = (fillZ D).length := (datsZ_keeps hz).1
  have hlt : r.at_.toNat + 4 ≤ L.length := by have := hR.2.1; have := hR.2.2.1; omega
  have e0 := (h4 0).resolve_right (by omega)
  have e1 := (h4 1).resolve_right (by omega)
  have e2 := (h4 2).resolve_right (by omega)
  have e3 := (h4 3).resolve_right (by omega)
  rw [put4_get _ _ _ _ hlt] at e0 e1 e2 e3
  rw [if_pos (by omega)] at e0
  rw [if_neg (by omega), if_pos rfl] at e1
  rw [if_neg (by omega), if_neg (by omega), if_pos rfl] at e2
  rw [if_neg (by omega), if_neg (by omega), if_neg (by omega), if_pos rfl] at e3
  refine ⟨h0, ?_⟩
  simp only [sumZ, getD_of e0, getD_of e1, getD_of e2, getD_of e3]
  generalize valZ x r = V at h0 hb
  omega
theorem fill_get {D : PDataM} {j : Nat} (hj : j < D.size.toNat) : (fillZ D)[j]? = some (if j < D.bytes.length then D.bytes.getD j 0 else 0) := by
  unfold fillZ
  by_cases h : j < D.bytes.length
  · rw [if_pos h, List.getElem?_append_left h, List.getD_eq_getElem?_getD, List.getElem?_eq_getElem h]; rfl
  · rw [if_neg h, List.getElem?_append_right (by omega), List.getElem?_replicate, if_pos (by omega)]
theorem set_true {l : List Bool} {k j : Nat} (h : l[j]? = some true) : (l.set k true)[j]? = some true := by
  rw [List.getElem?_set]
  split
  · rename_i e
    subst e
    rw [if_pos (get_lt h)]
  · exact h
theorem bytes_cell {A : Nat → Prop} {w : World} {a : Option Addr} {n c : Nat} {l : List Int} (h : IsBytes A w (.slice a n c) l) {i : Nat} {y : Int} (hi : l[i]? = some y) : ∃ b off, a = some ⟨b, off, none⟩ ∧ w.cell? ⟨b, off + i, none⟩ = some (.int .u8 y) := by
  obtain ⟨a', c', e, -, -, hl⟩ := h.1
  injection e with e1 e2 e3
  subst e1
  rcases hl with rfl | ⟨b, off, rfl, hc⟩
  · simp at hi
  · exact ⟨b, off, rfl, by have h : w.cell? ⟨b, off + i * 1, none⟩ = _ := hc i y hi; rwa [Nat.mul_one] at h⟩
end Go.Proofs.YtombfnnpdamlgaaDoor
