/- What came in: objects. -/
import Derived.Test.YteakbpcmafdikaaGreatDoorNmPt
import Derived.ChangeArms
import Derived.DataReads
namespace Go.Proofs.YteakbpcmafdikaaGreatDoor
open Go.ChangeShapes Go.WideShapes Go.ChangeAt Go.RowKit
set_option linter.unusedVariables false
set_option linter.unusedSimpArgs false
set_option maxRecDepth 100000
section
variable {H : Type} {enc : TypeId × Value → H} {W : World} {base : Nat} {sp : Nat → Bool} {held : Bool}
/-- A list that came in, whose elements are opened. -/
theorem open_lst {α : Type} {t e : TypeId} {sz : Nat} (ht : Tryz.prog.underlying t = some (.slice e)) (hsz : Tryz.prog.cellsOf e = sz) (hz : 0 < sz) (el : Nat → Nat → α → Prop)
    (hE : ∀ fuel cs x, DataW.trod enc Tryz.prog W base sp held fuel e cs = some x → cs.length = sz → ∃ m, ∀ b o, (∀ j u, cs[j]? = some u → W.cell? ⟨b, o + j, none⟩ = some u) → el b o m)
    {fuel : Nat} {cs : List Value} {x : DataW H × List MemPlace} (h : DataW.trod enc Tryz.prog W base sp held fuel t cs = some x) : ∃ v l, cs = [v] ∧ LstA sz el (fun _ => True) v l := by
  rcases DataW.trod_slice ht h with ⟨hcs, _⟩ | ⟨a', len', cap', elems, rest, n, _, hcs, _, hb, hl, hm, hlen, hel, _, _⟩
  · exact ⟨_, [], hcs, LstA.nil⟩
  · rw [hsz] at hel
    have key : ∀ i, i < len' → ∃ m, ∀ b o, a' = ⟨b, o, none⟩ → el b (o + i * sz) m := by
      intro i hi
      have h1 := hel i hi
      rw [List.getElem?_eq_getElem (by omega), Option.bind_eq_some_iff] at h1
      obtain ⟨cs', hc, ht'⟩ := h1
      have h2 := World.cells?_some hc
      obtain ⟨m, hm'⟩ := hE _ _ _ ht' h2.2.1
      refine ⟨m, fun b o e => hm' b _ fun j u hu => ?_⟩
      have hj : j < sz := by have := (List.getElem?_eq_some_iff.1 hu).1; omega
      have h3 := h2.2.2 j hj
      rw [e] at h3
      have ad : ∀ (b off i : Nat), (⟨b, off, none⟩ : Addr).add i = ⟨b, off + i, none⟩ := fun b off i => by cases i <;> simp [Addr.add]
      rw [ad, ad] at h3
      exact h3.trans hu
    by_cases h0 : len' = 0
    · subst h0
      exact ⟨_, [], hcs, some a', cap', rfl, ⟨⟨hl, fun e => by cases e⟩, hm⟩, fun _ _ => trivial, .inl rfl⟩
    · have hspot : ∃ b o, a' = ⟨b, o, none⟩ := by
        have h1 := hel 0 (by omega)
        rw [List.getElem?_eq_getElem (by omega), Option.bind_eq_some_iff] at h1
        obtain ⟨cs', hc, ht'⟩ := h1
        have h2 := World.cells?_some hc
        obtain ⟨b, off, spot⟩ := a'
        have h3 := h2.2.2 0 hz
        rw [List.getElem?_eq_getElem (by have := h2.2.1; omega)] at h3
        have : spot = none := by simpa [Addr.add] using World.cell?_spot h3
        exact ⟨b, off, by rw [this]⟩
      obtain ⟨b, o, rfl⟩ := hspot
      have key2 : ∀ i, i < len' → ∃ m, el b (o + i * sz) m := fun i hi => by
        obtain ⟨m, hm'⟩ := key i hi
        exact ⟨m, hm' b o rfl⟩
      have hn : ∃ m : α, True := by obtain ⟨m, _⟩ := key2 0 (by omega); exact ⟨m, trivial⟩
      obtain ⟨m0, _⟩ := hn
      have hch : ∃ f : Nat → α, ∀ i, i < len' → el b (o + i * sz) (f i) := ⟨fun i => if h : i < len' then (key2 i h).choose else m0, fun i hi => by simp only [dif_pos hi]; exact (key2 i hi).choose_spec⟩
      obtain ⟨f, hf⟩ := hch
      refine ⟨_, (List.range len').map f, hcs, some ⟨b, o, none⟩, cap', by rw [List.length_map, List.length_range], ⟨⟨by rw [List.length_map, List.length_range]; exact hl, fun e => by cases e⟩, hm⟩, fun _ _ => trivial, .inr ⟨b, o, rfl, fun i x hx => ?_⟩⟩
      rw [List.getElem?_map] at hx
      have hi : i < len' := by
        rcases Nat.lt_or_ge i len' with h | h
        · exact h
        · rw [List.getElem?_eq_none (by simp; omega)] at hx; cases hx
      rw [List.getElem?_eq_getElem (by simp; omega)] at hx
      simp at hx
      subst hx
      exact hf i hi
theorem wf_u8 {x : Int} (h : (Lit.int .u8 x).wf = true) : 0 ≤ x ∧ x < 256 := by
  simp [Lit.wf, IntKind.min, IntKind.max, IntKind.signed, IntKind.bits] at h; omega
theorem wf_u32 {x : Int} (h : (Lit.int .u32 x).wf = true) : 0 ≤ x ∧ x < 4294967296 := by
  simp [Lit.wf, IntKind.min, IntKind.max, IntKind.signed, IntKind.bits] at h; omega
/-- The elements' property, out of the cells. -/
theorem lst_all {α : Type} {P : α → Prop} {sz : Nat} {el : Nat → Nat → α → Prop} {A : Nat → Prop} {v : Value} {l : List α} (h : LstA sz (fun b o x => el b o x ∧ P x) A v l) : LstA sz el A v l ∧ ∀ x ∈ l, P x := by
  refine ⟨h.map (fun _ h => h) (fun _ _ _ _ _ h => h.1), fun x hx => ?_⟩
  obtain ⟨a, c, e, hh, hA, hl⟩ := h
  rcases hl with rfl | ⟨b, off, e, hc⟩
  · cases hx
  · obtain ⟨j, hj⟩ := List.mem_iff_getElem?.mp hx
    exact (hc j x hj).2
theorem open_bytes9 {fuel : Nat} {cs : List Value} {x : DataW H × List MemPlace} (h : DataW.trod enc Tryz.prog W base sp held fuel 39 cs = some x) : ∃ v l, cs = [v] ∧ IsBytes (fun _ => True) W v l := by
  obtain ⟨v, l, e, hl⟩ := open_lst (e := 5) (sz := 1) Tryz.underlying39 (by kernel_rfl) (by decide) (fun b o x => NumAt .u8 W b o x ∧ (0 ≤ x ∧ x < 256)) (fun fuel cs x h _ => by
    obtain ⟨n, e, _, hw⟩ := DataW.trod_int Tryz.underlying5 h
    subst e
    exact ⟨n, fun b o hc => ⟨hc 0 _ rfl, wf_u8 hw⟩⟩) h
  exact ⟨v, l, e, lst_all hl⟩
theorem open_words9 {fuel : Nat} {cs : List Value} {x : DataW H × List MemPlace} (h : DataW.trod enc Tryz.prog W base sp held fuel 33 cs = some x) : ∃ v l, cs = [v] ∧ IsWords (fun _ => True) W v l := by
  obtain ⟨v, l, e, hl⟩ := open_lst (e := 53) (sz := 1) Tryz.underlying33 (by kernel_rfl) (by decide) (fun b o x => NumAt .u32 W b o x ∧ (0 ≤ x ∧ x < 4294967296)) (fun fuel cs x h _ => by
    obtain ⟨n, e, _, hw⟩ := DataW.trod_int Tryz.underlying53 h
    subst e
    exact ⟨n, fun b o hc => ⟨hc 0 _ rfl, wf_u32 hw⟩⟩) h
  exact ⟨v, l, e, lst_all hl⟩
theorem c_int : Tryz.prog.cellsOf 3 = 1 := by kernel_rfl
theorem c_str : Tryz.prog.cellsOf 9 = 1 := by kernel_rfl
theorem c_bool : Tryz.prog.cellsOf 4 = 1 := by kernel_rfl
theorem c_bytes : Tryz.prog.cellsOf 39 = 1 := by kernel_rfl
theorem c_words : Tryz.prog.cellsOf 33 = 1 := by kernel_rfl
theorem c_rels : Tryz.prog.cellsOf 48 = 1 := by kernel_rfl
theorem c_funcs : Tryz.prog.cellsOf 42 = 1 := by kernel_rfl
theorem c_datas : Tryz.prog.cellsOf 43 = 1 := by kernel_rfl
theorem c_notes : Tryz.prog.cellsOf 44 = 1 := by kernel_rfl
theorem open_rel9 {fuel : Nat} {cs : List Value} {x : DataW H × List MemPlace} (h : DataW.trod enc Tryz.prog W base sp held fuel 55 cs = some x) (hl : cs.length = 4) : ∃ r : RelM, cs = [.int .i64 r.at_, .int .i64 r.kind, .string r.name, .int .i64 r.add] ∧ r.name.size ≤ maxLen := by
  obtain ⟨xs, n, _, hx, _, hlen, hfs⟩ := DataW.trod_struct Tryz.underlying55 h
  have hl2 : xs.length = 4 := hlen
  match cs, hl with
  | [c0, c1, c2, c3], _ =>
    have h0 : DataW.trod enc Tryz.prog W base sp held n 3 (List.take (Tryz.prog.cellsOf 3) [c0, c1, c2, c3]) = xs[0]? := hfs 0 _ rfl
    have h1 : DataW.trod enc Tryz.prog W base sp held n 3 (List.take (Tryz.prog.cellsOf 3) [c1, c2, c3]) = xs[1]? := hfs 1 _ rfl
    have h2 : DataW.trod enc Tryz.prog W base sp held n 9 (List.take (Tryz.prog.cellsOf 9) [c2, c3]) = xs[2]? := hfs 2 _ rfl
    have h3 : DataW.trod enc Tryz.prog W base sp held n 3 (List.take (Tryz.prog.cellsOf 3) [c3]) = xs[3]? := hfs 3 _ rfl
    rw [List.getElem?_eq_getElem (by omega)] at h0 h1 h2 h3
    rw [c_int] at h0 h1 h3
    rw [c_str] at h2
    obtain ⟨x0, e0, _, _⟩ := DataW.trod_int Tryz.underlying3 h0
    obtain ⟨x1, e1, _, _⟩ := DataW.trod_int Tryz.underlying3 h1
    obtain ⟨x2, e2, _, hs⟩ := DataW.trod_string Tryz.underlying9 h2
    obtain ⟨x3, e3, _, _⟩ := DataW.trod_int Tryz.underlying3 h3
    simp at e0 e1 e2 e3
    subst e0 e1 e2 e3
    exact ⟨⟨x0, x1, x2, x3⟩, rfl, hs⟩
theorem open_rels9 {fuel : Nat} {cs : List Value} {x : DataW H × List MemPlace} (h : DataW.trod enc Tryz.prog W base sp held fuel 48 cs = some x) : ∃ v l, cs = [v] ∧ IsRels (fun _ => True) W v l :=
  open_lst (e := 55) (sz := 4) Tryz.underlying48 (by kernel_rfl) (by decide) (RelAt W) (fun fuel cs x h hl => by
    obtain ⟨r, rfl, hs⟩ := open_rel9 h hl
    exact ⟨r, fun b o hc => ⟨hc 0 _ rfl, hc 1 _ rfl, hc 2 _ rfl, hc 3 _ rfl, hs⟩⟩) h
theorem open_funcs9 {fuel : Nat} {cs : List Value} {x : DataW H × List MemPlace} (h : DataW.trod enc Tryz.prog W base sp held fuel 42 cs = some x) : ∃ v l, cs = [v] ∧ IsFuncs (fun _ => True) W v l :=
  open_lst (e := 50) (sz := 4) Tryz.underlying42 (by kernel_rfl) (by decide) (FuncAt (fun _ => True) W) (fun fuel cs x h hl => by
    obtain ⟨xs, n, _, hx, _, hlen, hfs⟩ := DataW.trod_struct Tryz.underlying50 h
    have hl2 : xs.length = 4 := hlen
    match cs, hl with
    | [c0, c1, c2, c3], _ =>
      have h0 : DataW.trod enc Tryz.prog W base sp held n 9 (List.take (Tryz.prog.cellsOf 9) [c0, c1, c2, c3]) = xs[0]? := hfs 0 _ rfl
      have h1 : DataW.trod enc Tryz.prog W base sp held n 3 (List.take (Tryz.prog.cellsOf 3) [c1, c2, c3]) = xs[1]? := hfs 1 _ rfl
      have h2 : DataW.trod enc Tryz.prog W base sp held n 33 (List.take (Tryz.prog.cellsOf 33) [c2, c3]) = xs[2]? := hfs 2 _ rfl
      have h3 : DataW.trod enc Tryz.prog W base sp held n 48 (List.take (Tryz.prog.cellsOf 48) [c3]) = xs[3]? := hfs 3 _ rfl
      rw [List.getElem?_eq_getElem (by omega)] at h0 h1 h2 h3
      rw [c_str] at h0
      rw [c_int] at h1
      rw [c_words] at h2
      rw [c_rels] at h3
      obtain ⟨x0, e0, _, hs⟩ := DataW.trod_string Tryz.underlying9 h0
      obtain ⟨x1, e1, _, _⟩ := DataW.trod_int Tryz.underlying3 h1
      obtain ⟨v2, l2, e2, hw⟩ := open_words9 h2
      obtain ⟨v3, l3, e3, hr⟩ := open_rels9 h3
      simp at e0 e1 e2 e3
      subst e0 e1 e2 e3
      exact ⟨⟨x0, x1, l2, l3⟩, fun b o hc => ⟨_, _, hc 0 _ rfl, hc 1 _ rfl, hc 2 _ rfl, hc 3 _ rfl, hw, hr, hs⟩⟩) h
theorem open_datas9 {fuel : Nat} {cs : List Value} {x : DataW H × List MemPlace} (h : DataW.trod enc Tryz.prog W base sp held fuel 43 cs = some x) : ∃ v l, cs = [v] ∧ IsDatas (fun _ => True) W v l :=
  open_lst (e := 52) (sz := 7) Tryz.underlying43 (by kernel_rfl) (by decide) (DataAt (fun _ => True) W) (fun fuel cs x h hl => by
    obtain ⟨xs, n, _, hx, _, hlen, hfs⟩ := DataW.trod_struct Tryz.underlying52 h
    have hl2 : xs.length = 7 := hlen
    match cs, hl with
    | [c0, c1, c2, c3, c4, c5, c6], _ =>
      have h0 : DataW.trod enc Tryz.prog W base sp held n 9 (List.take (Tryz.prog.cellsOf 9) [c0, c1, c2, c3, c4, c5, c6]) = xs[0]? := hfs 0 _ rfl
      have h1 : DataW.trod enc Tryz.prog W base sp held n 3 (List.take (Tryz.prog.cellsOf 3) [c1, c2, c3, c4, c5, c6]) = xs[1]? := hfs 1 _ rfl
      have h2 : DataW.trod enc Tryz.prog W base sp held n 3 (List.take (Tryz.prog.cellsOf 3) [c2, c3, c4, c5, c6]) = xs[2]? := hfs 2 _ rfl
      have h3 : DataW.trod enc Tryz.prog W base sp held n 4 (List.take (Tryz.prog.cellsOf 4) [c3, c4, c5, c6]) = xs[3]? := hfs 3 _ rfl
      have h4 : DataW.trod enc Tryz.prog W base sp held n 3 (List.take (Tryz.prog.cellsOf 3) [c4, c5, c6]) = xs[4]? := hfs 4 _ rfl
      have h5 : DataW.trod enc Tryz.prog W base sp held n 39 (List.take (Tryz.prog.cellsOf 39) [c5, c6]) = xs[5]? := hfs 5 _ rfl
      have h6 : DataW.trod enc Tryz.prog W base sp held n 48 (List.take (Tryz.prog.cellsOf 48) [c6]) = xs[6]? := hfs 6 _ rfl
      rw [List.getElem?_eq_getElem (by omega)] at h0 h1 h2 h3 h4 h5 h6
      rw [c_str] at h0
      rw [c_int] at h1 h2 h4
      rw [c_bool] at h3
      rw [c_bytes] at h5
      rw [c_rels] at h6
      obtain ⟨x0, e0, _, hs⟩ := DataW.trod_string Tryz.underlying9 h0
      obtain ⟨x1, e1, _, _⟩ := DataW.trod_int Tryz.underlying3 h1
      obtain ⟨x2, e2, _, _⟩ := DataW.trod_int Tryz.underlying3 h2
      obtain ⟨x3, e3, _⟩ := DataW.trod_bool Tryz.underlying4 h3
      obtain ⟨x4, e4, _, _⟩ := DataW.trod_int Tryz.underlying3 h4
      obtain ⟨v5, l5, e5, hb⟩ := open_bytes9 h5
      obtain ⟨v6, l6, e6, hr⟩ := open_rels9 h6
      simp at e0 e1 e2 e3 e4 e5 e6
      subst e0 e1 e2 e3 e4 e5 e6
      exact ⟨⟨x0, x1, x2, x3, x4, l5, l6⟩, fun b o hc => ⟨_, _, hc 0 _ rfl, hc 1 _ rfl, hc 2 _ rfl, hc 3 _ rfl, hc 4 _ rfl, hc 5 _ rfl, hc 6 _ rfl, hb, hr, hs⟩⟩) h
theorem open_notes9 {fuel : Nat} {cs : List Value} {x : DataW H × List MemPlace} (h : DataW.trod enc Tryz.prog W base sp held fuel 44 cs = some x) : ∃ v l, cs = [v] ∧ IsNotes (fun _ => True) W v l :=
  open_lst (e := 87) (sz := 2) Tryz.underlying44 (by kernel_rfl) (by decide) (NoteAt W) (fun fuel cs x h hl => by
    obtain ⟨xs, n, _, hx, _, hlen, hfs⟩ := DataW.trod_struct Tryz.underlying87 h
    have hl2 : xs.length = 2 := hlen
    match cs, hl with
    | [c0, c1], _ =>
      have h0 : DataW.trod enc Tryz.prog W base sp held n 9 (List.take (Tryz.prog.cellsOf 9) [c0, c1]) = xs[0]? := hfs 0 _ rfl
      have h1 : DataW.trod enc Tryz.prog W base sp held n 3 (List.take (Tryz.prog.cellsOf 3) [c1]) = xs[1]? := hfs 1 _ rfl
      rw [List.getElem?_eq_getElem (by omega)] at h0 h1
      rw [c_str] at h0
      rw [c_int] at h1
      obtain ⟨x0, e0, _, hs⟩ := DataW.trod_string Tryz.underlying9 h0
      obtain ⟨x1, e1, _, _⟩ := DataW.trod_int Tryz.underlying3 h1
      simp at e0 e1
      subst e0 e1
      exact ⟨⟨x0, x1⟩, fun b o hc => ⟨hc 0 _ rfl, hc 1 _ rfl, hs⟩⟩) h
end
/-- An object that came in. -/
theorem open_object {H : Type} {enc : TypeId × Value → H} {W : World} {r : Reach} {b0 base : Nat} {sp : Nat → Bool} {held : Bool} {v : Value} {d : DataW H} {p : List MemPlace}
    (hv : Value.okWide Tryz.prog W r b0 46 v) (h : DataW.Trod enc Tryz.prog W base sp held 46 v d p) : ∃ o : ObjM, IsObj (fun _ => True) W v o := by
  obtain ⟨cs, rfl, hsz⟩ := Go.WideShapes.okWide_struct Tryz.underlying46 hv
  obtain ⟨fuel, hf⟩ := h
  obtain ⟨xs, n, _, hx, hl, hlen, hfs⟩ := DataW.trod_struct Tryz.underlying46 hf
  have hc : Tryz.prog.cellsOf 46 = 3 := by kernel_rfl
  rw [hc] at hsz
  have hl2 : xs.length = 3 := hlen
  obtain ⟨l⟩ := cs
  have hl' : l.length = 3 := hsz
  match l, hl' with
  | [c0, c1, c2], _ =>
    have h0 : DataW.trod enc Tryz.prog W base sp held n 42 (List.take (Tryz.prog.cellsOf 42) [c0, c1, c2]) = xs[0]? := hfs 0 _ rfl
    have h1 : DataW.trod enc Tryz.prog W base sp held n 43 (List.take (Tryz.prog.cellsOf 43) [c1, c2]) = xs[1]? := hfs 1 _ rfl
    have h2 : DataW.trod enc Tryz.prog W base sp held n 44 (List.take (Tryz.prog.cellsOf 44) [c2]) = xs[2]? := hfs 2 _ rfl
    rw [List.getElem?_eq_getElem (by omega)] at h0 h1 h2
    rw [c_funcs] at h0
    rw [c_datas] at h1
    rw [c_notes] at h2
    obtain ⟨v0, l0, e0, q0⟩ := open_funcs9 h0
    obtain ⟨v1, l1, e1, q1⟩ := open_datas9 h1
    obtain ⟨v2, l2, e2, q2⟩ := open_notes9 h2
    simp at e0 e1 e2
    subst e0 e1 e2
    exact ⟨⟨l0, l1, l2⟩, _, _, _, rfl, q0, q1, q2⟩
/-- Bytes that came in. -/
theorem list_of_bytes {w : World} {a : Option Addr} {n c : Nat} {f : Nat → Int} (h : n ≤ c ∧ c ≤ maxLen ∧ (a = none → c = 0) ∧ Bytes w a n f) : IsBytes (fun _ => True) w (.slice a n c) ((List.range n).map f) := by
  have hl : ((List.range n).map f).length = n := by simp
  have hg : ∀ i, i < n → gF ((List.range n).map f) i = f i := fun i hi => by
    unfold gF
    rw [List.getD_eq_getElem?_getD, List.getElem?_map, List.getElem?_eq_getElem (by simp; omega)]
    simp
  have hb : Byt ((List.range n).map f) := fun x hx => by
    obtain ⟨i, _, rfl⟩ := List.mem_map.mp hx
    exact h.2.2.2.1 i
  have key := IsBytes.mk (A := fun _ => True) (w := w) (a := a) (c := c) (l := (List.range n).map f) ⟨by rw [hl]; exact h.1, h.2.2.1⟩ h.2.1 (fun _ _ => trivial) hb (by
    rw [hl]
    exact ⟨gF_byt hb, h.2.2.2.2.imp id fun ⟨b, off, e, hc⟩ => ⟨b, off, e, fun i hi => by rw [hg i hi]; exact hc i hi⟩⟩)
  rwa [hl] at key
end Go.Proofs.YteakbpcmafdikaaGreatDoor
