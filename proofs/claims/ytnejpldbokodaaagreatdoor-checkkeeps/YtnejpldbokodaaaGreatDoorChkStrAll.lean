/- What is sorted and made compact is as long as before just where no two are alike. No condition. Slices of strings that a call has made: what the library's Grow, Concat, Sort, Compact and Contains leave of them, and answer. Has each of an object's functions and data a name of its own, and is each note's a function's? As the code has it. -/
import Derived.Lib.SlicesCompact
import Derived.Test.YtnejpldbokodaaaGreatDoorShelf
import Derived.Test.YtnejpldbokodaaaGreatDoorSliceLib
import Derived.Test.YtnejpldbokodaaaGreatDoorObjRt1
import Derived.Test.YtnejpldbokodaaaGreatDoorChkMath
import Derived.Test.YtnejpldbokodaaaGreatDoorObjApp
namespace Go.Proofs.YtnejpldbokodaaaGreatDoor
set_option linter.unusedVariables false
set_option linter.unusedSimpArgs false
theorem str_trans : ∀ a b c : List UInt8, decide (a ≤ b) = true → decide (b ≤ c) = true → decide (a ≤ c) = true := fun a b c h1 h2 => by simp only [decide_eq_true_eq] at *; exact List.le_trans h1 h2
theorem str_total : ∀ a b : List UInt8, (decide (a ≤ b) || decide (b ≤ a)) = true := fun a b => by simp only [Bool.or_eq_true, decide_eq_true_eq]; exact List.le_total a b
theorem compact_len (zs : List (List UInt8)) : (Go.Lib.compact zs).length = zs.length ↔ ∀ j, j + 1 < zs.length → zs[j + 1]? ≠ zs[j]? := by
  unfold Go.Lib.compact Go.Lib.compactUpTo
  rw [List.length_map]
  constructor
  · intro h j hj he
    have h1 : ((List.range zs.length).filter (Go.Lib.keeps zs.toArray)).length = (List.range zs.length).length := by rw [h]; simp
    rw [List.length_filter_eq_length_iff] at h1
    have h2 := h1 (j + 1) (by simp; omega)
    unfold Go.Lib.keeps at h2
    simp only [decide_eq_true_eq] at h2
    rcases h2 with h2 | h2
    · omega
    · refine h2 ?_
      rw [List.getElem?_eq_getElem hj, List.getElem?_eq_getElem (by omega)] at he
      simp only [Option.some.injEq] at he
      rw [Nat.add_sub_cancel, getElem!_pos _ (j + 1) (by simpa using hj), getElem!_pos _ j (by simp; omega)]
      simpa using he
  · intro h
    have h1 : ((List.range zs.length).filter (Go.Lib.keeps zs.toArray)).length = (List.range zs.length).length := by
      rw [List.length_filter_eq_length_iff]
      intro j hj
      have hj' : j < zs.length := by simpa using hj
      unfold Go.Lib.keeps
      simp only [decide_eq_true_eq]
      cases j with
      | zero => exact .inl rfl
      | succ j =>
        refine .inr fun he => h j hj' ?_
        rw [Nat.add_sub_cancel, getElem!_pos _ (j + 1) (by simpa using hj'), getElem!_pos _ j (by simp; omega)] at he
        rw [List.getElem?_eq_getElem hj', List.getElem?_eq_getElem (by omega)]
        simpa using he
    rw [h1]; simp
theorem sorted_nodup {l : List (List UInt8)} (hp : l.Pairwise (fun a b => decide (a ≤ b) = true)) : (∀ j, j + 1 < l.length → l[j + 1]? ≠ l[j]?) ↔ l.Nodup := by
  constructor
  · intro h
    rw [List.nodup_iff_pairwise_ne, List.pairwise_iff_getElem]
    rw [List.pairwise_iff_getElem] at hp
    intro i j hi hj hij he
    have h1 := hp i (i + 1) hi (by omega) (by omega)
    refine h i (by omega) ?_
    rw [List.getElem?_eq_getElem (by omega), List.getElem?_eq_getElem hi]
    congr 1
    simp only [decide_eq_true_eq] at h1
    refine List.le_antisymm ?_ h1
    by_cases e : i + 1 = j
    · subst e; rw [← he]; exact List.le_refl _
    · have h2 := hp (i + 1) j (by omega) hj (by omega)
      simp only [decide_eq_true_eq] at h2
      rw [he]; exact h2
  · intro h j hj he
    rw [List.nodup_iff_pairwise_ne, List.pairwise_iff_getElem] at h
    rw [List.getElem?_eq_getElem hj, List.getElem?_eq_getElem (by omega)] at he
    simp only [Option.some.injEq] at he
    exact h j (j + 1) (by omega) hj (by omega) he.symm
/-- Sorted and made compact: as long as before just where no two are alike. -/
theorem sort_compact (zs : List (List UInt8)) : (Go.Lib.compact (zs.mergeSort fun x y => decide (x ≤ y))).length = zs.length ↔ zs.Nodup := by
  have e : zs.length = (zs.mergeSort fun x y => decide (x ≤ y)).length := (List.length_mergeSort _).symm
  rw [e, compact_len, sorted_nodup (List.pairwise_mergeSort str_trans str_total zs)]
  exact (List.mergeSort_perm zs _).nodup_iff
open Go.ChangeShapes Go.WideShapes Go.ChangeAt Go.RowKit Go.Sort Go.Shelf
set_option linter.unusedVariables false
set_option linter.unusedSimpArgs false
theorem slS : (Tryz.prog.info? 9).map (fun i => (i.zero, i.size, i.bytes)) = some (some (.string ⟨#[]⟩), 1, 16) := by kernel_rfl
abbrev strC (L : List ByteArray) : List Value := L.map Value.string
def strsL (L : List ByteArray) : List (List UInt8) := L.map fun t => t.data.toList
theorem strC_len (L : List ByteArray) : (strC L).length = L.length := by simp
theorem strC_one (L : List ByteArray) : ∀ u ∈ strC L, u.oneCell' = true := fun u hu => by obtain ⟨t, _, rfl⟩ := List.mem_map.1 hu; rfl
theorem strsL_len (L : List ByteArray) : (strsL L).length = L.length := by simp [strsL]
theorem strsL_nodup (L : List ByteArray) : (strsL L).Nodup ↔ L.Nodup := by
  unfold strsL
  rw [List.nodup_iff_pairwise_ne, List.nodup_iff_pairwise_ne, List.pairwise_map]
  refine List.Pairwise.iff fun {a b} => ?_
  obtain ⟨⟨a⟩⟩ := a; obtain ⟨⟨b⟩⟩ := b
  simp
/-- An own row of strings. -/
def OwnS (w : World) (base : Nat) (v : Value) (L : List ByteArray) : Prop := w.ownsRow base 9 1 v L.length (strC L)
theorem ownS_later {w w1 : World} {base : Nat} {v : Value} {L : List ByteArray} (h : OwnS w base v L) (hb : Below w.heap.size w w1) : OwnS w1 base v L :=
  h.kept (row := none) ⟨hb.os, hb.tape, hb.output, hb.size, fun k hk _ => hb.block k hk⟩ (by cases hv : v.ownBlock <;> simp)
theorem ownS_nil (w : World) (base : Nat) : OwnS w base (.slice none 0 0) [] := World.ownsRow_nil _ _ _ _
theorem ownS_form {w : World} {base : Nat} {v : Value} {L : List ByteArray} (h : OwnS w base v L) : (L = [] ∧ ∃ a cap, v = .slice a 0 cap ∧ (∀ x, a = some x → base ≤ x.block ∧ x.block < w.heap.size) ∧ Head a 0 cap) ∨ ∃ g cap, v = .slice (some ⟨g, 0, none⟩) L.length cap ∧ base ≤ g ∧ g < w.heap.size ∧ L.length ≤ cap ∧ Holds encStr w g 0 (strsL L).toArray := by
  rcases h.2 with ⟨rfl, h0⟩ | ⟨g, cap, cur, rfl, hb, hg, hn, hm, hs, ht⟩
  · exact .inl ⟨List.eq_nil_of_length_eq_zero h0, none, 0, rfl, (fun x e => by cases e), ⟨Nat.le_refl _, fun _ => rfl⟩⟩
  · refine .inr ⟨g, cap, rfl, hb, (Array.getElem?_eq_some_iff.1 hg).1, hn, fun j hj => ?_⟩
    have hj' : j < L.length := by simpa [strsL] using hj
    refine ⟨?_, by simp [World.frozen?, hg]⟩
    have hc := h.cellAt j (by omega)
    rw [Nat.zero_add, hc, getElem!_pos _ j hj]
    simp [strsL, hj', encStr]
theorem below_putS (w : World) (n g off : Nat) (d : Array (List UInt8)) : Below g w (putRow encStr (Sort.ahead w n) g off d) := by
  refine ⟨rfl, rfl, rfl, by simp, fun k hk => ?_⟩
  unfold putRow mapBlock
  simp only [Array.getElem?_modify]
  rw [if_neg (by omega)]; rfl
theorem below_growS (w : World) (os : Array Obj) (g : Nat) (hg : g ≤ w.heap.size) : Below g w (grow w os) :=
  ⟨rfl, rfl, rfl, by simp, fun k hk => heap_grow_old w os (by omega)⟩
/-- It holds what was sorted of L. -/
def SortedS (w : World) (base : Nat) (v : Value) (L : List ByteArray) : Prop :=
  (L = [] ∧ ∃ a cap, v = .slice a 0 cap) ∨ ∃ g cap, v = .slice (some ⟨g, 0, none⟩) L.length cap ∧ base ≤ g ∧ L.length ≤ cap ∧ Holds encStr w g 0 ((strsL L).mergeSort fun x y => decide (x ≤ y)).toArray
theorem sort_s {w : World} {base : Nat} {v : Value} {L : List ByteArray} (h : OwnS w base v L) (hL : L.length ≤ 100000) :
    Calls Tryz.prog 68 #[v] w fun e w' => e = .returned (.tuple #[]) ∧ SortedS w' base v L ∧ Below base w w' := by
  rcases ownS_form h with ⟨rfl, a, cap, rfl, -, -⟩ | ⟨g, cap, rfl, hb, hg, hc, hH⟩
  · refine (Tryz.slices_Sort_string_none a cap w).mono ?_
    rintro e w' ⟨rfl, rfl⟩
    exact ⟨rfl, .inl ⟨rfl, a, cap, rfl⟩, Below.refl _ _⟩
  · have hl := strsL_len L
    have k := Tryz.slices_Sort_string g 0 cap (strsL L) w hH hg (by omega)
    rw [hl] at k
    refine k.mono ?_
    rintro e w' ⟨rfl, n, os, rfl⟩
    refine ⟨rfl, .inr ⟨g, cap, rfl, hb, hc, ?_⟩, ?_⟩
    · refine holds_grow _ _ _ _ _ _ (by simpa using hg) ?_
      exact holds_putRow encStr _ g 0 (strsL L).toArray _ (holds_ahead encStr w n g 0 _ hH) (by simp)
    · exact ((below_putS w n g 0 _).trans (below_growS _ _ _ (by simp; omega))).mono hb
theorem compact_s {w : World} {base : Nat} {v : Value} {L : List ByteArray} (h : SortedS w base v L) (hL : L.length ≤ 100000) :
    Calls Tryz.prog 69 #[v] w fun e w' => ∃ a k cap, e = .returned (.slice a k cap) ∧ (k = L.length ↔ L.Nodup) ∧ k ≤ 100000 ∧ Below base w w' := by
  rcases h with ⟨rfl, a, cap, rfl⟩ | ⟨g, cap, rfl, hb, hc, hH⟩
  · refine (Tryz.slices_Compact_string_empty a cap w).mono ?_
    rintro e w' ⟨rfl, rfl⟩
    exact ⟨a, 0, cap, rfl, by simp, by omega, Below.refl _ _⟩
  · have hl : ((strsL L).mergeSort fun x y => decide (x ≤ y)).length = L.length := by rw [List.length_mergeSort, strsL_len]
    have hs := sort_compact (strsL L)
    rw [strsL_len, strsL_nodup] at hs
    have k := Tryz.slices_Compact_string g 0 cap ((strsL L).mergeSort fun x y => decide (x ≤ y)) w hH (by omega) (by omega)
    rw [hl] at k
    refine k.mono ?_
    rintro e w' ⟨rfl, q, rfl⟩
    refine ⟨_, _, _, rfl, hs, ?_, (below_putS w q g 0 _).mono hb⟩
    have : (Go.Lib.compact ((strsL L).mergeSort fun x y => decide (x ≤ y))).length ≤ L.length := by
      unfold Go.Lib.compact Go.Lib.compactUpTo
      rw [List.length_map]
      exact Nat.le_trans (List.length_filter_le _ _) (by simp [strsL_len])
    omega
theorem contains_s {w : World} {base : Nat} {v : Value} {L : List ByteArray} (h : OwnS w base v L) (hL : L.length ≤ 100000) (x : ByteArray) :
    Calls Tryz.prog 66 #[v, .string x] w fun e w' => Says e (x ∈ L) ∧ w' = w := by
  rcases h.2 with ⟨rfl, h0⟩ | ⟨g, cap, cur, rfl, hb, hg, hn, hm, hs, ht⟩
  · obtain rfl := List.eq_nil_of_length_eq_zero h0
    refine (Tryz.slices_Contains_string_empty none 0 x w).mono ?_
    rintro e w' ⟨rfl, rfl⟩
    exact ⟨⟨_, rfl, iff_no (by simp)⟩, rfl⟩
  · refine (Tryz.slices_Contains_string g 0 L.length cap L x w (Nat.le_refl _) (by omega) (fun j hj => ?_)).mono ?_
    · have hc := h.cellAt j (by omega)
      rw [Nat.zero_add, hc]
      simp [strC, hj]
    · rintro e w' ⟨rfl, rfl⟩
      refine ⟨⟨_, rfl, ?_⟩, rfl⟩
      rw [List.take_length]
      exact Go.Lib.containsS_iff L x
set_option maxRecDepth 100000 in
set_option maxHeartbeats 1000000 in
theorem grow_s (w : World) (n : Nat) (hn : n ≤ 100000) :
    Calls Tryz.prog 87 #[.slice none 0 0, .int .i64 n] w fun e w' => ∃ a c, e = .returned (.slice a 0 c) ∧ w'.ownsRow w.heap.size 9 1 (.slice a 0 c) 0 [] ∧ Below w.heap.size w w' := by
  by_cases h0 : n = 0
  · subst h0
    go_enter Tryz.func87, Tryz.ntmps87
    go_wp2
    go_ret
    exact ⟨none, 0, rfl, own_none, Below.refl _ _⟩
  · have hn0 : 0 < (n : Int) := by omega
    have hn1 : (n : Int) ≤ 100000 := by omega
    obtain ⟨i0, hi, hz0, hz1, hz2⟩ := info_parts slS
    have happ := fun ty => Lib.run_append_nil_zeros (P := Tryz.prog) w 60 3 ty 9 i0 (.string ⟨#[]⟩) .i64 .i64 Tryz.underlying60 Tryz.underlying3 hi hz0 n (by omega) (by omega) (by omega) (by rw [hz2]; omega)
    have hcapge : n ≤ grownCap w n 0 9 := grownCap_ge w _ 0 _
    have hcaple : grownCap w n 0 9 ≤ maxLen := grownCap_le_maxLen w _ 0 _ (by unfold maxLen; omega)
    generalize grownCap w n 0 9 = cap2 at happ hcapge hcaple
    have hZ : (Builtin.zeroCells (Value.string ⟨#[]⟩).cells n ++ Builtin.zeroCells (Value.string ⟨#[]⟩).cells (cap2 - n)).size = cap2 := by rw [Array.size_append, size_zeroCells1 _ rfl, size_zeroCells1 _ rfl]; omega
    generalize Builtin.zeroCells (Value.string ⟨#[]⟩).cells n ++ Builtin.zeroCells (Value.string ⟨#[]⟩).cells (cap2 - n) = Z at happ hZ
    have HZ : Hid (Z.size = cap2) := hZ
    have HL : Hid (cap2 ≤ maxLen) := hcaple
    have hl9 : cap2 ≤ 9223372036854775807 := by unfold maxLen at hcaple; omega
    clear hi hz0 hz1 hz2 hZ hcaple
    go_enter Tryz.func87, Tryz.ntmps87
    go_wp2_with (at_builtin; refine Lib.wpList_append_run _ rfl _ _ _ _ rfl _ _ rfl rfl _ _ (happ _) ?_)
    go_ret
    exact ⟨some ⟨w.heap.size, 0, none⟩, cap2, rfl, own_grown (w := w.drew) HZ.out HL.out _ (Nat.le_refl _), (below_drewN (Below.refl _ w) 1).alloc (Nat.le_refl _) _⟩
/-- A row of strings that a call reads. -/
theorem ownS_src {w : World} {base : Nat} {v : Value} {L : List ByteArray} (h : OwnS w base v L) : ∃ a c, v = .slice a L.length c ∧ (a = none → L.length = 0 ∧ c = 0) ∧ ∀ x, a = some x → ∀ j u, (strC L)[j]? = some u → w.cell? (x.add j) = some u := by
  rcases h.2 with ⟨rfl, h0⟩ | ⟨g, cap, cur, rfl, hb, hg, hn, hm, hs, ht⟩
  · exact ⟨none, 0, by rw [h0], fun _ => ⟨h0, rfl⟩, fun x e => by cases e⟩
  · refine ⟨_, cap, rfl, (fun e => by cases e), fun x e j u hu => ?_⟩
    cases e
    have hj : j < (strC L).length := (List.getElem?_eq_some_iff.1 hu).1
    rw [strC_len] at hj
    have hc := h.cellAt j (by omega)
    rw [show (⟨g, 0, none⟩ : Addr).add j = ⟨g, j, none⟩ from by cases j <;> simp [Addr.add], hc]
    exact hu
set_option maxRecDepth 100000 in
set_option maxHeartbeats 1000000 in
theorem concat_s (w : World) (p : Nat) {b1 b2 : Nat} (v1 v2 : Value) (L M : List ByteArray) (hnm : L.length + M.length ≤ 100000) (h1 : OwnS w b1 v1 L) (h2 : OwnS w b2 v2 M)
    (p0 : w.cell? ⟨p, 0, none⟩ = some v1) (p1 : w.cell? ⟨p, 1, none⟩ = some v2) :
    Calls Tryz.prog 67 #[.slice (some ⟨p, 0, none⟩) 2 2] w fun e w' => ∃ v', e = .returned v' ∧ OwnS w' w.heap.size v' (L ++ M) ∧ Below w.heap.size w w' := by
  obtain ⟨a, c, rfl, ha, -⟩ := ownS_src h1
  obtain ⟨b, d, rfl, hb, -⟩ := ownS_src h2
  have HA : Hid (a = none → L.length = 0 ∧ c = 0) := ha
  have HB9 : Hid (b = none → M.length = 0 ∧ d = 0) := hb
  have H1 : Hid (OwnS w b1 (.slice a L.length c) L) := h1
  have H2 : Hid (OwnS w b2 (.slice b M.length d) M) := h2
  obtain ⟨n, en⟩ : ∃ n, L.length = n := ⟨_, rfl⟩
  obtain ⟨m, em⟩ : ∃ m, M.length = m := ⟨_, rfl⟩
  rw [en, em] at hnm
  rw [en] at p0 ha
  rw [em] at p1 hb
  have EN : Hid (L.length = n ∧ M.length = m) := ⟨en, em⟩
  have P0 : Hid (w.cell? ⟨p, 0, none⟩ = some (.slice a n c)) := p0
  have P1 : Hid (w.cell? ⟨p, 1, none⟩ = some (.slice b m d)) := p1
  have S1 : Hid (∀ W, Below w.heap.size w W → ∀ x, a = some x → ∀ j u, (strC L)[j]? = some u → W.cell? (x.add j) = some u) := fun W hW x e j u hu => by
    obtain ⟨a', c', e', -, hs⟩ := ownS_src (ownS_later H1.out hW)
    simp only [Value.slice.injEq] at e'
    exact hs x (by rw [← e'.1]; exact e) j u hu
  have S2 : Hid (∀ W, Below w.heap.size w W → ∀ x, b = some x → ∀ j u, (strC M)[j]? = some u → W.cell? (x.add j) = some u) := fun W hW x e j u hu => by
    obtain ⟨a', c', e', -, hs⟩ := ownS_src (ownS_later H2.out hW)
    simp only [Value.slice.injEq] at e'
    exact hs x (by rw [← e'.1]; exact e) j u hu
  have hn' : (n : Int) ≤ 100000 := by omega
  have hm' : (m : Int) ≤ 100000 := by omega
  have HN : Hid (n + m ≤ 100000) := hnm
  obtain ⟨i0, hi0, hz0, hz1, hz2⟩ := info_parts slS
  have GR : Hid (∀ W, Calls Tryz.prog 87 #[.slice none 0 0, .int .i64 ((n : Int) + m)] W fun e w' => ∃ a c, e = .returned (.slice a 0 c) ∧ w'.ownsRow W.heap.size 9 1 (.slice a 0 c) 0 [] ∧ Below W.heap.size W w') := fun W => by
    have h := grow_s W (n + m) (by omega)
    rwa [Int.natCast_add] at h
  clear ha hb h1 h2 hnm en em
  go_enter Tryz.func67, Tryz.ntmps67
  go_wp2
  go_loop [3, 11] (fun sz k => (k = .int .i64 0 ∧ sz = .int .i64 0) ∨ (k = .int .i64 1 ∧ sz = .int .i64 n) ∨ (k = .int .i64 2 ∧ sz = .int .i64 ((n : Int) + m))) (fun _ k => (2 - intOf k).toNat)
  case atStart => exact .inl ⟨rfl, rfl⟩
  case round =>
    rcases hrel with ⟨rfl, rfl⟩ | ⟨rfl, rfl⟩ | ⟨rfl, rfl⟩
    · go_wp2
      go_round
      case rel => exact .inr (.inl ⟨rfl, rfl⟩)
      case measure => simp [intOf]
    · go_wp2
      go_round
      case rel => exact .inr (.inr ⟨rfl, rfl⟩)
      case measure => simp [intOf]
    · clear p0 p1
      go_wp2_with (go_at_call 87; refine (GR.out _).mono ?_; rintro e w1 ⟨a0, c0, rfl, own0, hb0⟩)
      go_loopw [6, 27] (fun l k wr => ∃ a' c', Below w.heap.size w wr ∧ ((k = .int .i64 0 ∧ l = .slice a' 0 c' ∧ wr.ownsRow w.heap.size 9 1 (.slice a' 0 c') 0 []) ∨ (k = .int .i64 1 ∧ l = .slice a' n c' ∧ wr.ownsRow w.heap.size 9 1 (.slice a' n c') n (strC L)) ∨ (k = .int .i64 2 ∧ l = .slice a' (n + m) c' ∧ wr.ownsRow w.heap.size 9 1 (.slice a' (n + m) c') (n + m) (strC L ++ strC M)))) (fun _ k _ => (2 - intOf k).toNat)
      case atStart => exact ⟨a0, c0, hb0, .inl ⟨rfl, rfl, own0⟩⟩
      case round =>
        obtain ⟨a', c', hb, hrel⟩ := hrel
        have HB : Hid (Below w.heap.size w wr) := hb
        have q0 := cell_later' P0.out hb
        have q1 := cell_later' P1.out hb
        clear hb own0 hb0
        rcases hrel with ⟨rfl, rfl, hown⟩ | ⟨rfl, rfl, hown⟩ | ⟨rfl, rfl, hown⟩
        · have HO : Hid (wr.ownsRow w.heap.size 9 1 (.slice a' 0 c') 0 []) := hown
          clear hown
          go_wp2_with (at_builtin; refine wpList_append_all _ rfl (.tmp 31) (.tmp 32) 60 rfl w.heap.size 9 i0 _ 1 16 Tryz.underlying60 hi0 hz0 hz1 hz2 rfl (by decide) (.slice a' 0 c') 0 [] rfl HO.out a n c (strC L) rfl (by rw [strC_len, EN.out.1, Nat.mul_one]) (by rw [← EN.out.1]; exact HA.out) (S1.out _ HB.out) (strC_one _) (by have := HN.out; unfold maxLen; omega) (by have := HN.out; omega) HB.out.size ?_; intro a5 c5 w5 own5 hgrow5)
          go_roundw
          case rel =>
            rw [Nat.zero_add, List.nil_append] at own5
            exact ⟨a5, c5, HB.out.grown hgrow5 HB.out.size (fun q hq => own_lt HO.out q hq), .inr (.inl ⟨rfl, by first | rfl | rw [Nat.zero_add], own5⟩)⟩
          case measure => simp [intOf]
        · have HO : Hid (wr.ownsRow w.heap.size 9 1 (.slice a' n c') n (strC L)) := hown
          clear hown
          go_wp2_with (at_builtin; refine wpList_append_all _ rfl (.tmp 31) (.tmp 32) 60 rfl w.heap.size 9 i0 _ 1 16 Tryz.underlying60 hi0 hz0 hz1 hz2 rfl (by decide) (.slice a' n c') n (strC L) rfl HO.out b m d (strC M) rfl (by rw [strC_len, EN.out.2, Nat.mul_one]) (by rw [← EN.out.2]; exact HB9.out) (S2.out _ HB.out) (strC_one _) (by have := HN.out; unfold maxLen; omega) (by have := HN.out; omega) HB.out.size ?_; intro a5 c5 w5 own5 hgrow5)
          go_roundw
          case rel => exact ⟨a5, c5, HB.out.grown hgrow5 HB.out.size (fun q hq => own_lt HO.out q hq), .inr (.inr ⟨rfl, rfl, own5⟩)⟩
          case measure => simp [intOf]
        · go_wp2
          go_ret
          refine ⟨_, rfl, ?_, HB.out⟩
          unfold OwnS
          rw [List.length_append, EN.out.1, EN.out.2, strC, List.map_append]
          exact hown
open Go.ChangeShapes Go.WideShapes Go.ChangeAt Go.RowKit Go.Sort Go.Shelf
set_option linter.unusedVariables false
set_option linter.unusedSimpArgs false
def namesOk (o : ObjM) : Prop := (namesL o).Nodup ∧ notesOk o
theorem add0 (g j : Nat) : (⟨g, 0, none⟩ : Addr).add j = ⟨g, j, none⟩ := by cases j <;> simp [Addr.add]
/-- The cell of a new block of one. -/
theorem new_one (w : World) (x : Value) (t : TypeId) : ∀ j u, ([x] : List Value)[j]? = some u → (w.alloc (.cells #[x] t)).cell? ((⟨w.heap.size, 0, none⟩ : Addr).add j) = some u := fun j u h => by
  rw [add0]; exact new_cell' w #[x] t j u (by simpa using h)
theorem take_names {α : Type} {l : List α} {k : Nat} {x : α} (f : α → ByteArray) (h : l[k]? = some x) : ((l.map f).take k).length = k ∧ (l.map f).take (k + 1) = (l.map f).take k ++ [f x] := by
  have hk := (List.getElem?_eq_some_iff.1 h).1
  refine ⟨by rw [List.length_take, List.length_map]; omega, ?_⟩
  rw [List.take_add_one, List.getElem?_map, h]
  rfl
/-- One name more. -/
theorem ownS_more {w : World} {base : Nat} {v : Value} {L : List ByteArray} {x : ByteArray} (h : w.ownsRow base 9 1 v (L.length + 1) (strC L ++ [.string x])) : OwnS w base v (L ++ [x]) := by
  unfold OwnS
  rw [List.length_append, strC, List.map_append]
  exact h
section
variable {A : Nat → Prop} {w : World} {u v : Value}
set_option maxRecDepth 100000 in
set_option maxHeartbeats 4000000 in
theorem named_obj {o : ObjM} (h : IsObj A w u o) (hfew : fewO o) : Calls Tryz.prog 50 #[u] w fun e w' => Says e (namesOk o) ∧ Below w.heap.size w w' := by
  obtain ⟨vf, vd, vn, rfl, hf, hd, hn⟩ := h
  obtain ⟨fa, fc, rfl, -, -, fx⟩ := LstA.open hf
  obtain ⟨da, dc, rfl, -, -, dx⟩ := LstA.open hd
  obtain ⟨na, nc, rfl, -, -, nx⟩ := LstA.open hn
  have hF := hfew.1.1
  have hD := hfew.1.2.1
  have hN := hfew.1.2.2
  obtain ⟨F, eF⟩ : ∃ F, o.funcs.length = F := ⟨_, rfl⟩
  obtain ⟨D, eD⟩ : ∃ D, o.datas.length = D := ⟨_, rfl⟩
  obtain ⟨N, eN⟩ : ∃ N, o.notes.length = N := ⟨_, rfl⟩
  rw [eF] at hF fx ⊢
  rw [eD] at hD dx ⊢
  rw [eN] at hN nx ⊢
  have EF : Hid (o.funcs.length = F ∧ o.datas.length = D ∧ o.notes.length = N ∧ F ≤ 70 ∧ D ≤ 70 ∧ N ≤ 70) := ⟨eF, eD, eN, hF, hD, hN⟩
  have FX : Hid (∀ k, k < F → ∃ b off x, fa = some ⟨b, off, none⟩ ∧ A b ∧ o.funcs[k]? = some x ∧ FuncAt A w b (off + k * 4) x) := fx
  have DX : Hid (∀ k, k < D → ∃ b off x, da = some ⟨b, off, none⟩ ∧ A b ∧ o.datas[k]? = some x ∧ DataAt A w b (off + k * 7) x) := dx
  have NX : Hid (∀ k, k < N → ∃ b off x, na = some ⟨b, off, none⟩ ∧ A b ∧ o.notes[k]? = some x ∧ NoteAt w b (off + k * 2) x) := nx
  have hF' : (F : Int) ≤ 70 := by omega
  have hD' : (D : Int) ≤ 70 := by omega
  have hN' : (N : Int) ≤ 70 := by omega
  have UP : Hid (Below w.heap.size w (w.alloc (.cells #[.slice fa F fc, .slice da D dc, .slice na N nc] 34))) := keep_alloc8 (Below.refl _ _) _
  have X1 : Hid (XAt (w.alloc (.cells #[.slice fa F fc, .slice da D dc, .slice na N nc] 34)) w.heap.size [.slice fa F fc, .slice da D dc, .slice na N nc]) := XAt.new _ _ _
  obtain ⟨i0, hi, hz0, hz1, hz2⟩ := info_parts slS
  obtain ⟨FN, eFN⟩ : ∃ FN, FN = o.funcs.map (·.name) := ⟨_, rfl⟩
  obtain ⟨DN, eDN⟩ : ∃ DN, DN = o.datas.map (·.name) := ⟨_, rfl⟩
  have TF : Hid (∀ k x, o.funcs[k]? = some x → (FN.take k).length = k ∧ FN.take (k + 1) = FN.take k ++ [x.name]) := fun k x h => by rw [eFN]; exact take_names (·.name) h
  have TD : Hid (∀ k x, o.datas[k]? = some x → (DN.take k).length = k ∧ DN.take (k + 1) = DN.take k ++ [x.name]) := fun k x h => by rw [eDN]; exact take_names (·.name) h
  have LF : Hid (FN.length = F ∧ FN.take F = FN) := by rw [eFN, ← eF]; exact ⟨by simp, by rw [List.take_of_length_le (by simp)]⟩
  have LD : Hid (DN.length = D ∧ DN.take D = DN) := by rw [eDN, ← eD]; exact ⟨by simp, by rw [List.take_of_length_le (by simp)]⟩
  have HP : Hid (namesOk o ↔ (FN ++ DN).Nodup ∧ ∀ n ∈ o.notes, n.name ∈ FN) := by unfold Hid; rw [eFN, eDN]; exact Iff.rfl
  clear hf hd hn eF eD eN fx dx nx hF hD hN hfew eFN eDN
  go_enter Tryz.func50, Tryz.ntmps50
  go_upto_region 1 with fail
  generalize w.alloc (.cells #[.slice fa F fc, .slice da D dc, .slice na N nc] 34) = w0 at UP X1 ⊢
  have hX : Hid (w.heap.size < w0.heap.size) := X1.out.lt (by simp)
  have y0 := X1.out.1 0 _ rfl
  go_wp2
  clear y0
  go_loopw [15, 3] (fun i v wr => ∃ k : Nat, k ≤ F ∧ i = .int .i64 k ∧ OwnS wr w0.heap.size v (FN.take k) ∧ Below w0.heap.size w0 wr) (fun i _ _ => F - (intOf i).toNat)
  case atStart => exact ⟨0, Nat.zero_le _, rfl, ownS_nil _ _, Below.refl _ _⟩
  case round =>
    obtain ⟨k, hk, rfl, hown, hbel⟩ := hrel
    have HB : Hid (Below w0.heap.size w0 wr) := hbel
    have HO : Hid (OwnS wr w0.heap.size u3 (FN.take k)) := hown
    clear hbel hown
    by_cases hlt : k < F
    · have hlt' : (k : Int) < F := by omega
      obtain ⟨b, off, ⟨xn, xb, lc, lr⟩, rfl, -, hx, vc, vr, x0, x1, x2, x3, wc, wr', -⟩ := FX.out k hlt
      dsimp only at x0 x1 wc wr'
      obtain ⟨ca, cc, rfl, -, -, -⟩ := LstA.open wc.1
      obtain ⟨ra, rc, rfl, -, -, -⟩ := LstA.open wr'
      have T1 : Hid ((FN.take k).length = k ∧ FN.take (k + 1) = FN.take k ++ [xn]) := TF.out k _ hx
      replace x0 := cell_any x0 (bnext UP.out HB.out)
      replace x1 := cell_any x1 (bnext UP.out HB.out)
      replace x2 := cell_any x2 (bnext UP.out HB.out)
      replace x3 := cell_any x3 (bnext UP.out HB.out)
      clear hx wc wr'
      generalize FN.take k = T at HO T1
      go_upto_region 5 with fail
      have B2 : Hid (Below w0.heap.size w0 (wr.alloc (.cells #[.string xn, .int .i64 xb, .slice ca lc.length cc, .slice ra lr.length rc] 25))) := keep_alloc8 HB.out _
      have X3 : Hid (XAt (wr.alloc (.cells #[.string xn, .int .i64 xb, .slice ca lc.length cc, .slice ra lr.length rc] 25)) wr.heap.size [.string xn, .int .i64 xb, .slice ca lc.length cc, .slice ra lr.length rc]) := XAt.new _ _ _
      have HO2 : Hid (OwnS (wr.alloc (.cells #[.string xn, .int .i64 xb, .slice ca lc.length cc, .slice ra lr.length rc] 25)) w0.heap.size u3 T) := ownS_later HO.out (keep_alloc8 (Below.refl _ _) _)
      generalize wr.alloc (.cells #[.string xn, .int .i64 xb, .slice ca lc.length cc, .slice ra lr.length rc] 25) = w2 at B2 X3 HO2 ⊢
      clear x0 x1 x2 x3
      have x0 := X3.out.1 0 _ rfl
      go_wp2_with (at_builtin; refine wpList_append_own _ rfl _ _ 60 rfl w0.heap.size 9 i0 _ 1 16 Tryz.underlying60 hi hz0 hz1 hz2 rfl (by decide) _ _ _ rfl ((show w2.ownsRow w0.heap.size 9 1 u3 T.length (strC T) from HO2.out).alloc _) ⟨w2.heap.size, 0, none⟩ 1 1 [.string xn] rfl rfl ?c1 ?c2 ?c3 ?c4 ?c5 ?_)
      case c1 => exact new_one w2 (.string xn) 9
      case c2 => intro u hu; simp at hu; subst hu; rfl
      case c3 => have := T1.out.1; unfold maxLen; omega
      case c4 => have := T1.out.1; omega
      case c5 => have := B2.out.size; simp; omega
      intro v5 w5 own5 gr5 _
      have HB5 : Hid (Below w0.heap.size w0 w5) := (keep_alloc8 B2.out (.cells #[.string xn] 9)).grown gr5 (by have := B2.out.size; simp; omega) (fun q hq => (HO2.out.lt q hq).1)
      have HO5 : Hid (OwnS w5 w0.heap.size v5 (FN.take (k + 1))) := by unfold Hid; rw [T1.out.2]; exact ownS_more own5
      clear own5 gr5
      go_wp2
      go_roundw
      case rel => exact ⟨k + 1, by omega, by go_num, HO5.out, HB5.out⟩
      case measure => simp [intOf]; omega
    · obtain rfl : k = F := by omega
      have OF : Hid (OwnS wr w0.heap.size u3 FN) := by have h := HO.out; rwa [LF.out.2] at h
      have y1 := (X1.out.later hX.out HB.out).1 1 _ rfl
      clear HO
      go_wp2
      clear y1
      generalize wr = wa at HB OF ⊢
      go_loopw [28, 4] (fun i v wr => ∃ j : Nat, j ≤ D ∧ i = .int .i64 j ∧ OwnS wr wa.heap.size v (DN.take j) ∧ Below wa.heap.size wa wr) (fun i _ _ => D - (intOf i).toNat)
      case atStart => exact ⟨0, Nat.zero_le _, rfl, ownS_nil _ _, Below.refl _ _⟩
      case round =>
        obtain ⟨j, hj, rfl, hown, hbel⟩ := hrel
        have HC : Hid (Below wa.heap.size wa wr) := hbel
        have HO : Hid (OwnS wr wa.heap.size u4 (DN.take j)) := hown
        clear hbel hown
        by_cases hlt2 : j < D
        · have hlt2' : (j : Int) < D := by omega
          obtain ⟨b, off, ⟨xn, xb, xa, xf, xz, lb, lr⟩, rfl, -, hx, vb, vr, x0, x1, x2, x3, x4, x5, x6, wb, wr', -⟩ := DX.out j hlt2
          dsimp only at x0 x1 x2 x3 x4 wb wr'
          obtain ⟨ca, cc, rfl, -, -, -⟩ := LstA.open wb.1
          obtain ⟨ra, rc, rfl, -, -, -⟩ := LstA.open wr'
          have T1 : Hid ((DN.take j).length = j ∧ DN.take (j + 1) = DN.take j ++ [xn]) := TD.out j _ hx
          have B1 := bnext (bnext UP.out HB.out) HC.out
          replace x0 := cell_any x0 B1
          replace x1 := cell_any x1 B1
          replace x2 := cell_any x2 B1
          replace x3 := cell_any x3 B1
          replace x4 := cell_any x4 B1
          replace x5 := cell_any x5 B1
          replace x6 := cell_any x6 B1
          clear hx wb wr' B1
          generalize DN.take j = T at HO T1
          go_upto_region 10 with fail
          have B2 : Hid (Below wa.heap.size wa (wr.alloc (.cells #[.string xn, .int .i64 xb, .int .i64 xa, .bool xf, .int .i64 xz, .slice ca lb.length cc, .slice ra lr.length rc] 48))) := keep_alloc8 HC.out _
          have X3 : Hid (XAt (wr.alloc (.cells #[.string xn, .int .i64 xb, .int .i64 xa, .bool xf, .int .i64 xz, .slice ca lb.length cc, .slice ra lr.length rc] 48)) wr.heap.size [.string xn, .int .i64 xb, .int .i64 xa, .bool xf, .int .i64 xz, .slice ca lb.length cc, .slice ra lr.length rc]) := XAt.new _ _ _
          have HO2 : Hid (OwnS (wr.alloc (.cells #[.string xn, .int .i64 xb, .int .i64 xa, .bool xf, .int .i64 xz, .slice ca lb.length cc, .slice ra lr.length rc] 48)) wa.heap.size u4 T) := ownS_later HO.out (keep_alloc8 (Below.refl _ _) _)
          generalize wr.alloc (.cells #[.string xn, .int .i64 xb, .int .i64 xa, .bool xf, .int .i64 xz, .slice ca lb.length cc, .slice ra lr.length rc] 48) = w2 at B2 X3 HO2 ⊢
          clear x0 x1 x2 x3 x4 x5 x6
          have x0 := X3.out.1 0 _ rfl
          go_wp2_with (at_builtin; refine wpList_append_own _ rfl _ _ 60 rfl wa.heap.size 9 i0 _ 1 16 Tryz.underlying60 hi hz0 hz1 hz2 rfl (by decide) _ _ _ rfl ((show w2.ownsRow wa.heap.size 9 1 u4 T.length (strC T) from HO2.out).alloc _) ⟨w2.heap.size, 0, none⟩ 1 1 [.string xn] rfl rfl ?c1 ?c2 ?c3 ?c4 ?c5 ?_)
          case c1 => exact new_one w2 (.string xn) 9
          case c2 => intro u hu; simp at hu; subst hu; rfl
          case c3 => have := T1.out.1; unfold maxLen; omega
          case c4 => have := T1.out.1; omega
          case c5 => have := B2.out.size; simp; omega
          intro v5 w5 own5 gr5 _
          have HB5 : Hid (Below wa.heap.size wa w5) := (keep_alloc8 B2.out (.cells #[.string xn] 9)).grown gr5 (by have := B2.out.size; simp; omega) (fun q hq => (HO2.out.lt q hq).1)
          have HO5 : Hid (OwnS w5 wa.heap.size v5 (DN.take (j + 1))) := by unfold Hid; rw [T1.out.2]; exact ownS_more own5
          clear own5 gr5
          go_wp2
          go_roundw
          case rel => exact ⟨j + 1, by omega, by go_num, HO5.out, HB5.out⟩
          case measure => simp [intOf]; omega
        · obtain rfl : j = D := by omega
          have OD : Hid (OwnS wr wa.heap.size u4 DN) := by have h := HO.out; rwa [LD.out.2] at h
          have OF2 : Hid (OwnS wr w0.heap.size u3 FN) := ownS_later OF.out HC.out
          have HB2 : Hid (Below w0.heap.size w0 wr) := bnext HB.out HC.out
          have y2 := (X1.out.later hX.out HB2.out).1 2 _ rfl
          clear HO OF HB HC
          go_wp2
          clear y2
          generalize wr = wb at HB2 OF2 OD ⊢
          go_loopw [41] (fun i wr => ∃ q : Nat, q ≤ N ∧ i = .int .i64 q ∧ (∀ t y, t < q → o.notes[t]? = some y → y.name ∈ FN) ∧ Below wb.heap.size wb wr) (fun i _ => N - (intOf i).toNat)
          case atStart => exact ⟨0, Nat.zero_le _, rfl, (fun t y ht => by omega), Below.refl _ _⟩
          case round =>
            obtain ⟨q, hq, rfl, hs, hbel⟩ := hrel
            have HC : Hid (Below wb.heap.size wb wr) := hbel
            have HS : Hid (∀ t y, t < q → o.notes[t]? = some y → y.name ∈ FN) := hs
            clear hbel hs
            by_cases hlt3 : q < N
            · have hlt3' : (q : Int) < N := by omega
              obtain ⟨b, off, ⟨xn, xk⟩, rfl, -, hx, x0, x1, -⟩ := NX.out q hlt3
              dsimp only at x0 x1
              have HX : Hid (o.notes[q]? = some ⟨xn, xk⟩) := hx
              have B1 := bnext (bnext UP.out HB2.out) HC.out
              replace x0 := cell_any x0 B1
              replace x1 := cell_any x1 B1
              clear hx B1
              go_upto_region 15 with fail
              have B2 : Hid (Below wb.heap.size wb (wr.alloc (.cells #[.string xn, .int .i64 xk] 63))) := keep_alloc8 HC.out _
              have X3 : Hid (XAt (wr.alloc (.cells #[.string xn, .int .i64 xk] 63)) wr.heap.size [.string xn, .int .i64 xk]) := XAt.new _ _ _
              generalize wr.alloc (.cells #[.string xn, .int .i64 xk] 63) = w2 at B2 X3 ⊢
              clear x0 x1
              have x0 := X3.out.1 0 _ rfl
              obtain ⟨c, I⟩ := bool_of (xn ∈ FN)
              have CN : Hid (Calls Tryz.prog 66 #[u3, .string xn] w2 fun e w' => e = .returned (.bool c) ∧ w' = w2) := (contains_s (ownS_later OF2.out B2.out) (by have := LF.out.1; have := EF.out; omega) xn).mono fun e w' h => ⟨says_is h.1 I.out, h.2⟩
              cases c
              · go_wp2_with (go_at_call 66; refine (CN.out).mono ?_; rintro e w3 ⟨rfl, rfl⟩)
                go_ret
                exact ⟨⟨_, rfl, iff_no fun h => by have h1 := (HP.out.1 h).2 _ (List.mem_of_getElem? HX.out); have h2 := I.out.2 h1; cases h2⟩, bnext (bnext UP.out HB2.out) B2.out⟩
              · go_wp2_with (go_at_call 66; refine (CN.out).mono ?_; rintro e w3 ⟨rfl, rfl⟩)
                go_roundw
                case rel => exact ⟨q + 1, by omega, by go_num, upto_next HS.out HX.out (I.out.1 (by first | rfl | trivial)), B2.out⟩
                case measure => simp [intOf]; omega
            · obtain rfl : q = N := by omega
              have HA : Hid (∀ n ∈ o.notes, n.name ∈ FN) := upto_all (α := NoteM) (P := fun n : NoteM => n.name ∈ FN) (by rw [EF.out.2.2.1]; exact HS.out)
              have CC : Hid (∀ W p, Below wr.heap.size wr W → W.cell? ⟨p, 0, none⟩ = some u3 → W.cell? ⟨p, 1, none⟩ = some u4 → Calls Tryz.prog 67 #[.slice (some ⟨p, 0, none⟩) 2 2] W fun e w' => ∃ v', e = .returned v' ∧ OwnS w' W.heap.size v' (FN ++ DN) ∧ Below W.heap.size W w') := fun W p hW p0 p1 => concat_s W p u3 u4 FN DN (by have := LF.out.1; have := LD.out.1; have := EF.out; omega) (ownS_later OF2.out (bnext HC.out hW)) (ownS_later OD.out (bnext HC.out hW)) p0 p1
              have hl : (FN ++ DN).length ≤ 100000 := by rw [List.length_append]; have := LF.out.1; have := LD.out.1; have := EF.out; omega
              have HL : Hid ((FN ++ DN).length ≤ 100000) := hl
              clear hl HS
              obtain ⟨oa, oc, ou, -, -⟩ := ownS_src OF2.out
              obtain ⟨pa, pc, pu, -, -⟩ := ownS_src OD.out
              subst ou pu
              go_upto_region 19 with (go_at_call 67; refine (CC.out _ _ (keep_alloc8 (Below.refl _ _) _) (new_cell' _ _ _ 0 _ rfl) (new_cell' _ _ _ 1 _ rfl)).mono ?_; rintro e w3 ⟨v3, rfl, o3, b3⟩)
              have B3 : Hid (Below wr.heap.size wr w3) := bnext (keep_alloc8 (Below.refl _ _) _) b3
              have O3 : Hid (OwnS w3 wr.heap.size v3 (FN ++ DN)) := own_mono o3 (by simp)
              clear o3 b3
              obtain ⟨qa, qc, qu, -, -⟩ := ownS_src O3.out
              subst qu
              have SO := sort_s O3.out HL.out
              obtain ⟨ND, eND⟩ : ∃ ND, ND = FN ++ DN := ⟨_, rfl⟩
              rw [← eND] at SO HL HP
              rw [← eND]
              clear eND O3 CC
              have CO : Hid (∀ W, SortedS W wr.heap.size (.slice qa ND.length qc) ND → Calls Tryz.prog 69 #[.slice qa ND.length qc] W fun e w' => ∃ a k cap, e = .returned (.slice a k cap) ∧ (k = ND.length ↔ ND.Nodup) ∧ k ≤ 100000 ∧ Below wr.heap.size W w') := fun W h => compact_s h HL.out
              generalize ND.length = L at SO CO HL ⊢
              have SO' : Hid (Calls Tryz.prog 68 #[.slice qa L qc] w3 fun e w' => e = .returned (.tuple #[]) ∧ SortedS w' wr.heap.size (.slice qa L qc) ND ∧ Below wr.heap.size w3 w') := SO
              clear SO
              go_upto_region 20 with (go_at_call 68; refine (SO'.out).mono ?_; rintro e w4 ⟨rfl, s4, b4⟩)
              have B4 : Hid (Below wr.heap.size wr w4) := B3.out.trans b4
              have C4 := CO.out _ s4
              have C4' : Hid (Calls Tryz.prog 69 #[.slice qa L qc] w4 fun e w' => ∃ a k cap, e = .returned (.slice a k cap) ∧ (k = L ↔ ND.Nodup) ∧ k ≤ 100000 ∧ Below wr.heap.size w4 w') := C4
              clear C4 b4 s4 CO
              go_wp2_with (go_at_call 69; refine (C4'.out).mono ?_; rintro e w5 ⟨a5, k5, c5, rfl, hk5, hl5, b5⟩; have K5 := Hid.mk0 hk5; clear hk5)
              go_ret
              refine ⟨⟨_, rfl, ?_⟩, bnext (bnext UP.out HB2.out) (bnext HC.out (B4.out.trans b5))⟩
              rw [HP.out]
              refine ⟨fun h => ⟨K5.out.1 ?_, HA.out⟩, fun h => ?_⟩
              · have h1 : (k5 : Int) = (L : Int) := by simpa using h
                omega
              · have := K5.out.2 h.1; simp [this]
end
end Go.Proofs.YtnejpldbokodaaaGreatDoor
