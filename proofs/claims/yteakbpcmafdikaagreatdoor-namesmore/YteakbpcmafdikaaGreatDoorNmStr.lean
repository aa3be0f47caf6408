/- What is sorted and made compact is as long as before just where no two are alike. No condition. Slices of strings that a call has made: what the library's Grow, Concat, Sort, Compact and Contains leave of them, and answer. -/
import Derived.Lib.SlicesCompact
import Derived.Test.YteakbpcmafdikaaGreatDoorShelf
import Derived.Test.YteakbpcmafdikaaGreatDoorNmBase
import Derived.Test.YteakbpcmafdikaaGreatDoorObjRt1
namespace Go.Proofs.YteakbpcmafdikaaGreatDoor
set_option linter.unusedVariables false
set_option linter.unusedSimpArgs false
theorem str_trans : ∀ a b c : List UInt8, decide (a ≤ b) = true → decide (b ≤ c) = true → decide (a ≤ c) = true := fun a b c h1 h2 => by simp only [decide_eq_true_eq] at *; exact List.le_trans h1 h2
theorem str_total : ∀ a b : List UInt8, (decide (a ≤ b) || decide (b ≤ a)) = true := fun a b => by simp only [Bool.or_eq_true, decide_eq_true_eq]; exact List.le_total a b
theorem compact_len (zs : List (List UInt8)) : (Go.Lib.compact zs).length = zs.length ↔ ∀ j, j + 1 < zs.length → zs[j + 1]? ≠ zs[j]? := by
  unfold Go.Lib.compact Go.Lib.compactUpTo
  rw [List.length_map]
  constructor
  · intro h j hj he
    have h1 : ((List.range zs.length).filter (Go.Lib.keeps zs.toArray)).length = (List.range zs.length).length := by rw [h]; simp
    rw [List.length_filter_eq_length_iff] at h1
    have h2 := h1 (j + 1) (by simp; omega)
    unfold Go.Lib.keeps at h2
    simp only [decide_eq_true_eq] at h2
    rcases h2 with h2 | h2
    · omega
    · refine h2 ?_
      rw [List.getElem?_eq_getElem hj, List.getElem?_eq_getElem (by omega)] at he
      simp only [Option.some.injEq] at he
      rw [Nat.add_sub_cancel, getElem!_pos _ (j + 1) (by simpa using hj), getElem!_pos _ j (by simp; omega)]
      simpa using he
  · intro h
    have h1 : ((List.range zs.length).filter (Go.Lib.keeps zs.toArray)).length = (List.range zs.length).length := by
      rw [List.length_filter_eq_length_iff]
      intro j hj
      have hj' : j < zs.length := by simpa using hj
      unfold Go.Lib.keeps
      simp only [decide_eq_true_eq]
      cases j with
      | zero => exact .inl rfl
      | succ j =>
        refine .inr fun he => h j hj' ?_
        rw [Nat.add_sub_cancel, getElem!_pos _ (j + 1) (by simpa using hj'), getElem!_pos _ j (by simp; omega)] at he
        rw [List.getElem?_eq_getElem hj', List.getElem?_eq_getElem (by omega)]
        simpa using he
    rw [h1]; simp
theorem sorted_nodup {l : List (List UInt8)} (hp : l.Pairwise (fun a b => decide (a ≤ b) = true)) : (∀ j, j + 1 < l.length → l[j + 1]? ≠ l[j]?) ↔ l.Nodup := by
  constructor
  · intro h
    rw [List.nodup_iff_pairwise_ne, List.pairwise_iff_getElem]
    rw [List.pairwise_iff_getElem] at hp
    intro i j hi hj hij he
    have h1 := hp i (i + 1) hi (by omega) (by omega)
    refine h i (by omega) ?_
    rw [List.getElem?_eq_getElem (by omega), List.getElem?_eq_getElem hi]
    congr 1
    simp only [decide_eq_true_eq] at h1
    refine List.le_antisymm ?_ h1
    by_cases e : i + 1 = j
    · subst e; rw [← he]; exact List.le_refl _
    · have h2 := hp (i + 1) j (by omega) hj (by omega)
      simp only [decide_eq_true_eq] at h2
      rw [he]; exact h2
  · intro h j hj he
    rw [List.nodup_iff_pairwise_ne, List.pairwise_iff_getElem] at h
    rw [List.getElem?_eq_getElem hj, List.getElem?_eq_getElem (by omega)] at he
    simp only [Option.some.injEq] at he
    exact h j (j + 1) (by omega) hj (by omega) he.symm
/-- Sorted and made compact: as long as before just where no two are alike. -/
theorem sort_compact (zs : List (List UInt8)) : (Go.Lib.compact (zs.mergeSort fun x y => decide (x ≤ y))).length = zs.length ↔ zs.Nodup := by
  have e : zs.length = (zs.mergeSort fun x y => decide (x ≤ y)).length := (List.length_mergeSort _).symm
  rw [e, compact_len, sorted_nodup (List.pairwise_mergeSort str_trans str_total zs)]
  exact (List.mergeSort_perm zs _).nodup_iff
open Go.ChangeShapes Go.WideShapes Go.ChangeAt Go.RowKit Go.Sort Go.Shelf
set_option linter.unusedVariables false
set_option linter.unusedSimpArgs false
theorem slS : (Tryz.prog.info? 9).map (fun i => (i.zero, i.size, i.bytes)) = some (some (.string ⟨#[]⟩), 1, 16) := by kernel_rfl
abbrev strC (L : List ByteArray) : List Value := L.map Value.string
def strsL (L : List ByteArray) : List (List UInt8) := L.map fun t => t.data.toList
theorem strC_len (L : List ByteArray) : (strC L).length = L.length := by simp
theorem strC_one (L : List ByteArray) : ∀ u ∈ strC L, u.oneCell' = true := fun u hu => by obtain ⟨t, _, rfl⟩ := List.mem_map.1 hu; rfl
theorem strsL_len (L : List ByteArray) : (strsL L).length = L.length := by simp [strsL]
theorem strsL_nodup (L : List ByteArray) : (strsL L).Nodup ↔ L.Nodup := by
  unfold strsL
  rw [List.nodup_iff_pairwise_ne, List.nodup_iff_pairwise_ne, List.pairwise_map]
  refine List.Pairwise.iff fun {a b} => ?_
  obtain ⟨⟨a⟩⟩ := a; obtain ⟨⟨b⟩⟩ := b
  simp
/-- An own row of strings. -/
def OwnS (w : World) (base : Nat) (v : Value) (L : List ByteArray) : Prop := w.ownsRow base 9 1 v L.length (strC L)
theorem ownS_later {w w1 : World} {base : Nat} {v : Value} {L : List ByteArray} (h : OwnS w base v L) (hb : Below w.heap.size w w1) : OwnS w1 base v L :=
  h.kept (row := none) ⟨hb.os, hb.tape, hb.output, hb.size, fun k hk _ => hb.block k hk⟩ (by cases hv : v.ownBlock <;> simp)
theorem ownS_nil (w : World) (base : Nat) : OwnS w base (.slice none 0 0) [] := World.ownsRow_nil _ _ _ _
theorem ownS_form {w : World} {base : Nat} {v : Value} {L : List ByteArray} (h : OwnS w base v L) : (L = [] ∧ ∃ a cap, v = .slice a 0 cap ∧ (∀ x, a = some x → base ≤ x.block ∧ x.block < w.heap.size) ∧ Head a 0 cap) ∨ ∃ g cap, v = .slice (some ⟨g, 0, none⟩) L.length cap ∧ base ≤ g ∧ g < w.heap.size ∧ L.length ≤ cap ∧ Holds encStr w g 0 (strsL L).toArray := by
  rcases h.2 with ⟨rfl, h0⟩ | ⟨g, cap, cur, rfl, hb, hg, hn, hm, hs, ht⟩
  · exact .inl ⟨List.eq_nil_of_length_eq_zero h0, none, 0, rfl, (fun x e => by cases e), ⟨Nat.le_refl _, fun _ => rfl⟩⟩
  · refine .inr ⟨g, cap, rfl, hb, (Array.getElem?_eq_some_iff.1 hg).1, hn, fun j hj => ?_⟩
    have hj' : j < L.length := by simpa [strsL] using hj
    refine ⟨?_, by simp [World.frozen?, hg]⟩
    have hc := h.cellAt j (by omega)
    rw [Nat.zero_add, hc, getElem!_pos _ j hj]
    simp [strsL, hj', encStr]
theorem below_putS (w : World) (n g off : Nat) (d : Array (List UInt8)) : Below g w (putRow encStr (Sort.ahead w n) g off d) := by
  refine ⟨rfl, rfl, rfl, by simp, fun k hk => ?_⟩
  unfold putRow mapBlock
  simp only [Array.getElem?_modify]
  rw [if_neg (by omega)]; rfl
theorem below_growS (w : World) (os : Array Obj) (g : Nat) (hg : g ≤ w.heap.size) : Below g w (grow w os) :=
  ⟨rfl, rfl, rfl, by simp, fun k hk => heap_grow_old w os (by omega)⟩
/-- It holds what was sorted of L. -/
def SortedS (w : World) (base : Nat) (v : Value) (L : List ByteArray) : Prop :=
  (L = [] ∧ ∃ a cap, v = .slice a 0 cap) ∨ ∃ g cap, v = .slice (some ⟨g, 0, none⟩) L.length cap ∧ base ≤ g ∧ L.length ≤ cap ∧ Holds encStr w g 0 ((strsL L).mergeSort fun x y => decide (x ≤ y)).toArray
theorem sort_s {w : World} {base : Nat} {v : Value} {L : List ByteArray} (h : OwnS w base v L) (hL : L.length ≤ 100000) :
    Calls Tryz.prog 91 #[v] w fun e w' => e = .returned (.tuple #[]) ∧ SortedS w' base v L ∧ Below base w w' := by
  rcases ownS_form h with ⟨rfl, a, cap, rfl, -, -⟩ | ⟨g, cap, rfl, hb, hg, hc, hH⟩
  · refine (Tryz.slices_Sort_string_none a cap w).mono ?_
    rintro e w' ⟨rfl, rfl⟩
    exact ⟨rfl, .inl ⟨rfl, a, cap, rfl⟩, Below.refl _ _⟩
  · have hl := strsL_len L
    have k := Tryz.slices_Sort_string g 0 cap (strsL L) w hH hg (by omega)
    rw [hl] at k
    refine k.mono ?_
    rintro e w' ⟨rfl, n, os, rfl⟩
    refine ⟨rfl, .inr ⟨g, cap, rfl, hb, hc, ?_⟩, ?_⟩
    · refine holds_grow _ _ _ _ _ _ (by simpa using hg) ?_
      exact holds_putRow encStr _ g 0 (strsL L).toArray _ (holds_ahead encStr w n g 0 _ hH) (by simp)
    · exact ((below_putS w n g 0 _).trans (below_growS _ _ _ (by simp; omega))).mono hb
theorem compact_s {w : World} {base : Nat} {v : Value} {L : List ByteArray} (h : SortedS w base v L) (hL : L.length ≤ 100000) :
    Calls Tryz.prog 92 #[v] w fun e w' => ∃ a k cap, e = .returned (.slice a k cap) ∧ (k = L.length ↔ L.Nodup) ∧ k ≤ 100000 ∧ Below base w w' := by
  rcases h with ⟨rfl, a, cap, rfl⟩ | ⟨g, cap, rfl, hb, hc, hH⟩
  · refine (Tryz.slices_Compact_string_empty a cap w).mono ?_
    rintro e w' ⟨rfl, rfl⟩
    exact ⟨a, 0, cap, rfl, by simp, by omega, Below.refl _ _⟩
  · have hl : ((strsL L).mergeSort fun x y => decide (x ≤ y)).length = L.length := by rw [List.length_mergeSort, strsL_len]
    have hs := sort_compact (strsL L)
    rw [strsL_len, strsL_nodup] at hs
    have k := Tryz.slices_Compact_string g 0 cap ((strsL L).mergeSort fun x y => decide (x ≤ y)) w hH (by omega) (by omega)
    rw [hl] at k
    refine k.mono ?_
    rintro e w' ⟨rfl, q, rfl⟩
    refine ⟨_, _, _, rfl, hs, ?_, (below_putS w q g 0 _).mono hb⟩
    have : (Go.Lib.compact ((strsL L).mergeSort fun x y => decide (x ≤ y))).length ≤ L.length := by
      unfold Go.Lib.compact Go.Lib.compactUpTo
      rw [List.length_map]
      exact Nat.le_trans (List.length_filter_le _ _) (by simp [strsL_len])
    omega
theorem contains_s {w : World} {base : Nat} {v : Value} {L : List ByteArray} (h : OwnS w base v L) (hL : L.length ≤ 100000) (x : ByteArray) :
    Calls Tryz.prog 89 #[v, .string x] w fun e w' => Says e (x ∈ L) ∧ w' = w := by
  rcases h.2 with ⟨rfl, h0⟩ | ⟨g, cap, cur, rfl, hb, hg, hn, hm, hs, ht⟩
  · obtain rfl := List.eq_nil_of_length_eq_zero h0
    refine (Tryz.slices_Contains_string_empty none 0 x w).mono ?_
    rintro e w' ⟨rfl, rfl⟩
    exact ⟨⟨_, rfl, iff_no (by simp)⟩, rfl⟩
  · refine (Tryz.slices_Contains_string g 0 L.length cap L x w (Nat.le_refl _) (by omega) (fun j hj => ?_)).mono ?_
    · have hc := h.cellAt j (by omega)
      rw [Nat.zero_add, hc]
      simp [strC, hj]
    · rintro e w' ⟨rfl, rfl⟩
      refine ⟨⟨_, rfl, ?_⟩, rfl⟩
      rw [List.take_length]
      exact Go.Lib.containsS_iff L x
set_option maxRecDepth 100000 in
set_option maxHeartbeats 1000000 in
theorem grow_s (w : World) (n : Nat) (hn : n ≤ 100000) :
    Calls Tryz.prog 117 #[.slice none 0 0, .int .i64 n] w fun e w' => ∃ a c, e = .returned (.slice a 0 c) ∧ w'.ownsRow w.heap.size 9 1 (.slice a 0 c) 0 [] ∧ Below w.heap.size w w' := by
  by_cases h0 : n = 0
  · subst h0
    go_enter Tryz.func117, Tryz.ntmps117
    go_wp2
    go_ret
    exact ⟨none, 0, rfl, own_none, Below.refl _ _⟩
  · have hn0 : 0 < (n : Int) := by omega
    have hn1 : (n : Int) ≤ 100000 := by omega
    obtain ⟨i0, hi, hz0, hz1, hz2⟩ := info_parts slS
    have happ := fun ty => Lib.run_append_nil_zeros (P := Tryz.prog) w 83 3 ty 9 i0 (.string ⟨#[]⟩) .i64 .i64 Tryz.underlying83 Tryz.underlying3 hi hz0 n (by omega) (by omega) (by omega) (by rw [hz2]; omega)
    have hcapge : n ≤ grownCap w n 0 9 := grownCap_ge w _ 0 _
    have hcaple : grownCap w n 0 9 ≤ maxLen := grownCap_le_maxLen w _ 0 _ (by unfold maxLen; omega)
    generalize grownCap w n 0 9 = cap2 at happ hcapge hcaple
    have hZ : (Builtin.zeroCells (Value.string ⟨#[]⟩).cells n ++ Builtin.zeroCells (Value.string ⟨#[]⟩).cells (cap2 - n)).size = cap2 := by rw [Array.size_append, size_zeroCells1 _ rfl, size_zeroCells1 _ rfl]; omega
    generalize Builtin.zeroCells (Value.string ⟨#[]⟩).cells n ++ Builtin.zeroCells (Value.string ⟨#[]⟩).cells (cap2 - n) = Z at happ hZ
    have HZ : Hid (Z.size = cap2) := hZ
    have HL : Hid (cap2 ≤ maxLen) := hcaple
    have hl9 : cap2 ≤ 9223372036854775807 := by unfold maxLen at hcaple; omega
    clear hi hz0 hz1 hz2 hZ hcaple
    go_enter Tryz.func117, Tryz.ntmps117
    go_wp2_with (at_builtin; refine Lib.wpList_append_run _ rfl _ _ _ _ rfl _ _ rfl rfl _ _ (happ _) ?_)
    go_ret
    exact ⟨some ⟨w.heap.size, 0, none⟩, cap2, rfl, own_grown (w := w.drew) HZ.out HL.out _ (Nat.le_refl _), (below_drewN (Below.refl _ w) 1).alloc (Nat.le_refl _) _⟩
/-- A row of strings that a call reads. -/
theorem ownS_src {w : World} {base : Nat} {v : Value} {L : List ByteArray} (h : OwnS w base v L) : ∃ a c, v = .slice a L.length c ∧ (a = none → L.length = 0 ∧ c = 0) ∧ ∀ x, a = some x → ∀ j u, (strC L)[j]? = some u → w.cell? (x.add j) = some u := by
  rcases h.2 with ⟨rfl, h0⟩ | ⟨g, cap, cur, rfl, hb, hg, hn, hm, hs, ht⟩
  · exact ⟨none, 0, by rw [h0], fun _ => ⟨h0, rfl⟩, fun x e => by cases e⟩
  · refine ⟨_, cap, rfl, (fun e => by cases e), fun x e j u hu => ?_⟩
    cases e
    have hj : j < (strC L).length := (List.getElem?_eq_some_iff.1 hu).1
    rw [strC_len] at hj
    have hc := h.cellAt j (by omega)
    rw [show (⟨g, 0, none⟩ : Addr).add j = ⟨g, j, none⟩ from by cases j <;> simp [Addr.add], hc]
    exact hu
set_option maxRecDepth 100000 in
set_option maxHeartbeats 1000000 in
theorem concat_s (w : World) (p : Nat) {b1 b2 : Nat} (v1 v2 : Value) (L M : List ByteArray) (hnm : L.length + M.length ≤ 100000) (h1 : OwnS w b1 v1 L) (h2 : OwnS w b2 v2 M)
    (p0 : w.cell? ⟨p, 0, none⟩ = some v1) (p1 : w.cell? ⟨p, 1, none⟩ = some v2) :
    Calls Tryz.prog 90 #[.slice (some ⟨p, 0, none⟩) 2 2] w fun e w' => ∃ v', e = .returned v' ∧ OwnS w' w.heap.size v' (L ++ M) ∧ Below w.heap.size w w' := by
  obtain ⟨a, c, rfl, ha, -⟩ := ownS_src h1
  obtain ⟨b, d, rfl, hb, -⟩ := ownS_src h2
  have HA : Hid (a = none → L.length = 0 ∧ c = 0) := ha
  have HB9 : Hid (b = none → M.length = 0 ∧ d = 0) := hb
  have H1 : Hid (OwnS w b1 (.slice a L.length c) L) := h1
  have H2 : Hid (OwnS w b2 (.slice b M.length d) M) := h2
  obtain ⟨n, en⟩ : ∃ n, L.length = n := ⟨_, rfl⟩
  obtain ⟨m, em⟩ : ∃ m, M.length = m := ⟨_, rfl⟩
  rw [en, em] at hnm
  rw [en] at p0 ha
  rw [em] at p1 hb
  have EN : Hid (L.length = n ∧ M.length = m) := ⟨en, em⟩
  have P0 : Hid (w.cell? ⟨p, 0, none⟩ = some (.slice a n c)) := p0
  have P1 : Hid (w.cell? ⟨p, 1, none⟩ = some (.slice b m d)) := p1
  have S1 : Hid (∀ W, Below w.heap.size w W → ∀ x, a = some x → ∀ j u, (strC L)[j]? = some u → W.cell? (x.add j) = some u) := fun W hW x e j u hu => by
    obtain ⟨a', c', e', -, hs⟩ := ownS_src (ownS_later H1.out hW)
    simp only [Value.slice.injEq] at e'
    exact hs x (by rw [← e'.1]; exact e) j u hu
  have S2 : Hid (∀ W, Below w.heap.size w W → ∀ x, b = some x → ∀ j u, (strC M)[j]? = some u → W.cell? (x.add j) = some u) := fun W hW x e j u hu => by
    obtain ⟨a', c', e', -, hs⟩ := ownS_src (ownS_later H2.out hW)
    simp only [Value.slice.injEq] at e'
    exact hs x (by rw [← e'.1]; exact e) j u hu
  have hn' : (n : Int) ≤ 100000 := by omega
  have hm' : (m : Int) ≤ 100000 := by omega
  have HN : Hid (n + m ≤ 100000) := hnm
  obtain ⟨i0, hi0, hz0, hz1, hz2⟩ := info_parts slS
  have GR : Hid (∀ W, Calls Tryz.prog 117 #[.slice none 0 0, .int .i64 ((n : Int) + m)] W fun e w' => ∃ a c, e = .returned (.slice a 0 c) ∧ w'.ownsRow W.heap.size 9 1 (.slice a 0 c) 0 [] ∧ Below W.heap.size W w') := fun W => by
    have h := grow_s W (n + m) (by omega)
    rwa [Int.natCast_add] at h
  clear ha hb h1 h2 hnm en em
  go_enter Tryz.func90, Tryz.ntmps90
  go_wp2
  go_loop [3, 11] (fun sz k => (k = .int .i64 0 ∧ sz = .int .i64 0) ∨ (k = .int .i64 1 ∧ sz = .int .i64 n) ∨ (k = .int .i64 2 ∧ sz = .int .i64 ((n : Int) + m))) (fun _ k => (2 - intOf k).toNat)
  case atStart => exact .inl ⟨rfl, rfl⟩
  case round =>
    rcases hrel with ⟨rfl, rfl⟩ | ⟨rfl, rfl⟩ | ⟨rfl, rfl⟩
    · go_wp2
      go_round
      case rel => exact .inr (.inl ⟨rfl, rfl⟩)
      case measure => simp [intOf]
    · go_wp2
      go_round
      case rel => exact .inr (.inr ⟨rfl, rfl⟩)
      case measure => simp [intOf]
    · clear p0 p1
      go_wp2_with (go_at_call 117; refine (GR.out _).mono ?_; rintro e w1 ⟨a0, c0, rfl, own0, hb0⟩)
      go_loopw [6, 27] (fun l k wr => ∃ a' c', Below w.heap.size w wr ∧ ((k = .int .i64 0 ∧ l = .slice a' 0 c' ∧ wr.ownsRow w.heap.size 9 1 (.slice a' 0 c') 0 []) ∨ (k = .int .i64 1 ∧ l = .slice a' n c' ∧ wr.ownsRow w.heap.size 9 1 (.slice a' n c') n (strC L)) ∨ (k = .int .i64 2 ∧ l = .slice a' (n + m) c' ∧ wr.ownsRow w.heap.size 9 1 (.slice a' (n + m) c') (n + m) (strC L ++ strC M)))) (fun _ k _ => (2 - intOf k).toNat)
      case atStart => exact ⟨a0, c0, hb0, .inl ⟨rfl, rfl, own0⟩⟩
      case round =>
        obtain ⟨a', c', hb, hrel⟩ := hrel
        have HB : Hid (Below w.heap.size w wr) := hb
        have q0 := cell_later' P0.out hb
        have q1 := cell_later' P1.out hb
        clear hb own0 hb0
        rcases hrel with ⟨rfl, rfl, hown⟩ | ⟨rfl, rfl, hown⟩ | ⟨rfl, rfl, hown⟩
        · have HO : Hid (wr.ownsRow w.heap.size 9 1 (.slice a' 0 c') 0 []) := hown
          clear hown
          go_wp2_with (at_builtin; refine wpList_append_all _ rfl (.tmp 31) (.tmp 32) 83 rfl w.heap.size 9 i0 _ 1 16 Tryz.underlying83 hi0 hz0 hz1 hz2 rfl (by decide) (.slice a' 0 c') 0 [] rfl HO.out a n c (strC L) rfl (by rw [strC_len, EN.out.1, Nat.mul_one]) (by rw [← EN.out.1]; exact HA.out) (S1.out _ HB.out) (strC_one _) (by have := HN.out; unfold maxLen; omega) (by have := HN.out; omega) HB.out.size ?_; intro a5 c5 w5 own5 hgrow5)
          go_roundw
          case rel =>
            rw [Nat.zero_add, List.nil_append] at own5
            exact ⟨a5, c5, HB.out.grown hgrow5 HB.out.size (fun q hq => own_lt HO.out q hq), .inr (.inl ⟨rfl, by first | rfl | rw [Nat.zero_add], own5⟩)⟩
          case measure => simp [intOf]
        · have HO : Hid (wr.ownsRow w.heap.size 9 1 (.slice a' n c') n (strC L)) := hown
          clear hown
          go_wp2_with (at_builtin; refine wpList_append_all _ rfl (.tmp 31) (.tmp 32) 83 rfl w.heap.size 9 i0 _ 1 16 Tryz.underlying83 hi0 hz0 hz1 hz2 rfl (by decide) (.slice a' n c') n (strC L) rfl HO.out b m d (strC M) rfl (by rw [strC_len, EN.out.2, Nat.mul_one]) (by rw [← EN.out.2]; exact HB9.out) (S2.out _ HB.out) (strC_one _) (by have := HN.out; unfold maxLen; omega) (by have := HN.out; omega) HB.out.size ?_; intro a5 c5 w5 own5 hgrow5)
          go_roundw
          case rel => exact ⟨a5, c5, HB.out.grown hgrow5 HB.out.size (fun q hq => own_lt HO.out q hq), .inr (.inr ⟨rfl, rfl, own5⟩)⟩
          case measure => simp [intOf]
        · go_wp2
          go_ret
          refine ⟨_, rfl, ?_, HB.out⟩
          unfold OwnS
          rw [List.length_append, EN.out.1, EN.out.2, strC, List.map_append]
          exact hown
end Go.Proofs.YteakbpcmafdikaaGreatDoor
