/- What the document's own functions write of numbers and names. What the document's own functions write of relocations. -/
import Derived.Test.YtnejpldbokodaaaGreatDoorObjRd
import Derived.Test.YtnejpldbokodaaaGreatDoorObjOwn
import Derived.Lib.ConvBytes
import Derived.Test.YtnejpldbokodaaaGreatDoorObjFew
namespace Go.Proofs.YtnejpldbokodaaaGreatDoor
open Go.ChangeShapes Go.WideShapes Go.ChangeAt Go.RowKit
set_option linter.unusedVariables false
set_option linter.unusedSimpArgs false
theorem digL_get (n : Nat) : ∀ (x : Int) (i : Nat), i < n → gF (digL n x) i = x / 256 ^ i % 256 := by
  induction n with
  | zero => intro x i h; omega
  | succ n ih =>
    intro x i h
    rcases i with _ | i
    · show x % 256 = x / 256 ^ 0 % 256
      rw [Int.pow_zero, Int.ediv_one]
    · have h1 : gF (digL (n + 1) x) (i + 1) = gF (digL n (x / 256)) i := rfl
      rw [h1, ih (x / 256) i (by omega), Int.pow_succ, Int.mul_comm, ← Int.ediv_ediv_of_nonneg (by decide)]
theorem bytes_dig {w : World} {a : Option Addr} {n k : Nat} {x : Int} (h : ∀ i, i < k → ∃ b off, a = some ⟨b, off, none⟩ ∧ w.cell? ⟨b, off + i, none⟩ = some (.int .u8 (x / 256 ^ i % 256))) (hk : k ≠ 0) : Bytes w a k (gF (digL k x)) := by
  obtain ⟨b, off, e, _⟩ := h 0 (by omega)
  refine ⟨gF_byt (digL_byt k x), .inr ⟨b, off, e, fun i hi => ?_⟩⟩
  obtain ⟨b', off', e', hc⟩ := h i hi
  rw [e] at e'
  cases e'
  rw [digL_get k x i hi]; exact hc
/-- The first ones of a row, the row's beginning. -/
theorem slice_first9 (W : World) (a : Option Addr) (n c k : Nat) (hk : k ≤ n) (hc : n ≤ c) : (Instr.slice 45 (.slice a n c) none (some (.int .i64 (k : Int))) none).run Tryz.prog W = .ok (.slice a k c) W := by
  rw [run_slice_h W 45 a n c (by kernel_rfl) .i64 (k : Int) (by omega) (by omega)]
  have hs : (sizeOf (Tryz.prog.elem 45)).run Tryz.prog W = .ok 1 W := by go_simp
  rw [hs]
  simp only [Result.andThen_ok, sliced, Int.toNat_natCast]
  simp
  intro _
  cases a with
  | none => rfl
  | some y => simp [Addr.add]
theorem rnum9 (x : Int) (k : Nat) (w : World) (x0 : 0 ≤ x) (x1 : x < 4294967296) (k0 : 1 ≤ k) (k1 : k ≤ 4) :
    Calls Tryz.prog 32 #[.int .i64 x, .int .i64 k] w fun e w' => ∃ a c, e = .returned (.slice a k c) ∧ (Head a k c ∧ Bytes w' a k (gF (digL k x))) ∧ (∀ q, a = some q → q.block = w.heap.size) ∧ Below w.heap.size w w' := by
  have ec : cutZ x 32 = x := by
    unfold cutZ
    rw [if_pos (by omega), show (2 : Int) ^ (32 : Int).toNat = 4294967296 from by decide]
    omega
  have CT : Hid (∀ W, Calls Tryz.prog 54 #[.int .i64 x, .int .i64 32] W fun e w' => e = .returned (.int .u32 x) ∧ w' = W) := fun W => by
    have h := rcut_any x 32 W
    rwa [ec] at h
  obtain ⟨C, eC⟩ : ∃ C, bytesOf x = C := ⟨_, rfl⟩
  have PT : Hid (∀ W, Calls Tryz.prog 34 #[.int .u32 x] W fun e w' => e = .returned (.slice (some ⟨W.heap.size, 0, none⟩) 4 4) ∧ w' = W.alloc (.cells C 5)) := fun W => by
    rw [← eC]; exact rput_any x W x0 x1
  have S1 : ∀ W g, (Instr.slice 45 (.slice (some ⟨g, 0, none⟩) 4 4) none (some (.int .i64 (k : Int))) none).run Tryz.prog W = .ok (.slice (some ⟨g, 0, none⟩) k 4) W := fun W g => slice_first9 W _ 4 4 k k1 (Nat.le_refl _)
  have RB : Hid (∀ W : World, Bytes (W.alloc (.cells C 5)) (some ⟨W.heap.size, 0, none⟩) k (gF (digL k x))) := fun W => by
    refine bytes_dig (n := 4) (fun i hi => ⟨_, _, rfl, ?_⟩) (by omega)
    rw [Nat.zero_add, ← eC]
    refine new_cell' W _ _ i _ ?_
    have p3 : x / 256 ^ 3 % 256 = x / 16777216 := by
      have : (256 : Int) ^ 3 = 16777216 := by decide
      rw [this]; omega
    rcases (by omega : i = 0 ∨ i = 1 ∨ i = 2 ∨ i = 3) with rfl | rfl | rfl | rfl
    · simp [bytesOf]
    · simp [bytesOf]
    · simp [bytesOf]
    · rw [p3]; simp [bytesOf]
  have hk0 : (1 : Int) ≤ k := by omega
  have hk1 : (k : Int) ≤ 4 := by omega
  clear eC ec
  go_enter Tryz.func32, Tryz.ntmps32
  go_wp2_with (first
    | (go_at_call 54; refine (CT.out _).mono ?_; rintro e w1 ⟨rfl, rfl⟩)
    | (go_at_call 34; refine (PT.out _).mono ?_; rintro e w2 ⟨rfl, rfl⟩))
  go_ret
  exact ⟨_, _, rfl, ⟨⟨k1, fun e => by cases e⟩, RB.out _⟩, (fun q e => by cases e; rfl), keep_alloc8 (Below.refl _ _) _⟩
theorem bytesL_cells (t : ByteArray) : Lib.strCells t = (bytesL t).map fun x => .int .u8 x := by
  unfold Lib.strCells bytesL
  simp
theorem bytes_world9 (w : World) (s : ByteArray) : Below w.heap.size w (Lib.bytesWorld w 5 s) ∧ ∀ ad, some (⟨w.heap.size, 0, none⟩ : Addr) = some ad → ∀ j u, ((bytesL s).map fun x => Value.int .u8 x)[j]? = some u → (Lib.bytesWorld w 5 s).cell? (ad.add j) = some u := by
  refine ⟨⟨?_, ?_, ?_, by rw [Lib.bytesWorld_size]; omega, fun k hk => Lib.bytesWorld_at_old w _ s k hk⟩, fun ad e j u hu => ?_⟩
  · simp [Lib.bytesWorld, World.freeze, World.alloc, World.drew, -World.alloc_eq, -World.drew_eq]
  · simp [Lib.bytesWorld, World.freeze, World.alloc, World.drew, -World.alloc_eq, -World.drew_eq]
  · simp [Lib.bytesWorld, World.freeze, World.alloc, World.drew, -World.alloc_eq, -World.drew_eq]
  · cases e
    have hj : j < s.size := by
      have := (List.getElem?_eq_some_iff.1 hu).1
      rwa [List.length_map, bytesL_len] at this
    rw [show (⟨w.heap.size, 0, none⟩ : Addr).add j = ⟨w.heap.size, j, none⟩ from by cases j <;> simp [Addr.add], Lib.bytesWorld_cell w _ s j hj, ← hu]
    have hl : j < s.data.size := hj
    simp [bytesL, List.getD]
    rw [Array.getElem?_eq_getElem hl]
    rfl
theorem own_world9 {w : World} {base : Nat} {e : TypeId} {size : Nat} {v : Value} {n : Nat} {xs : List Value} (h : w.ownsRow base e size v n xs) (s : ByteArray) : (Lib.bytesWorld w 5 s).ownsRow base e size v n xs := own_below h (bytes_world9 w s).1
set_option maxRecDepth 100000 in
theorem rname9 (t : ByteArray) (w : World) (ht : t.size ≤ 255) :
    Calls Tryz.prog 33 #[.string t] w fun e w' => ∃ a c, e = .returned (.slice a (nameW t).length c) ∧ w'.ownsRow w.heap.size 5 1 (.slice a (nameW t).length c) (nameW t).length ((nameW t).map fun x => .int .u8 x) ∧ Below w.heap.size w w' := by
  have hl : (nameW t).length = 1 + t.size := by unfold nameW; rw [List.length_append, digL_len, bytesL_len]
  have hm : ((nameW t).map fun x => Value.int .u8 x) = [.int .u8 (t.size : Int)] ++ (bytesL t).map fun x => .int .u8 x := by
    unfold nameW
    rw [dig1 (by omega) (by omega), List.map_append]
    rfl
  rw [hl, hm]
  have hw8 : IntKind.u8.wrap (t.size : Int) = t.size := by simp [IntKind.wrap, IntKind.bits, IntKind.signed]; omega
  have ht' : (t.size : Int) ≤ 255 := by omega
  have CV : ∀ W, (convert 9 45 (.string t)).run Tryz.prog W = .ok (.slice (some ⟨W.heap.size, 0, none⟩) t.size (grownCap W t.size 0 5)) (Lib.bytesWorld W 5 t) := fun W => Lib.run_convert_string_bytes W _ _ 5 t Tryz.underlying9 Tryz.underlying45 Tryz.underlying5
  obtain ⟨i0, hi0, hz0, hz1, hz2⟩ := info_parts slB
  have hlen : ((bytesL t).map fun x => Value.int .u8 x).length = t.size * 1 := by rw [List.length_map, bytesL_len, Nat.mul_one]
  have NW : Hid (∀ ad, some (⟨w.heap.size + 1, 0, none⟩ : Addr) = some ad → ∀ j u, ((bytesL t).map fun x => Value.int .u8 x)[j]? = some u → (Lib.bytesWorld (w.alloc (.cells #[.int .u8 (t.size : Int)] 5)) 5 t).cell? (ad.add j) = some u) := by
    have h := (bytes_world9 (w.alloc (.cells #[.int .u8 (t.size : Int)] 5)) t).2
    rwa [show (w.alloc (.cells #[.int .u8 (t.size : Int)] 5)).heap.size = w.heap.size + 1 from by simp] at h
  clear hl hm
  go_enter Tryz.func33, Tryz.ntmps33
  go_wp2_with (at_builtin; refine wpList_append_all (Lib.bytesWorld (w.alloc (.cells #[.int .u8 (t.size : Int)] 5)) 5 t) rfl (.tmp 6) (.tmp 8) 45 rfl w.heap.size 5 i0 _ 1 1 Tryz.underlying45 hi0 hz0 hz1 hz2 rfl (by decide) _ 1 [.int .u8 (t.size : Int)] rfl (own_world9 (World.ownsRow_lit (base := w.heap.size) (size := 1) w #[.int .u8 (t.size : Int)] 1 (Nat.le_refl _) (by unfold maxLen; omega) rfl) t) (some ⟨w.heap.size + 1, 0, none⟩) t.size _ ((bytesL t).map fun x => .int .u8 x) rfl hlen (fun e => by cases e) NW.out (by intro u hu; obtain ⟨y, _, rfl⟩ := List.mem_map.mp hu; rfl) (by unfold maxLen; omega) (by omega) (Nat.le_trans (keep_alloc8 (Below.refl _ w) _).size (bytes_world9 _ t).1.size) ?_; intro a2 c2 w2 o2 g2)
  go_ret
  have b1 : Below w.heap.size w (Lib.bytesWorld (w.alloc (.cells #[.int .u8 (t.size : Int)] 5)) 5 t) := bnext (keep_alloc8 (Below.refl _ _) _) (bytes_world9 _ t).1
  exact ⟨a2, c2, rfl, o2, Below.grown b1 g2 b1.size (fun q hq => by have h : some w.heap.size = some q := hq; have := Option.some.inj h; omega)⟩
open Go.ChangeShapes Go.WideShapes Go.ChangeAt Go.RowKit
set_option linter.unusedVariables false
set_option linter.unusedSimpArgs false
/-- A row of bytes of one's own. -/
def OwnB (base : Nat) (w : World) (v : Value) (l : Bs) : Prop := w.ownsRow base 5 1 v l.length (l.map fun x => .int .u8 x)
theorem OwnB.later {base : Nat} {w w' : World} {v : Value} {l : Bs} (h : OwnB base w v l) (hb : Below w.heap.size w w') : OwnB base w' v l := own_below h hb
/-- What is read of it, as append does. -/
def Src (w : World) (sp : Option Addr) (c : Nat) (l : Bs) : Prop := (sp = none → l = [] ∧ c = 0) ∧ ∀ ad, sp = some ad → ∀ j u, (l.map fun x => Value.int .u8 x)[j]? = some u → w.cell? (ad.add j) = some u
theorem src_bytes {w : World} {a : Option Addr} {c : Nat} {l : Bs} {k : Nat} (hl : l.length = k) (h : Head a k c) (hb : Bytes w a k (gF l)) : Src w a c l := by
  subst hl
  refine ⟨fun e => ⟨List.eq_nil_of_length_eq_zero (head_nil h e).1, (head_nil h e).2⟩, ?_⟩
  rw [← cellsK_map]
  exact bytes_cells hb
theorem src_own {w : World} {base : Nat} {a : Option Addr} {c : Nat} {l : Bs} (h : OwnB base w (.slice a l.length c) l) : Src w a c l := by
  rcases id h.2 with ⟨e, h0⟩ | ⟨g, cap', cur, hv, _⟩
  · simp only [Value.slice.injEq] at e
    obtain ⟨rfl, e2, rfl⟩ := e
    refine ⟨fun _ => ⟨List.eq_nil_of_length_eq_zero e2, rfl⟩, fun ad e => by cases e⟩
  · simp only [Value.slice.injEq] at hv
    obtain ⟨rfl, _, rfl⟩ := hv
    exact ⟨(fun e => by cases e), fun ad e j u hu => by cases e; exact h.cells (g := g) rfl j u hu⟩
theorem src_new (w : World) (cs : Array Value) (t : TypeId) (l : Bs) (h : cs.toList = l.map fun x => .int .u8 x) (c : Nat) : Src (w.alloc (.cells cs t)) (some ⟨w.heap.size, 0, none⟩) c l := by
  refine ⟨(fun e => by cases e), fun ad e j u hu => ?_⟩
  cases e
  rw [show (⟨w.heap.size, 0, none⟩ : Addr).add j = ⟨w.heap.size, j, none⟩ from by cases j <;> simp [Addr.add]]
  exact new_cell' w cs t j u (by rw [← Array.getElem?_toList, h]; exact hu)
/-- 'append(out, l...)'. -/
theorem wpList_app9 {W : World} {ops : Array Oper} {rest : List Oper} {op : Oper} {a : Act} {Q : Exit → Act → World → Prop} (hgd : op.guard = none) (s x : Operand)
    (ho : op.op = .call { callee := .builtin .append, args := #[s, x], argTypes := #[45, 45] })
    (base : Nat) (v : Value) (out : Bs) (hs : a.eval s = v) (hown : OwnB base W v out) (sp : Option Addr) (m c : Nat) (l : Bs) (hx : a.eval x = .slice sp m c) (hl : l.length = m) (hsrc : Src W sp c l)
    (h63 : out.length + m ≤ 3000000) (hbase : base ≤ W.heap.size)
    (h : ∀ v' w', OwnB base w' v' (out ++ l) → Below base W w' → W.grownBy w' v.ownBlock → wpList Tryz.prog ops Q rest (a.put op.dst v') w') : wpList Tryz.prog ops Q (op :: rest) a W := by
  obtain ⟨i0, hi0, hz0, hz1, hz2⟩ := info_parts slB
  refine wpList_append_all W hgd s x 45 ho base 5 i0 _ 1 1 Tryz.underlying45 hi0 hz0 hz1 hz2 rfl (by decide) v out.length _ hs hown sp m c (l.map fun x => .int .u8 x) hx (by rw [List.length_map, hl, Nat.mul_one]) (fun e => ⟨by rw [← hl, (hsrc.1 e).1]; rfl, (hsrc.1 e).2⟩) hsrc.2 (by intro u hu; obtain ⟨y, _, rfl⟩ := List.mem_map.mp hu; rfl) (by unfold maxLen; omega) (by omega) hbase ?_
  intro a' c' w' o g
  refine h _ w' ?_ (Below.grown (Below.refl _ _) g hbase (fun q hq => (own_lt hown q hq))) g
  unfold OwnB
  rw [List.length_append, hl, List.map_append]
  exact o
theorem cell_base {base : Nat} {w w' : World} {b o : Nat} {v : Value} (h : w.cell? ⟨b, o, none⟩ = some v) (hb : Below base w w') (hl : b < base) : w'.cell? ⟨b, o, none⟩ = some v := (hb.cell (p := ⟨b, o, none⟩) hl).trans h
theorem take_next {α : Type} {l : List α} {k : Nat} {x : α} (h : l[k]? = some x) : l.take (k + 1) = l.take k ++ [x] := by
  rw [List.take_add_one, h]; rfl
theorem flat_next {α : Type} {wr : α → Bs} {l : List α} {k : Nat} {x : α} (h : l[k]? = some x) : flatW wr (l.take (k + 1)) = flatW wr (l.take k) ++ wr x := by
  rw [take_next h]; simp [flatW]
theorem flat_le {α : Type} {wr : α → Bs} {l : List α} {k : Nat} : (flatW wr (l.take k)).length ≤ (flatW wr l).length := by
  have e : flatW wr l = flatW wr (l.take k) ++ flatW wr (l.drop k) := by
    unfold flatW
    rw [← List.flatMap_append, List.take_append_drop]
  rw [e, List.length_append]; omega
theorem flat_le2 {α : Type} {wr : α → Bs} {l : List α} {k : Nat} {x : α} (h : l[k]? = some x) : (flatW wr (l.take k)).length + (wr x).length ≤ (flatW wr l).length := by
  have := flat_le (wr := wr) (l := l) (k := k + 1)
  rwa [flat_next h, List.length_append] at this
theorem relW_len (r : RelM) : (relW r).length = 8 + r.name.size := by
  unfold relW nameW
  simp only [List.length_append, digL_len, bytesL_len]
  omega
theorem dig1_wrap {x : Int} (h0 : 0 ≤ x) (h1 : x ≤ 255) : #[Value.int .u8 x].toList = (digL 1 x).map fun x => .int .u8 x := by rw [dig1 h0 (by omega)]; rfl
set_option maxRecDepth 100000 in
set_option maxHeartbeats 4000000 in
theorem rputrels {A : Nat → Prop} {base : Nat} {w0 w : World} {v vr : Value} {out : Bs} {l : List RelM} (h : IsRels A w0 vr l) (h0 : w0.heap.size ≤ base) (hlow : Below base w0 w) (hown : OwnB base w v out) (hbase : base ≤ w.heap.size) (hok : ∀ r ∈ l, relOk r) (hlen : l.length ≤ 64) (hsz : out.length + (listW relW l).length ≤ 3000000) :
    Calls Tryz.prog 35 #[v, vr] w fun e w' => ∃ v', e = .returned v' ∧ OwnB base w' v' (out ++ listW relW l) ∧ Below base w w' := by
  obtain ⟨a, c, rfl, lm, -, lx⟩ := LstA.open h
  obtain ⟨n, en⟩ : ∃ n, l.length = n := ⟨_, rfl⟩
  rw [en] at lx hlen ⊢
  have LX : Hid (∀ k, k < n → ∃ b off x, a = some ⟨b, off, none⟩ ∧ A b ∧ l[k]? = some x ∧ RelAt w0 b (off + k * 4) x) := lx
  have HA : Hid ((w0.heap.size ≤ base ∧ Below base w0 w) ∧ base ≤ w.heap.size) := ⟨⟨h0, hlow⟩, hbase⟩
  have OK : Hid (∀ r ∈ l, relOk r) := hok
  have EN : Hid (l.length = n) := en
  have el : (listW relW l).length = 2 + (flatW relW l).length := by unfold listW; rw [List.length_append, digL_len]
  have HZ : Hid (out.length + (2 + (flatW relW l).length) ≤ 3000000) := by rw [el] at hsz; exact hsz
  have HO : Hid (OwnB base w v out) := hown
  have hn : (n : Int) ≤ 64 := by omega
  have NN : Hid (∀ W, Calls Tryz.prog 32 #[.int .i64 (n : Int), .int .i64 2] W fun e w' => ∃ a c, e = .returned (.slice a 2 c) ∧ (Head a 2 c ∧ Bytes w' a 2 (gF (digL 2 n))) ∧ (∀ q, a = some q → q.block = W.heap.size) ∧ Below W.heap.size W w') := fun W => rnum9 n 2 W (by omega) (by omega) (by omega) (by omega)
  clear h lx en lm h0 hlow hbase hok hsz el hown
  go_enter Tryz.func35, Tryz.ntmps35
  go_upto_region 2 with (first
    | (go_at_call 32; refine (NN.out _).mono ?_; rintro e w1 ⟨a1, c1, rfl, ⟨hh1, hb1⟩, -, b1⟩)
    | (at_builtin; refine wpList_app9 rfl (.tmp 6) (.tmp 9) rfl base v out rfl (HO.out.later b1) a1 2 c1 (digL 2 n) rfl rfl (src_bytes rfl hh1 hb1) (by have := HZ.out; omega) (Nat.le_trans HA.out.2 b1.size) ?_; intro v2 w2 o2 b2 g2))
  have B2 : Hid (Below base w w2) := (b1.mono HA.out.2).trans b2
  have O2 : Hid (OwnB base w2 v2 (out ++ digL 2 n)) := o2
  clear hh1 hb1 b1 b2 g2 o2
  go_wp2
  go_loopw [0, 5] (fun ov iv wr => ∃ k : Nat, k ≤ n ∧ iv = .int .i64 k ∧ OwnB base wr ov (out ++ digL 2 n ++ flatW relW (l.take k)) ∧ Below base w wr) (fun _ iv _ => n - (intOf iv).toNat)
  case atStart => exact ⟨0, Nat.zero_le _, rfl, by rw [List.take_zero]; show OwnB base w2 v2 (out ++ digL 2 n ++ []); rw [List.append_nil]; exact O2.out, B2.out⟩
  case round =>
    obtain ⟨k, hk, rfl, hown, hbel⟩ := hrel
    have HB : Hid (Below base w wr) := hbel
    have HOW : Hid (OwnB base wr _ (out ++ digL 2 n ++ flatW relW (l.take k))) := hown
    clear hbel hown
    by_cases hlt : k < n
    · have hlt' : (k : Int) < n := by omega
      obtain ⟨q, off, ⟨xa, xk, xn, xd⟩, rfl, hq, hx, x0, x1, x2, x3, -⟩ := LX.out k hlt
      dsimp only at x0 x1 x2 x3
      have ok := OK.out _ (List.mem_of_getElem? hx)
      obtain ⟨⟨ka0, ka1⟩, ⟨kk0, kk1⟩, kn, kd0, kd1⟩ := ok
      dsimp only at ka0 ka1 kk0 kk1 kn kd0 kd1
      have hns := named_len kn
      have HX : Hid (l[k]? = some ⟨xa, xk, xn, xd⟩) := hx
      have HQ : Hid (q < base) := Nat.lt_of_lt_of_le (World.block_lt_of_cell? w0 ⟨q, _, none⟩ x0) HA.out.1.1
      have CC : Hid (∀ W, Below base w W → W.cell? ⟨q, off + k * 4, none⟩ = some (.int .i64 xa) ∧ W.cell? ⟨q, off + k * 4 + 1, none⟩ = some (.int .i64 xk) ∧ W.cell? ⟨q, off + k * 4 + 2, none⟩ = some (.string xn) ∧ W.cell? ⟨q, off + k * 4 + 3, none⟩ = some (.int .i64 xd)) := fun W hW => ⟨cell_base x0 (HA.out.1.2.trans hW) HQ.out, cell_base x1 (HA.out.1.2.trans hW) HQ.out, cell_base x2 (HA.out.1.2.trans hW) HQ.out, cell_base x3 (HA.out.1.2.trans hW) HQ.out⟩
      have N1 : Hid (∀ W, Calls Tryz.prog 32 #[.int .i64 xa, .int .i64 2] W fun e w' => ∃ a c, e = .returned (.slice a 2 c) ∧ (Head a 2 c ∧ Bytes w' a 2 (gF (digL 2 xa))) ∧ (∀ q, a = some q → q.block = W.heap.size) ∧ Below W.heap.size W w') := fun W => rnum9 xa 2 W (by omega) (by omega) (by omega) (by omega)
      have N3 : Hid (∀ W, Calls Tryz.prog 33 #[.string xn] W fun e w' => ∃ a c, e = .returned (.slice a (nameW xn).length c) ∧ w'.ownsRow W.heap.size 5 1 (.slice a (nameW xn).length c) (nameW xn).length ((nameW xn).map fun x => .int .u8 x) ∧ Below W.heap.size W w') := fun W => rname9 xn W (by omega)
      have N4 : Hid (∀ W, Calls Tryz.prog 32 #[.int .i64 (xd + 2147483648), .int .i64 4] W fun e w' => ∃ a c, e = .returned (.slice a 4 c) ∧ (Head a 4 c ∧ Bytes w' a 4 (gF (digL 4 (xd + 2147483648)))) ∧ (∀ q, a = some q → q.block = W.heap.size) ∧ Below W.heap.size W w') := fun W => rnum9 _ 4 W (by omega) (by omega) (by omega) (by omega)
      have hw8 : IntKind.u8.wrap xk = xk := by simp [IntKind.wrap, IntKind.bits, IntKind.signed]; omega
      have SZ : Hid ((out ++ digL 2 n ++ flatW relW (l.take k)).length + (8 + xn.size) ≤ 3000000) := by
        have h1 := flat_le2 (wr := relW) hx
        rw [relW_len] at h1
        have := HZ.out
        unfold Hid
        simp only [List.length_append, digL_len]
        dsimp only at h1
        omega
      have KK : Hid (0 ≤ xk ∧ xk ≤ 255) := ⟨kk0, kk1⟩
      obtain ⟨T, eT⟩ : ∃ T, out ++ digL 2 n ++ flatW relW (l.take k) = T := ⟨_, rfl⟩
      have ET : Hid (out ++ digL 2 n ++ flatW relW (l.take k) = T) := eT
      rw [eT] at HOW SZ
      have hnl : (nameW xn).length = 1 + xn.size := by unfold nameW; rw [List.length_append, digL_len, bytesL_len]
      have NL : Hid ((nameW xn).length = 1 + xn.size) := hnl
      obtain ⟨y0, -, -, -⟩ := CC.out wr HB.out
      clear x0 x1 x2 x3 hx eT hnl hns kn ka0 ka1 kk0 kk1
      go_upto_region 6 with (first
        | (go_at_call 32; refine (N1.out _).mono ?_; rintro e w3 ⟨a1, c1, rfl, ⟨hh1, hb1⟩, -, b1⟩)
        | (at_builtin; refine wpList_app9 rfl (.tmp 17) (.tmp 23) rfl base _ T rfl (HOW.out.later b1) a1 2 c1 (digL 2 xa) rfl rfl (src_bytes rfl hh1 hb1) (by have := SZ.out; omega) (Nat.le_trans (Nat.le_trans HA.out.2 HB.out.size) b1.size) ?_; intro v4 w4 o4 b4 g4))
      have B4 : Hid (Below base w w4) := HB.out.trans ((b1.mono (Nat.le_trans HA.out.2 HB.out.size)).trans b4)
      have O4 : Hid (OwnB base w4 v4 (T ++ digL 2 xa)) := o4
      clear hh1 hb1 b1 b4 g4 o4 y0
      obtain ⟨-, y1, -, -⟩ := CC.out w4 B4.out
      go_upto_region 7 with (at_builtin; refine wpList_app9 rfl (.tmp 25) (.tmp 32) rfl base _ (T ++ digL 2 xa) rfl (O4.out.later (keep_alloc8 (Below.refl _ _) _)) (some ⟨w4.heap.size, 0, none⟩) 1 1 (digL 1 xk) rfl rfl (src_new w4 _ _ _ (dig1_wrap KK.out.1 KK.out.2) 1) (by rw [List.length_append, digL_len]; have := SZ.out; omega) (Nat.le_trans (Nat.le_trans HA.out.2 B4.out.size) (keep_alloc8 (Below.refl _ _) _).size) ?_; intro v5 w5 o5 b5 g5)
      have B5 : Hid (Below base w w5) := B4.out.trans (((keep_alloc8 (Below.refl _ w4) (.cells #[.int .u8 xk] 5)).mono (Nat.le_trans HA.out.2 B4.out.size)).trans b5)
      have O5 : Hid (OwnB base w5 v5 (T ++ digL 2 xa ++ digL 1 xk)) := o5
      clear b5 g5 o5 y1
      obtain ⟨-, -, y2, -⟩ := CC.out w5 B5.out
      go_upto_region 8 with (first
        | (go_at_call 33; refine (N3.out _).mono ?_; rintro e w6 ⟨a1, c1, rfl, hb1, b1⟩)
        | (at_builtin; refine wpList_app9 rfl (.tmp 34) (.tmp 40) rfl base _ (T ++ digL 2 xa ++ digL 1 xk) rfl (O5.out.later b1) a1 _ c1 (nameW xn) rfl rfl (src_own hb1) (by simp only [List.length_append, digL_len]; have := SZ.out; have := NL.out; omega) (Nat.le_trans (Nat.le_trans HA.out.2 B5.out.size) b1.size) ?_; intro v7 w7 o7 b7 g7))
      have B7 : Hid (Below base w w7) := B5.out.trans ((b1.mono (Nat.le_trans HA.out.2 B5.out.size)).trans b7)
      have O7 : Hid (OwnB base w7 v7 (T ++ digL 2 xa ++ digL 1 xk ++ nameW xn)) := o7
      clear hb1 b1 b7 g7 o7 y2
      obtain ⟨-, -, -, y3⟩ := CC.out w7 B7.out
      go_wp2_with (first
        | (go_at_call 32; refine (N4.out _).mono ?_; rintro e w8 ⟨a1, c1, rfl, ⟨hh1, hb1⟩, -, b1⟩)
        | (at_builtin; refine wpList_app9 rfl (.tmp 42) (.tmp 49) rfl base _ (T ++ digL 2 xa ++ digL 1 xk ++ nameW xn) rfl (O7.out.later b1) a1 4 c1 (digL 4 (xd + 2147483648)) rfl rfl (src_bytes rfl hh1 hb1) (by simp only [List.length_append, digL_len]; have := SZ.out; have := NL.out; omega) (Nat.le_trans (Nat.le_trans HA.out.2 B7.out.size) b1.size) ?_; intro v9 w9 o9 b9 g9))
      go_roundw
      case rel =>
        refine ⟨k + 1, by omega, by go_num, ?_, B7.out.trans ((b1.mono (Nat.le_trans HA.out.2 B7.out.size)).trans b9)⟩
        rw [flat_next HX.out, ← List.append_assoc, ET.out]
        have e : T ++ relW ⟨xa, xk, xn, xd⟩ = T ++ digL 2 xa ++ digL 1 xk ++ nameW xn ++ digL 4 (xd + 2147483648) := by unfold relW; simp only [List.append_assoc]
        rw [e]; exact o9
      case measure => simp [intOf]; omega
    · obtain rfl : k = n := by omega
      go_wp2
      go_ret
      refine ⟨_, rfl, ?_, HB.out⟩
      have h := HOW.out
      rw [← EN.out, List.take_length] at h
      unfold listW
      rw [← List.append_assoc]
      exact h
end Go.Proofs.YtnejpldbokodaaaGreatDoor
