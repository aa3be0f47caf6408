/- A scanner in memory: as the code has it. Objects in memory: lists of whatever, of so many cells each; what holds a list of relocations, of functions, of data, of notes. What the document's own functions on objects return. The document's reader in memory, and what is taken by it. Counts and names, taken by the document's reader. -/
import Derived.Test.YteakbpcmafdikaaGreatDoorNmBase
import Derived.Deep.Cut
import Derived.Deep.MidRow
import Derived.Deep.RegionHeld3
import Derived.Tactics
import Derived.Deep.AppendLies
import Derived.Defers
import Derived.Recover
import Derived.WalkLawsBesides
import Derived.Laws.Externs
import Derived.Test.YteakbpcmafdikaaGreatDoorObjMath
import Derived.BigQuiet
namespace Go.Proofs.YteakbpcmafdikaaGreatDoor
open Go.ChangeShapes Go.WideShapes Go.ChangeAt Go.RowKit
set_option linter.unusedVariables false
set_option linter.unusedSimpArgs false
/-- The value is a scanner with n bytes left; its own blocks are among those of O. -/
def ScO (O : Nat → Prop) (w : World) (v : Value) (n : Nat) (f : Nat → Int) : Prop :=
  ∃ g a c, v = .pointer (some ⟨g, 0, none⟩) ∧ (O g ∧ ∀ k, O k → k < w.heap.size) ∧ w.frozen? ⟨g, 1, none⟩ = false ∧ (∀ x, a = some x → O x.block ∧ x.block ≠ g) ∧ ∃ i F, (w.cell? ⟨g, 0, none⟩ = some (.slice a (n + i) c) ∧ w.cell? ⟨g, 1, none⟩ = some (.int .i64 (i : Nat))) ∧ (Head a (n + i) c ∧ Bytes w a (n + i) F) ∧ f = (fun j => F (j + i)) ∧ n + i ≤ 2000000
/-- Outside O nothing that was there is turned. -/
structure Apart (O : Nat → Prop) (w w' : World) : Prop where
  os : w'.os = w.os
  tape : w'.tape = w.tape
  output : w'.output = w.output
  size : w.heap.size ≤ w'.heap.size
  block : ∀ k, k < w.heap.size → ¬ O k → w'.heap[k]? = w.heap[k]?
theorem Apart.refl (O : Nat → Prop) (w : World) : Apart O w w := ⟨rfl, rfl, rfl, Nat.le_refl _, fun _ _ _ => rfl⟩
theorem Apart.of_below {O : Nat → Prop} {w w' : World} (h : Below w.heap.size w w') : Apart O w w' := ⟨h.os, h.tape, h.output, h.size, fun k hk _ => h.block k hk⟩
theorem Apart.trans {O O' : Nat → Prop} {w w1 w2 : World} (h1 : Apart O w w1) (h2 : Apart O' w1 w2) (hO : ∀ k, O' k → O k ∨ w.heap.size ≤ k) : Apart O w w2 :=
  ⟨h2.os.trans h1.os, h2.tape.trans h1.tape, h2.output.trans h1.output, Nat.le_trans h1.size h2.size, fun k hk hn => (h2.block k (Nat.lt_of_lt_of_le hk h1.size) fun h => (hO k h).elim hn (fun h => by omega)).trans (h1.block k hk hn)⟩
theorem Apart.low {O : Nat → Prop} {w w' : World} (h : Apart O w w') {B : Nat} (hO : ∀ k, O k → B ≤ k) (hB : B ≤ w.heap.size) : Below B w w' :=
  ⟨h.os, h.tape, h.output, h.size, fun k hk => h.block k (by omega) fun h => by have := hO k h; omega⟩
theorem Apart.cell {O : Nat → Prop} {w w' : World} (h : Apart O w w') {p : Addr} {v : Value} (hc : w.cell? p = some v) (hn : ¬ O p.block) : w'.cell? p = some v :=
  (World.cell?_of_block (h.block p.block (World.block_lt_of_cell? w p hc) hn)).trans hc
theorem Apart.bytes {O : Nat → Prop} {w w' : World} (h : Apart O w w') {a : Option Addr} {n : Nat} {f : Nat → Int} (hb : Bytes w a n f) (hn : n ≠ 0 → ∀ x, a = some x → ¬ O x.block) : Bytes w' a n f := by
  by_cases h0 : n = 0
  · exact ⟨hb.1, .inl h0⟩
  · exact ⟨hb.1, hb.2.imp id fun ⟨b, off, e, hc⟩ => ⟨b, off, e, fun i hi => h.cell (hc i hi) (hn h0 ⟨b, off, none⟩ e)⟩⟩
theorem ScO.keep {O : Nat → Prop} {w w' : World} {v : Value} {n : Nat} {f : Nat → Int} (h : ScO O w v n f) (hs : w.heap.size ≤ w'.heap.size) (hk : ∀ k, k < w.heap.size → O k → w'.heap[k]? = w.heap[k]?) : ScO O w' v n f := by
  obtain ⟨g, a, c, e, ⟨h1, h2⟩, h4, h7, i, F, ⟨h3, h3'⟩, ⟨h5, h6⟩, hf, h8⟩ := h
  have hg := hk g (h2 g h1) h1
  refine ⟨g, a, c, e, ⟨h1, fun k h => Nat.lt_of_lt_of_le (h2 k h) hs⟩, (World.frozen?_of_block (a := ⟨g, 1, none⟩) hg).trans h4, h7, i, F, ⟨(World.cell?_of_block (a := ⟨g, 0, none⟩) hg).trans h3, (World.cell?_of_block (a := ⟨g, 1, none⟩) hg).trans h3'⟩, ⟨h5, h6.1, h6.2.imp id fun ⟨b, off, e, hc⟩ => ⟨b, off, e, fun i hi => ?_⟩⟩, hf, h8⟩
  have := (h7 _ e).1
  exact (World.cell?_of_block (a := ⟨b, off + i, none⟩) (hk b (h2 b this) this)).trans (hc i hi)
theorem ScO.later {O : Nat → Prop} {w w' : World} {v : Value} {n : Nat} {f : Nat → Int} (h : ScO O w v n f) (hb : Below w.heap.size w w') : ScO O w' v n f := h.keep hb.size fun k hk _ => hb.block k hk
theorem ScO.lt {O : Nat → Prop} {w : World} {v : Value} {n : Nat} {f : Nat → Int} (h : ScO O w v n f) : ∀ k, O k → k < w.heap.size := by
  obtain ⟨g, a, c, e, ⟨h1, h2⟩, _⟩ := h
  exact h2
theorem ScO.ptr {O : Nat → Prop} {w : World} {v : Value} {n : Nat} {f : Nat → Int} (h : ScO O w v n f) : ∃ g, v = .pointer (some ⟨g, 0, none⟩) ∧ O g := by
  obtain ⟨g, a, c, e, h1, _⟩ := h
  exact ⟨g, e, h1.1⟩
theorem ScO.bd {O : Nat → Prop} {w : World} {v : Value} {n : Nat} {f : Nat → Int} (h : ScO O w v n f) : (∀ i, 0 ≤ f i ∧ f i < 256) ∧ n ≤ 2000000 := by
  obtain ⟨g, a, c, e, h1, h2, h3, i, F, h4, ⟨h5, h6⟩, rfl, h7⟩ := h
  exact ⟨fun j => h6.1 _, by omega⟩
/-- The value is a scanner, of whose own blocks all are from B on, with n bytes left. -/
def Sc (B : Nat) (w : World) (v : Value) (n : Nat) (f : Nat → Int) : Prop := ∃ O, (∀ k, O k → B ≤ k) ∧ ScO O w v n f
theorem Sc.keep {B : Nat} {w w' : World} {v : Value} {n : Nat} {f : Nat → Int} (h : Sc B w v n f) (hs : w.heap.size ≤ w'.heap.size) (hk : ∀ k, k < w.heap.size → B ≤ k → w'.heap[k]? = w.heap[k]?) : Sc B w' v n f := by
  obtain ⟨O, h1, h2⟩ := h
  exact ⟨O, h1, h2.keep hs fun k hk' h => hk k hk' (h1 k h)⟩
theorem Sc.later {B : Nat} {w w' : World} {v : Value} {n : Nat} {f : Nat → Int} (h : Sc B w v n f) (hb : Below w.heap.size w w') : Sc B w' v n f := h.keep hb.size fun k hk _ => hb.block k hk
/-- A block below is written to. -/
theorem Sc.low {B : Nat} {w w' : World} {v : Value} {n : Nat} {f : Nat → Int} (h : Sc B w v n f) {b : Nat} (hb : b < B) (hg : w.grownBy w' (some b)) : Sc B w' v n f :=
  h.keep hg.size fun k hk hB => hg.block k hk (fun e => by simp only [Option.some.injEq] at e; omega)
theorem Sc.ptr {B : Nat} {w : World} {v : Value} {n : Nat} {f : Nat → Int} (h : Sc B w v n f) : ∃ g, v = .pointer (some ⟨g, 0, none⟩) ∧ B ≤ g := by
  obtain ⟨O, h1, h2⟩ := h
  obtain ⟨g, e, hg⟩ := h2.ptr
  exact ⟨g, e, h1 g hg⟩
theorem Sc.bd {B : Nat} {w : World} {v : Value} {n : Nat} {f : Nat → Int} (h : Sc B w v n f) : (∀ i, 0 ≤ f i ∧ f i < 256) ∧ n ≤ 2000000 := by
  obtain ⟨O, h1, h2⟩ := h
  exact h2.bd
theorem Sc.base {B B' : Nat} {w : World} {v : Value} {n : Nat} {f : Nat → Int} (h : Sc B w v n f) (hB : B' ≤ B) : Sc B' w v n f := by
  obtain ⟨O, h1, h2⟩ := h
  exact ⟨O, fun k hk => Nat.le_trans hB (h1 k hk), h2⟩
/-- A panic of the scanner's own kind. -/
def failE (er : Int) : Ending := .panicked [{ v := .iface 29 (.int .i64 er), recovered := false }]
/-- An act was done, or it met its error. -/
def ActPost (B : Nat) (w : World) (v : Value) (n : Nat) (f : Nat → Int) (d x : Int) (res : Value) (e : Ending) (w' : World) : Prop :=
  ((errZ n f d x ≠ 0 ∧ e = failE (errZ n f d x)) ∨ (errZ n f d x = 0 ∧ e = .returned res ∧ Sc B w' v (n - (wantZ f d x).toNat) (fun i => f (i + (wantZ f d x).toNat)))) ∧ Below B w w'
/-- The same, told of the scanner's own blocks. -/
def ActO (O : Nat → Prop) (w : World) (v : Value) (n : Nat) (f : Nat → Int) (d x : Int) (res : Value) (e : Ending) (w' : World) : Prop :=
  ((errZ n f d x ≠ 0 ∧ e = failE (errZ n f d x)) ∨ (errZ n f d x = 0 ∧ e = .returned res ∧ ∃ O', (∀ k, O k → O' k) ∧ (∀ k, O' k → O k ∨ w.heap.size ≤ k) ∧ ScO O' w' v (n - (wantZ f d x).toNat) (fun i => f (i + (wantZ f d x).toNat)))) ∧ Apart O w w'
theorem ActO.ok {O : Nat → Prop} {w : World} {v : Value} {n : Nat} {f : Nat → Int} {d x : Int} {res : Value} {e : Ending} {w' : World} (h : ActO O w v n f d x res e w') (he : errZ n f d x = 0) :
    e = .returned res ∧ (∃ O', (∀ k, O' k → O k ∨ w.heap.size ≤ k) ∧ ScO O' w' v (n - (wantZ f d x).toNat) (fun i => f (i + (wantZ f d x).toNat))) ∧ Apart O w w' := by
  obtain ⟨⟨h1, -⟩ | ⟨-, h2, O', h3, h4, h5⟩, hb⟩ := h
  · exact absurd he h1
  · exact ⟨h2, ⟨O', h4, h5⟩, hb⟩
theorem ActO.low {O : Nat → Prop} {w : World} {v : Value} {n : Nat} {f : Nat → Int} {d x : Int} {res : Value} {e : Ending} {w' : World} (h : ActO O w v n f d x res e w') {B : Nat} (hO : ∀ k, O k → B ≤ k) (hB : B ≤ w.heap.size) : ActPost B w v n f d x res e w' := by
  obtain ⟨h1, h2⟩ := h
  refine ⟨h1.imp id fun ⟨e1, e2, O', q1, q2, q3⟩ => ⟨e1, e2, O', fun k hk => ?_, q3⟩, h2.low hO hB⟩
  rcases q2 k hk with h | h
  · exact hO k h
  · omega
theorem ActPost.ok {B : Nat} {w : World} {v : Value} {n : Nat} {f : Nat → Int} {d x : Int} {res : Value} {e : Ending} {w' : World} (h : ActPost B w v n f d x res e w') (he : errZ n f d x = 0) :
    e = .returned res ∧ Sc B w' v (n - (wantZ f d x).toNat) (fun i => f (i + (wantZ f d x).toNat)) ∧ Below B w w' := by
  obtain ⟨⟨h1, -⟩ | ⟨-, h2, h3⟩, hb⟩ := h
  · exact absurd he h1
  · exact ⟨h2, h3, hb⟩
theorem ActPost.bad {B : Nat} {w : World} {v : Value} {n : Nat} {f : Nat → Int} {d x : Int} {res : Value} {e : Ending} {w' : World} (h : ActPost B w v n f d x res e w') (he : errZ n f d x ≠ 0) :
    e = .panicked [{ v := .iface 29 (.int .i64 (errZ n f d x)), recovered := false }] ∧ Below B w w' := by
  obtain ⟨⟨-, h2⟩ | ⟨h1, -⟩, hb⟩ := h
  · exact ⟨h2, hb⟩
  · exact absurd h1 he
/-- From block A up to B nothing is turned. -/
structure Mid (A B : Nat) (w w' : World) : Prop where
  os : w'.os = w.os
  tape : w'.tape = w.tape
  output : w'.output = w.output
  size : w.heap.size ≤ w'.heap.size
  block : ∀ k, A ≤ k → k < B → w'.heap[k]? = w.heap[k]?
theorem enters {P : Program} {G : FuncId} {fn : Func} {c : Code} (hf : P.funcs[G]? = some fn) (hn : (fn.name == "runtime.NumGoroutine") = false) (hb : fn.body = some c) (args : Array Value) (w : World) : (callFunc G args).run P w = .ok (.enter G args) w := by
  have h1 : fn.name ≠ "runtime.NumGoroutine" := by simpa using hn
  simp [callFunc, hf, h1, hb]
theorem wrap_u64 {y : Int} (h0 : 0 ≤ y) (h1 : y < 18446744073709551616) : IntKind.u64.wrap y = y := by simp [IntKind.wrap, IntKind.bits, IntKind.signed]; omega
/-- Where 'x[k:]' begins. -/
def fromA (ad : Option Addr) (c k : Nat) : Option Addr := if c = k then ad else ad.map (·.add k)
theorem fromA_block {ad : Option Addr} {c k : Nat} {x : Addr} (h : fromA ad c k = some x) : ∃ y, ad = some y ∧ x.block = y.block := by
  unfold fromA at h
  split at h
  · exact ⟨x, h, rfl⟩
  · cases ad with
    | none => cases h
    | some y => simp only [Option.map_some, Option.some.injEq] at h; exact ⟨y, rfl, by rw [← h]; simp only [Addr.add]; split <;> rfl⟩
theorem fromA_nil {ad : Option Addr} {c k : Nat} (h : fromA ad c k = none) : ad = none := by
  unfold fromA at h
  split at h
  · exact h
  · simpa using h
theorem fromA_head {ad : Option Addr} {n c k : Nat} (h : Head ad n c) (hk : k ≤ n) : Head (fromA ad c k) (n - k) (c - k) :=
  ⟨by have := h.1; omega, fun e => by have := h.2 (fromA_nil e); omega⟩
theorem fromA_bytes {w : World} {ad : Option Addr} {n c k : Nat} {f : Nat → Int} (h : Bytes w ad n f) (hh : Head ad n c) (hk : k ≤ n) : Bytes w (fromA ad c k) (n - k) (fun j => f (j + k)) := by
  refine ⟨fun j => h.1 _, ?_⟩
  by_cases e : n - k = 0
  · exact .inl e
  · obtain h0 | ⟨b, off, rfl, hc⟩ := h.2
    · omega
    · right
      refine ⟨b, off + k, ?_, fun i hi => ?_⟩
      · unfold fromA
        rw [if_neg (by have := hh.1; omega)]
        simp [Addr.add]
      · have := hc (i + k) (by omega)
        rwa [show off + (i + k) = off + k + i from by omega] at this
/-- A part of it: so many from there on. -/
theorem fromA_part {w : World} {ad : Option Addr} {n c k m : Nat} {f : Nat → Int} (h : Bytes w ad n f) (hh : Head ad n c) (hk : k + m ≤ n) : Bytes w (fromA ad c k) m (fun j => f (j + k)) := by
  refine ⟨fun j => h.1 _, ?_⟩
  by_cases e : m = 0
  · exact .inl e
  · obtain h0 | ⟨b, off, rfl, hc⟩ := h.2
    · omega
    · right
      refine ⟨b, off + k, ?_, fun i hi => ?_⟩
      · unfold fromA
        rw [if_neg (by have := hh.1; omega)]
        simp [Addr.add]
      · have := hc (i + k) (by omega)
        rwa [show off + (i + k) = off + k + i from by omega] at this
theorem slice_mid (W : World) (a : Option Addr) (n c i k : Nat) (h : i + k ≤ c) : (Instr.slice 39 (.slice a n c) (some (.int .i64 (i : Int))) (some (.int .i64 ((i : Int) + k))) none).run Tryz.prog W = .ok (.slice (fromA a c i) k (c - i)) W := by
  rw [run_slice_lh W 39 a n c (by kernel_rfl) .i64 .i64 (i : Int) ((i : Int) + k) (by omega) (by omega) (by omega)]
  have hs : (sizeOf (Tryz.prog.elem 39)).run Tryz.prog W = .ok 1 W := by go_simp
  rw [hs]
  have e : ((i : Int) + k).toNat = i + k := by omega
  simp only [Result.andThen_ok, sliced, Int.toNat_natCast, e]
  unfold fromA
  rw [Nat.mul_one, Nat.add_sub_cancel_left]
theorem slice_rest (W : World) (a : Option Addr) (n c k : Nat) (hk : k ≤ n) (hc : n ≤ c) : (Instr.slice 39 (.slice a n c) (some (.int .i64 (k : Int))) none none).run Tryz.prog W = .ok (.slice (fromA a c k) (n - k) (c - k)) W := by
  rw [run_slice_l W 39 a n c (by kernel_rfl) .i64 (k : Int) (by omega) (by omega)]
  have hs : (sizeOf (Tryz.prog.elem 39)).run Tryz.prog W = .ok 1 W := by go_simp
  rw [hs]
  simp only [Result.andThen_ok, sliced, Int.toNat_natCast]
  unfold fromA
  rw [Nat.mul_one]
theorem wrap_small {y : Int} (h0 : 0 ≤ y) (h1 : y < 4294967296) : IntKind.i64.wrap y = y := by simp [IntKind.wrap, IntKind.bits, IntKind.signed]; omega
theorem keep_alloc8 {w w' : World} (h : Below w.heap.size w w') (o : Obj) : Below w.heap.size w (w'.alloc o) := h.alloc h.size o
theorem keep_drew8 {w w' : World} (h : Below w.heap.size w w') : Below w.heap.size w w'.drew := h.drew
theorem own_below {w w' : World} {base : Nat} {e : TypeId} {size : Nat} {v : Value} {n : Nat} {xs : List Value} (h : w.ownsRow base e size v n xs) (hb : Below w.heap.size w w') : w'.ownsRow base e size v n xs := by
  refine h.kept (row := none) ⟨hb.os, hb.tape, hb.output, hb.size, fun k hk _ => hb.block k hk⟩ ?_
  cases v.ownBlock
  · exact .inl rfl
  · exact .inr (by simp)
theorem text_own (s : ByteArray) : textF s.size (byteZ s) = s := by
  unfold textF strOfNums
  obtain ⟨⟨l⟩⟩ := s
  congr 2
  refine List.ext_getElem (by simp [ByteArray.size]) fun i h1 h2 => ?_
  simp [byteZ, ByteArray.size] at h1 ⊢
  have h1' : i < l.length := by simpa using h2
  rw [List.getElem?_eq_getElem h1']
  rfl
open Go.ChangeShapes Go.WideShapes Go.ChangeAt Go.RowKit
set_option linter.unusedVariables false
set_option linter.unusedSimpArgs false
/-- The elements as a function. -/
def gF (l : List Int) : Nat → Int := fun i => l.getD i 0
theorem gF_byt {l : Bs} (h : Byt l) : ∀ i, 0 ≤ gF l i ∧ gF l i < 256 := fun i => by
  unfold gF
  rw [List.getD_eq_getElem?_getD]
  cases hi : l[i]? with
  | none => simp
  | some x => simp; exact h x (List.mem_of_getElem? hi)
theorem gF_get {l : List Int} {i : Nat} (h : i < l.length) : l[i]? = some (gF l i) := by
  unfold gF
  rw [List.getD_eq_getElem?_getD, List.getElem?_eq_getElem h]; rfl
/-- A list of elements of sz cells each; its block satisfies A. -/
def LstA {α : Type} (sz : Nat) (el : Nat → Nat → α → Prop) (A : Nat → Prop) (v : Value) (l : List α) : Prop :=
  ∃ a c, v = .slice a l.length c ∧ (Head a l.length c ∧ c ≤ maxLen) ∧ (∀ x, a = some x → A x.block) ∧ (l = [] ∨ ∃ b off, a = some ⟨b, off, none⟩ ∧ ∀ i x, l[i]? = some x → el b (off + i * sz) x)
theorem LstA.map {α : Type} {sz : Nat} {el el' : Nat → Nat → α → Prop} {A A' : Nat → Prop} {v : Value} {l : List α} (h : LstA sz el A v l) (h1 : ∀ k, A k → A' k) (h2 : ∀ b o x, A b → x ∈ l → el b o x → el' b o x) : LstA sz el' A' v l := by
  obtain ⟨a, c, e, hh, hA, hl⟩ := h
  refine ⟨a, c, e, hh, fun x e => h1 _ (hA x e), hl.imp id fun ⟨b, off, e, hc⟩ => ⟨b, off, e, fun i x hx => ?_⟩⟩
  exact h2 b _ x (hA ⟨b, off, none⟩ e) (List.mem_of_getElem? hx) (hc i x hx)
theorem LstA.nil {α : Type} {sz : Nat} {el : Nat → Nat → α → Prop} {A : Nat → Prop} : LstA sz el A (.slice none 0 0) [] := ⟨none, 0, rfl, ⟨⟨Nat.le_refl _, fun _ => rfl⟩, Nat.zero_le _⟩, (fun x e => by cases e), .inl rfl⟩
/-- A number there. -/
def NumAt (k : IntKind) (w : World) (b o : Nat) (x : Int) : Prop := w.cell? ⟨b, o, none⟩ = some (.int k x)
def IsBytes (A : Nat → Prop) (w : World) (v : Value) (l : Bs) : Prop := LstA 1 (NumAt .u8 w) A v l ∧ Byt l
def Wrd (l : List Int) : Prop := ∀ x ∈ l, 0 ≤ x ∧ x < 4294967296
def IsWords (A : Nat → Prop) (w : World) (v : Value) (l : List Int) : Prop := LstA 1 (NumAt .u32 w) A v l ∧ Wrd l
/-- A relocation there. -/
def RelAt (w : World) (b o : Nat) (r : RelM) : Prop :=
  w.cell? ⟨b, o, none⟩ = some (.int .i64 r.at_) ∧ w.cell? ⟨b, o + 1, none⟩ = some (.int .i64 r.kind) ∧ w.cell? ⟨b, o + 2, none⟩ = some (.string r.name) ∧ w.cell? ⟨b, o + 3, none⟩ = some (.int .i64 r.add) ∧ r.name.size ≤ maxLen
def IsRels (A : Nat → Prop) (w : World) (v : Value) (l : List RelM) : Prop := LstA 4 (RelAt w) A v l
def FuncAt (A : Nat → Prop) (w : World) (b o : Nat) (f : FuncM) : Prop :=
  ∃ vc vr, w.cell? ⟨b, o, none⟩ = some (.string f.name) ∧ w.cell? ⟨b, o + 1, none⟩ = some (.int .i64 f.bind) ∧ w.cell? ⟨b, o + 2, none⟩ = some vc ∧ w.cell? ⟨b, o + 3, none⟩ = some vr ∧ IsWords A w vc f.code ∧ IsRels A w vr f.rels ∧ f.name.size ≤ maxLen
def IsFuncs (A : Nat → Prop) (w : World) (v : Value) (l : List FuncM) : Prop := LstA 4 (FuncAt A w) A v l
def DataAt (A : Nat → Prop) (w : World) (b o : Nat) (d : DataM) : Prop :=
  ∃ vb vr, w.cell? ⟨b, o, none⟩ = some (.string d.name) ∧ w.cell? ⟨b, o + 1, none⟩ = some (.int .i64 d.bind) ∧ w.cell? ⟨b, o + 2, none⟩ = some (.int .i64 d.align) ∧ w.cell? ⟨b, o + 3, none⟩ = some (.bool d.fixed) ∧ w.cell? ⟨b, o + 4, none⟩ = some (.int .i64 d.size) ∧
    w.cell? ⟨b, o + 5, none⟩ = some vb ∧ w.cell? ⟨b, o + 6, none⟩ = some vr ∧ IsBytes A w vb d.bytes ∧ IsRels A w vr d.rels ∧ d.name.size ≤ maxLen
def IsDatas (A : Nat → Prop) (w : World) (v : Value) (l : List DataM) : Prop := LstA 7 (DataAt A w) A v l
def NoteAt (w : World) (b o : Nat) (x : NoteM) : Prop := w.cell? ⟨b, o, none⟩ = some (.string x.name) ∧ w.cell? ⟨b, o + 1, none⟩ = some (.int .i64 x.kind) ∧ x.name.size ≤ maxLen
def IsNotes (A : Nat → Prop) (w : World) (v : Value) (l : List NoteM) : Prop := LstA 2 (NoteAt w) A v l
def IsObj (A : Nat → Prop) (w : World) (v : Value) (o : ObjM) : Prop := ∃ vf vd vn, v = .agg #[vf, vd, vn] ∧ IsFuncs A w vf o.funcs ∧ IsDatas A w vd o.datas ∧ IsNotes A w vn o.notes
/-- Blocks of A stand. -/
def Stay (A : Nat → Prop) (w w' : World) : Prop := ∀ k, A k → k < w.heap.size → w'.heap[k]? = w.heap[k]?
theorem Stay.of_below {A : Nat → Prop} {w w' : World} (h : Below w.heap.size w w') : Stay A w w' := fun k _ hk => h.block k hk
theorem Stay.cell {A : Nat → Prop} {w w' : World} (h : Stay A w w') {b o : Nat} {v : Value} (hb : A b) (hc : w.cell? ⟨b, o, none⟩ = some v) : w'.cell? ⟨b, o, none⟩ = some v :=
  (World.cell?_of_block (a := ⟨b, o, none⟩) (h b hb (World.block_lt_of_cell? w _ hc))).trans hc
theorem Stay.of_apart {A O : Nat → Prop} {w w' : World} (h : Apart O w w') (hA : ∀ k, A k → ¬ O k) : Stay A w w' := fun k h1 h2 => h.block k h2 (hA k h1)
theorem IsBytes.keep {A : Nat → Prop} {w w' : World} {v : Value} {l : Bs} (h : IsBytes A w v l) (hk : Stay A w w') : IsBytes A w' v l := ⟨h.1.map (fun _ h => h) fun b o x hb _ hc => hk.cell hb hc, h.2⟩
theorem IsWords.keep {A : Nat → Prop} {w w' : World} {v : Value} {l : List Int} (h : IsWords A w v l) (hk : Stay A w w') : IsWords A w' v l := ⟨h.1.map (fun _ h => h) fun b o x hb _ hc => hk.cell hb hc, h.2⟩
theorem RelAt.keep {A : Nat → Prop} {w w' : World} {b o : Nat} {r : RelM} (h : RelAt w b o r) (hk : Stay A w w') (hb : A b) : RelAt w' b o r := ⟨hk.cell hb h.1, hk.cell hb h.2.1, hk.cell hb h.2.2.1, hk.cell hb h.2.2.2.1, h.2.2.2.2⟩
theorem IsRels.keep {A : Nat → Prop} {w w' : World} {v : Value} {l : List RelM} (h : IsRels A w v l) (hk : Stay A w w') : IsRels A w' v l := LstA.map h (fun _ h => h) fun b o x hb _ hc => hc.keep hk hb
theorem FuncAt.keep {A : Nat → Prop} {w w' : World} {b o : Nat} {f : FuncM} (h : FuncAt A w b o f) (hk : Stay A w w') (hb : A b) : FuncAt A w' b o f := by
  obtain ⟨vc, vr, h1, h2, h3, h4, h5, h6, h7⟩ := h
  exact ⟨vc, vr, hk.cell hb h1, hk.cell hb h2, hk.cell hb h3, hk.cell hb h4, h5.keep hk, h6.keep hk, h7⟩
theorem IsFuncs.keep {A : Nat → Prop} {w w' : World} {v : Value} {l : List FuncM} (h : IsFuncs A w v l) (hk : Stay A w w') : IsFuncs A w' v l := LstA.map h (fun _ h => h) fun b o x hb _ hc => hc.keep hk hb
theorem DataAt.keep {A : Nat → Prop} {w w' : World} {b o : Nat} {d : DataM} (h : DataAt A w b o d) (hk : Stay A w w') (hb : A b) : DataAt A w' b o d := by
  obtain ⟨vb, vr, h1, h2, h3, h4, h5, h6, h7, h8, h9, h10⟩ := h
  exact ⟨vb, vr, hk.cell hb h1, hk.cell hb h2, hk.cell hb h3, hk.cell hb h4, hk.cell hb h5, hk.cell hb h6, hk.cell hb h7, h8.keep hk, h9.keep hk, h10⟩
theorem IsDatas.keep {A : Nat → Prop} {w w' : World} {v : Value} {l : List DataM} (h : IsDatas A w v l) (hk : Stay A w w') : IsDatas A w' v l := LstA.map h (fun _ h => h) fun b o x hb _ hc => hc.keep hk hb
theorem NoteAt.keep {A : Nat → Prop} {w w' : World} {b o : Nat} {x : NoteM} (h : NoteAt w b o x) (hk : Stay A w w') (hb : A b) : NoteAt w' b o x := ⟨hk.cell hb h.1, hk.cell hb h.2.1, h.2.2⟩
theorem IsNotes.keep {A : Nat → Prop} {w w' : World} {v : Value} {l : List NoteM} (h : IsNotes A w v l) (hk : Stay A w w') : IsNotes A w' v l := LstA.map h (fun _ h => h) fun b o x hb _ hc => hc.keep hk hb
theorem IsObj.keep {A : Nat → Prop} {w w' : World} {v : Value} {o : ObjM} (h : IsObj A w v o) (hk : Stay A w w') : IsObj A w' v o := by
  obtain ⟨vf, vd, vn, e, h1, h2, h3⟩ := h
  exact ⟨vf, vd, vn, e, h1.keep hk, h2.keep hk, h3.keep hk⟩
theorem IsBytes.wide {A A' : Nat → Prop} {w : World} {v : Value} {l : Bs} (h : IsBytes A w v l) (hA : ∀ k, A k → A' k) : IsBytes A' w v l := ⟨h.1.map hA fun b o x hb _ hc => hc, h.2⟩
theorem IsWords.wide {A A' : Nat → Prop} {w : World} {v : Value} {l : List Int} (h : IsWords A w v l) (hA : ∀ k, A k → A' k) : IsWords A' w v l := ⟨h.1.map hA fun b o x hb _ hc => hc, h.2⟩
theorem IsRels.wide {A A' : Nat → Prop} {w : World} {v : Value} {l : List RelM} (h : IsRels A w v l) (hA : ∀ k, A k → A' k) : IsRels A' w v l := LstA.map h hA fun b o x hb _ hc => hc
theorem FuncAt.wide {A A' : Nat → Prop} {w : World} {b o : Nat} {f : FuncM} (h : FuncAt A w b o f) (hA : ∀ k, A k → A' k) : FuncAt A' w b o f := by
  obtain ⟨vc, vr, h1, h2, h3, h4, h5, h6, h7⟩ := h
  exact ⟨vc, vr, h1, h2, h3, h4, h5.wide hA, h6.wide hA, h7⟩
theorem DataAt.wide {A A' : Nat → Prop} {w : World} {b o : Nat} {d : DataM} (h : DataAt A w b o d) (hA : ∀ k, A k → A' k) : DataAt A' w b o d := by
  obtain ⟨vb, vr, h1, h2, h3, h4, h5, h6, h7, h8, h9, h10⟩ := h
  exact ⟨vb, vr, h1, h2, h3, h4, h5, h6, h7, h8.wide hA, h9.wide hA, h10⟩
theorem IsFuncs.wide {A A' : Nat → Prop} {w : World} {v : Value} {l : List FuncM} (h : IsFuncs A w v l) (hA : ∀ k, A k → A' k) : IsFuncs A' w v l := LstA.map h hA fun b o x hb _ hc => hc.wide hA
theorem IsDatas.wide {A A' : Nat → Prop} {w : World} {v : Value} {l : List DataM} (h : IsDatas A w v l) (hA : ∀ k, A k → A' k) : IsDatas A' w v l := LstA.map h hA fun b o x hb _ hc => hc.wide hA
theorem IsNotes.wide {A A' : Nat → Prop} {w : World} {v : Value} {l : List NoteM} (h : IsNotes A w v l) (hA : ∀ k, A k → A' k) : IsNotes A' w v l := LstA.map h hA fun b o x hb _ hc => hc
theorem IsObj.wide {A A' : Nat → Prop} {w : World} {v : Value} {o : ObjM} (h : IsObj A w v o) (hA : ∀ k, A k → A' k) : IsObj A' w v o := by
  obtain ⟨vf, vd, vn, e, h1, h2, h3⟩ := h
  exact ⟨vf, vd, vn, e, h1.wide hA, h2.wide hA, h3.wide hA⟩
/-- A list's bytes as the other texts have them. -/
theorem IsBytes.row {A : Nat → Prop} {w : World} {v : Value} {l : Bs} (h : IsBytes A w v l) : ∃ a c, v = .slice a l.length c ∧ (Head a l.length c ∧ c ≤ maxLen) ∧ Bytes w a l.length (gF l) ∧ (∀ x, a = some x → A x.block) := by
  obtain ⟨⟨a, c, e, hh, hA, hl⟩, hb⟩ := h
  refine ⟨a, c, e, hh, ⟨gF_byt hb, ?_⟩, hA⟩
  rcases hl with rfl | ⟨b, off, e, hc⟩
  · exact .inl rfl
  · exact .inr ⟨b, off, e, fun i hi => by have := hc i _ (gF_get hi); rwa [Nat.mul_one] at this⟩
theorem IsBytes.mk {A : Nat → Prop} {w : World} {a : Option Addr} {c : Nat} {l : Bs} (hh : Head a l.length c) (hc : c ≤ maxLen) (hA : ∀ x, a = some x → A x.block) (hb : Byt l) (h : Bytes w a l.length (gF l)) : IsBytes A w (.slice a l.length c) l := by
  refine ⟨⟨a, c, rfl, ⟨hh, hc⟩, hA, ?_⟩, hb⟩
  rcases h.2 with h | ⟨b, off, e, hc⟩
  · exact .inl (List.eq_nil_of_length_eq_zero h)
  · refine .inr ⟨b, off, e, fun i x hx => ?_⟩
    have hi : i < l.length := by
      rcases Nat.lt_or_ge i l.length with h | h
      · exact h
      · rw [List.getElem?_eq_none h] at hx; cases hx
    have h1 := hc i hi
    rw [gF_get hi] at hx
    cases hx
    rw [Nat.mul_one]; exact h1
/-- A block of one's own: its cells, and that it may be written to. -/
def XAt (w : World) (X : Nat) (cs : List Value) : Prop := (∀ j v, cs[j]? = some v → w.cell? ⟨X, j, none⟩ = some v) ∧ ∀ j, w.frozen? ⟨X, j, none⟩ = false
theorem XAt.new (w : World) (cs : Array Value) (t : TypeId) : XAt (w.alloc (.cells cs t)) w.heap.size cs.toList :=
  ⟨fun j v h => new_cell' w cs t j v (by rw [← Array.getElem?_toList]; exact h), fun j => by simp [go_sem]⟩
theorem XAt.keep {w w' : World} {X : Nat} {cs : List Value} (h : XAt w X cs) (hk : w'.heap[X]? = w.heap[X]?) : XAt w' X cs :=
  ⟨fun j v hj => (World.cell?_of_block (a := ⟨X, j, none⟩) hk).trans (h.1 j v hj), fun j => (World.frozen?_of_block (a := ⟨X, j, none⟩) hk).trans (h.2 j)⟩
theorem XAt.lt {w : World} {X : Nat} {cs : List Value} (h : XAt w X cs) (hn : cs ≠ []) : X < w.heap.size := by
  cases cs with
  | nil => exact absurd rfl hn
  | cons v l => exact World.block_lt_of_cell? w ⟨X, 0, none⟩ (h.1 0 v rfl)
theorem XAt.set {w : World} {X : Nat} {cs : List Value} (h : XAt w X cs) (i : Nat) (hi : i < cs.length) (v : Value) : XAt (w.setCell ⟨X, i, none⟩ v) X (cs.set i v) := by
  refine ⟨fun j u hj => ?_, fun j => by have := h.2 j; simpa using this⟩
  by_cases e : i = j
  · subst e
    rw [List.getElem?_set_self (by omega)] at hj
    cases hj
    exact World.cell?_setCell_same _ _ _ (h.1 i _ (List.getElem?_eq_getElem hi))
  · rw [List.getElem?_set_ne e] at hj
    exact (World.cell?_setCell_other _ _ _ _ (fun q => e (by injection q))).trans (h.1 j u hj)
theorem XAt.later {w w' : World} {X : Nat} {cs : List Value} (h : XAt w X cs) (hX : X < w.heap.size) (hb : Below w.heap.size w w') : XAt w' X cs := h.keep (hb.block X hX)
theorem XAt.apart {O : Nat → Prop} {w w' : World} {X : Nat} {cs : List Value} (h : XAt w X cs) (hX : X < w.heap.size) (hb : Apart O w w') (hn : ¬ O X) : XAt w' X cs := h.keep (hb.block X hX hn)
/-- A store into a block that came later. -/
theorem low_set {B : Nat} {w : World} {X i : Nat} (v : Value) (hX : B ≤ X) : Below B w (w.setCell ⟨X, i, none⟩ v) := (Below.refl _ _).setCell (p := ⟨X, i, none⟩) hX _
open Go.ChangeShapes Go.WideShapes Go.ChangeAt Go.RowKit
set_option linter.unusedVariables false
set_option linter.unusedSimpArgs false
set_option maxRecDepth 100000 in
theorem rnamed9_any (s : ByteArray) (w : World) (hs : s.size ≤ 9223372036854775807) :
    Calls Tryz.prog 50 #[.string s] w fun e w' => e = .returned (.bool (namedB s)) ∧ w' = w := by
  obtain ⟨b, eb⟩ : ∃ b, namedB s = b := ⟨_, rfl⟩
  have EB : Hid (namedB s = b) := eb
  rw [eb]
  clear eb
  have IX : ∀ (k : Nat) (W : World), k < s.size → (Instr.index 9 (.string s) (.int .i64 k)).run Tryz.prog W = .ok (.int .u8 (byteZ s k)) W := fun k W hk => index_str 9 Tryz.underlying9 s k W hk
  rcases (by omega : (s.size : Int) < 1 ∨ 32 < (s.size : Int) ∧ 1 ≤ (s.size : Int) ∨ 1 ≤ (s.size : Int) ∧ (s.size : Int) ≤ 32) with h1 | ⟨h1, h2⟩ | ⟨h1, h2⟩
  · go_enter Tryz.func50, Tryz.ntmps50
    go_wp2
    go_ret
    refine ⟨ret_bool ?_, rfl⟩
    rw [← EB.out]
    unfold namedB
    symm; rw [decide_eq_false_iff_not]; omega
  · go_enter Tryz.func50, Tryz.ntmps50
    go_wp2
    go_ret
    refine ⟨ret_bool ?_, rfl⟩
    rw [← EB.out]
    unfold namedB
    symm; rw [decide_eq_false_iff_not]; omega
  · go_enter Tryz.func50, Tryz.ntmps50
    go_wp2
    go_loop [3] (fun i => ∃ k : Nat, k ≤ s.size ∧ i = .int .i64 k ∧ ∀ j, j < k → letterB (byteZ s j) = true) (fun i => s.size - (intOf i).toNat)
    case atStart => exact ⟨0, Nat.zero_le _, rfl, fun j hj => by omega⟩
    case round =>
      obtain ⟨k, hk, rfl, hl⟩ := hrel
      have HL : Hid (∀ j, j < k → letterB (byteZ s j) = true) := hl
      clear hl
      by_cases hlt : k < s.size
      · have hlt' : (k : Int) < s.size := by omega
        have hix := IX k
        have hbd := byteZ_bd s k
        obtain ⟨c, ec⟩ : ∃ c, byteZ s k = c := ⟨_, rfl⟩
        have EC : Hid (byteZ s k = c) := ec
        rw [ec] at hix hbd
        clear ec IX
        go_wp2
        all_goals (try simp only [bne_iff_ne, ne_eq, bne_eq_false_iff_eq] at *)
        all_goals first
          | (refine ⟨⟨k + 1, by omega, by go_num, fun j hj => ?_⟩, by simp [intOf]; omega⟩
             rcases (by omega : j < k ∨ j = k) with h | rfl
             · exact HL.out j h
             · rw [EC.out]; unfold letterB; rw [decide_eq_true_eq]; omega)
          | (go_ret
             refine ⟨ret_bool ?_, rfl⟩
             rw [← EB.out]
             unfold namedB
             symm; rw [decide_eq_false_iff_not]
             intro h
             have h := h.2.2 k hlt
             rw [EC.out] at h
             unfold letterB at h
             rw [decide_eq_true_eq] at h
             omega)
      · obtain rfl : k = s.size := by omega
        go_wp2
        go_ret
        refine ⟨ret_bool ?_, rfl⟩
        rw [← EB.out]
        unfold namedB
        symm; rw [decide_eq_true_eq]
        exact ⟨by omega, by omega, HL.out⟩
open Go.ChangeShapes Go.WideShapes Go.ChangeAt Go.RowKit
set_option linter.unusedVariables false
set_option linter.unusedSimpArgs false
theorem list_gF (l : List Int) : (List.range l.length).map (gF l) = l := by
  refine List.ext_getElem? fun i => ?_
  by_cases h : i < l.length
  · rw [gF_get h]; simp [h]
  · rw [List.getElem?_eq_none (by simp; omega), List.getElem?_eq_none (by omega)]
theorem sumL_snoc (l : Bs) (x : Int) : sumL (l ++ [x]) = sumL l + x * 256 ^ l.length := by
  induction l with
  | nil => simp [sumL]
  | cons y l ih =>
    show y + 256 * sumL (l ++ [x]) = y + 256 * sumL l + x * 256 ^ (l.length + 1)
    rw [ih, Int.pow_succ, Int.mul_add, Int.add_assoc]
    congr 2
    rw [Int.mul_comm 256, Int.mul_assoc]
theorem sumL_F (f : Nat → Int) : ∀ n, sumL ((List.range n).map f) = sumZ f n
  | 0 => rfl
  | n + 1 => by rw [List.range_succ, List.map_append, List.map_singleton, sumL_snoc, sumL_F f n, List.length_map, List.length_range]; rfl
theorem sumL_gF (l : Bs) : sumL l = sumZ (gF l) l.length := by rw [← sumL_F, list_gF]
theorem textL_gF (l : Bs) : textL l = textF l.length (gF l) := by unfold textL textF; rw [list_gF]
theorem take_len (n : Nat) (s : St) : (takeR n s).1.length = n := by
  cases s with
  | bad e => simp [takeR]
  | good b =>
    unfold takeR
    dsimp only
    split
    · rw [List.length_take]; omega
    · simp
/-- The bytes left, or the first error. -/
def RdS (er : Int) (i N : Nat) (F : Nat → Int) : St → Prop
  | .good b => er = 0 ∧ b.length = N - i ∧ ∀ j, j < N - i → gF b j = F (j + i)
  | .bad e => er = e ∧ (e = 2 ∨ e = 4)
/-- The block g holds a reader that stands there; it and its bytes lie below B. -/
def Rd (B N : Nat) (w : World) (g : Nat) (s : St) : Prop :=
  ∃ a c i F er, (w.cell? ⟨g, 0, none⟩ = some (.slice a N c) ∧ w.cell? ⟨g, 1, none⟩ = some (.int .i64 (i : Nat)) ∧ w.cell? ⟨g, 2, none⟩ = some (.int .i64 er)) ∧ (w.frozen? ⟨g, 1, none⟩ = false ∧ w.frozen? ⟨g, 2, none⟩ = false) ∧
    (Head a N c ∧ Bytes w a N F) ∧ ((∀ x, a = some x → N ≠ 0 → x.block ≠ g ∧ x.block < B) ∧ g < B ∧ B ≤ w.heap.size) ∧ (i ≤ N ∧ N ≤ 20000) ∧ RdS er i N F s
abbrev G1 (g : Nat) : Nat → Prop := fun k => k = g
theorem Rd.lt {B N : Nat} {w : World} {g : Nat} {s : St} (h : Rd B N w g s) : g < w.heap.size := by
  obtain ⟨a, c, i, F, er, ⟨h0, _⟩, _⟩ := h
  exact World.block_lt_of_cell? w ⟨g, 0, none⟩ h0
theorem Rd.base {B N : Nat} {w : World} {g : Nat} {s : St} (h : Rd B N w g s) : g < B ∧ B ≤ w.heap.size := by
  obtain ⟨a, c, i, F, er, _, _, _, ⟨_, h1, h2⟩, _⟩ := h
  exact ⟨h1, h2⟩
theorem bytes_low {B : Nat} {w w' : World} {a : Option Addr} {n : Nat} {f : Nat → Int} (h : Bytes w a n f) (hb : Below B w w') (ha : ∀ x, a = some x → n ≠ 0 → x.block < B) : Bytes w' a n f :=
  ⟨h.1, h.2.imp id fun ⟨b, off, e, hc⟩ => ⟨b, off, e, fun i hi => (hb.cell (p := ⟨b, off + i, none⟩) (ha ⟨b, off, none⟩ e (by omega))).trans (hc i hi)⟩⟩
theorem bytes_set9 {w : World} {a : Option Addr} {n : Nat} {f : Nat → Int} (h : Bytes w a n f) {g : Nat} (hf : ∀ b off, a = some ⟨b, off, none⟩ → n ≠ 0 → b ≠ g) (o : Nat) (v : Value) : Bytes (w.setCell ⟨g, o, none⟩ v) a n f := by
  by_cases h0 : n = 0
  · exact ⟨h.1, .inl h0⟩
  · exact h.set (fun b off e => hf b off e h0) o v
/-- What lies below B stands. -/
theorem Rd.low {B N : Nat} {w w' : World} {g : Nat} {s : St} (h : Rd B N w g s) (hb : Below B w w') : Rd B N w' g s := by
  obtain ⟨a, c, i, F, er, ⟨h0, h1, h2⟩, ⟨z1, z2⟩, ⟨hh, hr⟩, ⟨ha, hg, hB⟩, hi, hs⟩ := h
  exact ⟨a, c, i, F, er, ⟨(hb.cell (p := ⟨g, 0, none⟩) hg).trans h0, (hb.cell (p := ⟨g, 1, none⟩) hg).trans h1, (hb.cell (p := ⟨g, 2, none⟩) hg).trans h2⟩, ⟨(hb.frozen (p := ⟨g, 1, none⟩) hg).trans z1, (hb.frozen (p := ⟨g, 2, none⟩) hg).trans z2⟩, ⟨hh, bytes_low hr hb fun x e hn => (ha x e hn).2⟩, ⟨ha, hg, Nat.le_trans hB hb.size⟩, hi, hs⟩
theorem Rd.later {B N : Nat} {w w' : World} {g : Nat} {s : St} (h : Rd B N w g s) (hb : Below w.heap.size w w') : Rd B N w' g s := h.low (hb.mono h.base.2)
theorem Rd.byt {B N : Nat} {w : World} {g : Nat} {b : Bs} (h : Rd B N w g (.good b)) : Byt b ∧ b.length ≤ 20000 := by
  obtain ⟨a, c, i, F, er, _, _, ⟨hh, hr⟩, ha, hi, ⟨h1, h2, h3⟩⟩ := h
  refine ⟨fun x hx => ?_, by omega⟩
  obtain ⟨j, hj⟩ := List.mem_iff_getElem?.mp hx
  have hl : j < b.length := by
    rcases Nat.lt_or_ge j b.length with h | h
    · exact h
    · rw [List.getElem?_eq_none h] at hj; cases hj
  rw [gF_get hl, h3 j (by omega)] at hj
  cases hj
  exact hr.1 _
theorem apart_set {w w' : World} {g o : Nat} {v : Value} (h : Below w.heap.size w w') : Apart (G1 g) w (w'.setCell ⟨g, o, none⟩ v) :=
  ⟨h.os, h.tape, h.output, by have := h.size; simp; omega, fun j hj hn => (Below.heap_setCell _ _ _ _ (by simp only [ne_eq]; intro e; exact hn e)).trans (h.block j hj)⟩
theorem Apart.then {O : Nat → Prop} {w w1 w2 : World} (h : Apart O w w1) (hb : Below w1.heap.size w1 w2) : Apart O w w2 := h.trans (Apart.of_below (O := fun _ => False) hb) fun _ h => h.elim
theorem gF_replicate (n i : Nat) : gF (List.replicate n (0 : Int)) i = 0 := by
  unfold gF
  rw [List.getD_eq_getElem?_getD, List.getElem?_replicate]
  split <;> rfl
theorem gF_take {b : Bs} {n j : Nat} (h : j < n) : gF (b.take n) j = gF b j := by
  unfold gF
  rw [List.getD_eq_getElem?_getD, List.getD_eq_getElem?_getD, List.getElem?_take_of_lt h]
theorem gF_drop {b : Bs} {n j : Nat} : gF (b.drop n) j = gF b (j + n) := by
  unfold gF
  rw [List.getD_eq_getElem?_getD, List.getD_eq_getElem?_getD, List.getElem?_drop, Nat.add_comm]
/-- An error is met. -/
theorem rd_set {B N : Nat} {w w0 : World} {g : Nat} {b : Bs} (h : Rd B N w g (.good b)) (hb : Below w.heap.size w w0) (er : Int) (he : er = 2 ∨ er = 4) : Rd B N (w0.setCell ⟨g, 2, none⟩ (.int .i64 er)) g (.bad er) := by
  obtain ⟨a, c, i, F, e0, ⟨h0, h1, h2⟩, ⟨z1, z2⟩, ⟨hh, hr⟩, ha, hi, hs⟩ := h.later hb
  refine ⟨a, c, i, F, er, ⟨?_, ?_, World.cell?_setCell_same _ _ _ h2⟩, ⟨by simpa using z1, by simpa using z2⟩, ⟨hh, bytes_set9 hr (fun b off e hn => (ha.1 _ e hn).1) 2 _⟩, ⟨ha.1, ha.2.1, by simpa using ha.2.2⟩, hi, rfl, he⟩
  · exact (World.cell?_setCell_other _ _ _ _ (by simp)).trans h0
  · exact (World.cell?_setCell_other _ _ _ _ (by simp)).trans h1
/-- So many are taken. -/
theorem rd_moved {B N : Nat} {w w0 w2 : World} {g : Nat} {a : Option Addr} {c i n : Nat} {F : Nat → Int} {b : Bs} (hb : Below w.heap.size w w0) (HC : w.cell? ⟨g, 0, none⟩ = some (.slice a N c) ∧ w.cell? ⟨g, 1, none⟩ = some (.int .i64 (i : Nat)) ∧ w.cell? ⟨g, 2, none⟩ = some (.int .i64 0) ∧ w.frozen? ⟨g, 1, none⟩ = false ∧ w.frozen? ⟨g, 2, none⟩ = false)
    (HH : Head a N c ∧ Bytes w a N F) (HA : (∀ x, a = some x → N ≠ 0 → x.block ≠ g ∧ x.block < B) ∧ g < B ∧ B ≤ w.heap.size) (HF : b.length = N - i ∧ ∀ j, j < N - i → gF b j = F (j + i)) (hk : i + n ≤ N) (hN : N ≤ 20000) (h2 : Below (w0.setCell ⟨g, 1, none⟩ (.int .i64 ((i : Int) + n))).heap.size (w0.setCell ⟨g, 1, none⟩ (.int .i64 ((i : Int) + n))) w2) :
    (Head (fromA a c i) n (c - i) ∧ Bytes w2 (fromA a c i) n (gF (b.take n))) ∧ (∀ x, fromA a c i = some x → n ≠ 0 → x.block ≠ g) ∧ Rd B N w2 g (.good (b.drop n)) ∧ Apart (G1 g) w w2 := by
  obtain ⟨h0, h1, he, z1, z2⟩ := HC
  have hg : g < w.heap.size := World.block_lt_of_cell? w ⟨g, 0, none⟩ h0
  have hg0 : g < w0.heap.size := Nat.lt_of_lt_of_le hg hb.size
  have F1 : Bytes (w0.setCell ⟨g, 1, none⟩ (.int .i64 ((i : Int) + n))) a N F := bytes_set9 (HH.2.later hb) (fun b off e hn => (HA.1 _ e hn).1) 1 _
  have F2 := F1.later h2
  have bd : ∀ j, 0 ≤ gF (b.take n) j ∧ gF (b.take n) j < 256 := fun j => by
    rcases Nat.lt_or_ge j n with h | h
    · rw [gF_take h, HF.2 j (by omega)]; exact HH.2.1 _
    · unfold gF; rw [List.getD_eq_getElem?_getD, List.getElem?_eq_none (by rw [List.length_take]; omega)]; decide
  refine ⟨⟨⟨by have := HH.1.1; omega, fun e => by have := HH.1.2 (fromA_nil e); omega⟩, bd, ?_⟩, fun x e hn0 => ?_, ?_, (apart_set hb).then h2⟩
  · refine (fromA_part F2 HH.1 hk).2.imp id fun ⟨q, off, e, hc⟩ => ⟨q, off, e, fun j hj => ?_⟩
    rw [gF_take hj, HF.2 j (by omega)]
    exact hc j hj
  · obtain ⟨y, e1, e2⟩ := fromA_block e
    rw [e2]; exact (HA.1 y e1 (by omega)).1
  · refine Rd.later ?_ h2
    refine ⟨a, c, i + n, F, 0, ⟨?_, ?_, ?_⟩, ⟨?_, ?_⟩, ⟨HH.1, F1⟩, ⟨HA.1, HA.2.1, by have := HA.2.2; have := hb.size; simp; omega⟩, ⟨hk, hN⟩, rfl, by rw [List.length_drop]; omega, fun j hj => ?_⟩
    · exact (World.cell?_setCell_other _ _ _ _ (by simp)).trans (cell_later' h0 hb)
    · rw [World.cell?_setCell_same _ _ _ (cell_later' h1 hb), Int.natCast_add]
    · exact (World.cell?_setCell_other _ _ _ _ (by simp)).trans (cell_later' he hb)
    · have := (hb.frozen (p := ⟨g, 1, none⟩) hg).trans z1; simpa using this
    · have := (hb.frozen (p := ⟨g, 2, none⟩) hg).trans z2; simpa using this
    · rw [gF_drop, HF.2 (j + n) (by omega)]; congr 1; omega
theorem takeR_byt (n : Nat) (s : St) (h : ∀ b, s = .good b → Byt b) : Byt (takeR n s).1 := by
  cases s with
  | bad e => intro x hx; simp [takeR] at hx; omega
  | good b =>
    unfold takeR
    dsimp only
    split
    · exact fun x hx => h b rfl x (List.mem_of_mem_take hx)
    · intro x hx; simp at hx; omega
theorem numR_bd {n : Nat} {s : St} (h : ∀ b, s = .good b → Byt b) : 0 ≤ (numR n s).1 ∧ (numR n s).1 < 256 ^ n := by
  have := sumL_bd _ (takeR_byt n s h)
  rwa [take_len] at this
theorem Rd.good_byt {B N : Nat} {w : World} {g : Nat} {s : St} (h : Rd B N w g s) : ∀ b, s = .good b → Byt b := fun b e => by subst e; exact h.byt.1
open Go.ChangeShapes Go.WideShapes Go.ChangeAt Go.RowKit
set_option linter.unusedVariables false
set_option linter.unusedSimpArgs false
theorem Rd.code {B Z : Nat} {w : World} {g : Nat} {s : St} (h : Rd B Z w g s) : (∃ b, s = .good b ∧ w.cell? ⟨g, 2, none⟩ = some (.int .i64 0)) ∨ (∃ e, s = .bad e ∧ w.cell? ⟨g, 2, none⟩ = some (.int .i64 e) ∧ (e == 0) = false) := by
  obtain ⟨a, c, i, F, er, ⟨h0, h1, h2⟩, _, _, _, _, hs⟩ := h
  cases s with
  | good b => obtain ⟨rfl, _⟩ := hs; exact .inl ⟨b, rfl, h2⟩
  | bad e => obtain ⟨rfl, he⟩ := hs; exact .inr ⟨_, rfl, h2, by rcases he with rfl | rfl <;> rfl⟩
theorem Apart.same {O : Nat → Prop} {w w1 w2 : World} (h1 : Apart O w w1) (h2 : Apart O w1 w2) : Apart O w w2 := h1.trans h2 fun _ h => .inl h
end Go.Proofs.YteakbpcmafdikaaGreatDoor
