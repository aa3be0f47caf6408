/- A scanner in memory: as the code has it. -/
import Derived.Test.YtlmijnaimdknnaaScanSpec
import Derived.Deep.Cut
import Derived.Deep.MidRow
import Derived.Deep.RegionHeld3
import Derived.Tactics
import Derived.Deep.AppendLies
import Derived.Defers
import Derived.Recover
import Derived.WalkLawsBesides
import Derived.Laws.Externs
namespace Go.Proofs.Ytlmijnaimdknnaa
open Go.ChangeShapes Go.WideShapes Go.ChangeAt Go.RowKit
set_option linter.unusedVariables false
set_option linter.unusedSimpArgs false
/-- The value is a scanner with n bytes left; its own blocks are among those of O. -/
def ScO (O : Nat → Prop) (w : World) (v : Value) (n : Nat) (f : Nat → Int) : Prop :=
  ∃ g a c, v = .pointer (some ⟨g, 0, none⟩) ∧ (O g ∧ ∀ k, O k → k < w.heap.size) ∧ w.frozen? ⟨g, 1, none⟩ = false ∧ (∀ x, a = some x → O x.block ∧ x.block ≠ g) ∧ ∃ i F, (w.cell? ⟨g, 0, none⟩ = some (.slice a (n + i) c) ∧ w.cell? ⟨g, 1, none⟩ = some (.int .i64 (i : Nat))) ∧ (Head a (n + i) c ∧ Bytes w a (n + i) F) ∧ f = (fun j => F (j + i)) ∧ n + i ≤ 2000000
/-- Outside O nothing that was there is turned. -/
structure Apart (O : Nat → Prop) (w w' : World) : Prop where
  os : w'.os = w.os
  tape : w'.tape = w.tape
  output : w'.output = w.output
  size : w.heap.size ≤ w'.heap.size
  block : ∀ k, k < w.heap.size → ¬ O k → w'.heap[k]? = w.heap[k]?
theorem Apart.refl (O : Nat → Prop) (w : World) : Apart O w w := ⟨rfl, rfl, rfl, Nat.le_refl _, fun _ _ _ => rfl⟩
theorem Apart.of_below {O : Nat → Prop} {w w' : World} (h : Below w.heap.size w w') : Apart O w w' := ⟨h.os, h.tape, h.output, h.size, fun k hk _ => h.block k hk⟩
theorem Apart.trans {O O' : Nat → Prop} {w w1 w2 : World} (h1 : Apart O w w1) (h2 : Apart O' w1 w2) (hO : ∀ k, O' k → O k ∨ w.heap.size ≤ k) : Apart O w w2 :=
  ⟨h2.os.trans h1.os, h2.tape.trans h1.tape, h2.output.trans h1.output, Nat.le_trans h1.size h2.size, fun k hk hn => (h2.block k (Nat.lt_of_lt_of_le hk h1.size) fun h => (hO k h).elim hn (fun h => by omega)).trans (h1.block k hk hn)⟩
theorem Apart.low {O : Nat → Prop} {w w' : World} (h : Apart O w w') {B : Nat} (hO : ∀ k, O k → B ≤ k) (hB : B ≤ w.heap.size) : Below B w w' :=
  ⟨h.os, h.tape, h.output, h.size, fun k hk => h.block k (by omega) fun h => by have := hO k h; omega⟩
theorem Apart.cell {O : Nat → Prop} {w w' : World} (h : Apart O w w') {p : Addr} {v : Value} (hc : w.cell? p = some v) (hn : ¬ O p.block) : w'.cell? p = some v :=
  (World.cell?_of_block (h.block p.block (World.block_lt_of_cell? w p hc) hn)).trans hc
theorem Apart.bytes {O : Nat → Prop} {w w' : World} (h : Apart O w w') {a : Option Addr} {n : Nat} {f : Nat → Int} (hb : Bytes w a n f) (hn : n ≠ 0 → ∀ x, a = some x → ¬ O x.block) : Bytes w' a n f := by
  by_cases h0 : n = 0
  · exact ⟨hb.1, .inl h0⟩
  · exact ⟨hb.1, hb.2.imp id fun ⟨b, off, e, hc⟩ => ⟨b, off, e, fun i hi => h.cell (hc i hi) (hn h0 ⟨b, off, none⟩ e)⟩⟩
theorem ScO.keep {O : Nat → Prop} {w w' : World} {v : Value} {n : Nat} {f : Nat → Int} (h : ScO O w v n f) (hs : w.heap.size ≤ w'.heap.size) (hk : ∀ k, k < w.heap.size → O k → w'.heap[k]? = w.heap[k]?) : ScO O w' v n f := by
  obtain ⟨g, a, c, e, ⟨h1, h2⟩, h4, h7, i, F, ⟨h3, h3'⟩, ⟨h5, h6⟩, hf, h8⟩ := h
  have hg := hk g (h2 g h1) h1
  refine ⟨g, a, c, e, ⟨h1, fun k h => Nat.lt_of_lt_of_le (h2 k h) hs⟩, (World.frozen?_of_block (a := ⟨g, 1, none⟩) hg).trans h4, h7, i, F, ⟨(World.cell?_of_block (a := ⟨g, 0, none⟩) hg).trans h3, (World.cell?_of_block (a := ⟨g, 1, none⟩) hg).trans h3'⟩, ⟨h5, h6.1, h6.2.imp id fun ⟨b, off, e, hc⟩ => ⟨b, off, e, fun i hi => ?_⟩⟩, hf, h8⟩
  have := (h7 _ e).1
  exact (World.cell?_of_block (a := ⟨b, off + i, none⟩) (hk b (h2 b this) this)).trans (hc i hi)
theorem ScO.later {O : Nat → Prop} {w w' : World} {v : Value} {n : Nat} {f : Nat → Int} (h : ScO O w v n f) (hb : Below w.heap.size w w') : ScO O w' v n f := h.keep hb.size fun k hk _ => hb.block k hk
theorem ScO.lt {O : Nat → Prop} {w : World} {v : Value} {n : Nat} {f : Nat → Int} (h : ScO O w v n f) : ∀ k, O k → k < w.heap.size := by
  obtain ⟨g, a, c, e, ⟨h1, h2⟩, _⟩ := h
  exact h2
theorem ScO.ptr {O : Nat → Prop} {w : World} {v : Value} {n : Nat} {f : Nat → Int} (h : ScO O w v n f) : ∃ g, v = .pointer (some ⟨g, 0, none⟩) ∧ O g := by
  obtain ⟨g, a, c, e, h1, _⟩ := h
  exact ⟨g, e, h1.1⟩
theorem ScO.bd {O : Nat → Prop} {w : World} {v : Value} {n : Nat} {f : Nat → Int} (h : ScO O w v n f) : (∀ i, 0 ≤ f i ∧ f i < 256) ∧ n ≤ 2000000 := by
  obtain ⟨g, a, c, e, h1, h2, h3, i, F, h4, ⟨h5, h6⟩, rfl, h7⟩ := h
  exact ⟨fun j => h6.1 _, by omega⟩
/-- The value is a scanner, of whose own blocks all are from B on, with n bytes left. -/
def Sc (B : Nat) (w : World) (v : Value) (n : Nat) (f : Nat → Int) : Prop := ∃ O, (∀ k, O k → B ≤ k) ∧ ScO O w v n f
theorem Sc.keep {B : Nat} {w w' : World} {v : Value} {n : Nat} {f : Nat → Int} (h : Sc B w v n f) (hs : w.heap.size ≤ w'.heap.size) (hk : ∀ k, k < w.heap.size → B ≤ k → w'.heap[k]? = w.heap[k]?) : Sc B w' v n f := by
  obtain ⟨O, h1, h2⟩ := h
  exact ⟨O, h1, h2.keep hs fun k hk' h => hk k hk' (h1 k h)⟩
theorem Sc.later {B : Nat} {w w' : World} {v : Value} {n : Nat} {f : Nat → Int} (h : Sc B w v n f) (hb : Below w.heap.size w w') : Sc B w' v n f := h.keep hb.size fun k hk _ => hb.block k hk
/-- A block below is written to. -/
theorem Sc.low {B : Nat} {w w' : World} {v : Value} {n : Nat} {f : Nat → Int} (h : Sc B w v n f) {b : Nat} (hb : b < B) (hg : w.grownBy w' (some b)) : Sc B w' v n f :=
  h.keep hg.size fun k hk hB => hg.block k hk (fun e => by simp only [Option.some.injEq] at e; omega)
theorem Sc.ptr {B : Nat} {w : World} {v : Value} {n : Nat} {f : Nat → Int} (h : Sc B w v n f) : ∃ g, v = .pointer (some ⟨g, 0, none⟩) ∧ B ≤ g := by
  obtain ⟨O, h1, h2⟩ := h
  obtain ⟨g, e, hg⟩ := h2.ptr
  exact ⟨g, e, h1 g hg⟩
theorem Sc.bd {B : Nat} {w : World} {v : Value} {n : Nat} {f : Nat → Int} (h : Sc B w v n f) : (∀ i, 0 ≤ f i ∧ f i < 256) ∧ n ≤ 2000000 := by
  obtain ⟨O, h1, h2⟩ := h
  exact h2.bd
theorem Sc.base {B B' : Nat} {w : World} {v : Value} {n : Nat} {f : Nat → Int} (h : Sc B w v n f) (hB : B' ≤ B) : Sc B' w v n f := by
  obtain ⟨O, h1, h2⟩ := h
  exact ⟨O, fun k hk => Nat.le_trans hB (h1 k hk), h2⟩
/-- A panic of the scanner's own kind. -/
def failE (er : Int) : Ending := .panicked [{ v := .iface 35 (.int .i64 er), recovered := false }]
/-- An act was done, or it met its error. -/
def ActPost (B : Nat) (w : World) (v : Value) (n : Nat) (f : Nat → Int) (d x : Int) (res : Value) (e : Ending) (w' : World) : Prop :=
  ((errZ n f d x ≠ 0 ∧ e = failE (errZ n f d x)) ∨ (errZ n f d x = 0 ∧ e = .returned res ∧ Sc B w' v (n - (wantZ f d x).toNat) (fun i => f (i + (wantZ f d x).toNat)))) ∧ Below B w w'
/-- The same, told of the scanner's own blocks. -/
def ActO (O : Nat → Prop) (w : World) (v : Value) (n : Nat) (f : Nat → Int) (d x : Int) (res : Value) (e : Ending) (w' : World) : Prop :=
  ((errZ n f d x ≠ 0 ∧ e = failE (errZ n f d x)) ∨ (errZ n f d x = 0 ∧ e = .returned res ∧ ∃ O', (∀ k, O k → O' k) ∧ (∀ k, O' k → O k ∨ w.heap.size ≤ k) ∧ ScO O' w' v (n - (wantZ f d x).toNat) (fun i => f (i + (wantZ f d x).toNat)))) ∧ Apart O w w'
theorem ActO.ok {O : Nat → Prop} {w : World} {v : Value} {n : Nat} {f : Nat → Int} {d x : Int} {res : Value} {e : Ending} {w' : World} (h : ActO O w v n f d x res e w') (he : errZ n f d x = 0) :
    e = .returned res ∧ (∃ O', (∀ k, O' k → O k ∨ w.heap.size ≤ k) ∧ ScO O' w' v (n - (wantZ f d x).toNat) (fun i => f (i + (wantZ f d x).toNat))) ∧ Apart O w w' := by
  obtain ⟨⟨h1, -⟩ | ⟨-, h2, O', h3, h4, h5⟩, hb⟩ := h
  · exact absurd he h1
  · exact ⟨h2, ⟨O', h4, h5⟩, hb⟩
theorem ActO.low {O : Nat → Prop} {w : World} {v : Value} {n : Nat} {f : Nat → Int} {d x : Int} {res : Value} {e : Ending} {w' : World} (h : ActO O w v n f d x res e w') {B : Nat} (hO : ∀ k, O k → B ≤ k) (hB : B ≤ w.heap.size) : ActPost B w v n f d x res e w' := by
  obtain ⟨h1, h2⟩ := h
  refine ⟨h1.imp id fun ⟨e1, e2, O', q1, q2, q3⟩ => ⟨e1, e2, O', fun k hk => ?_, q3⟩, h2.low hO hB⟩
  rcases q2 k hk with h | h
  · exact hO k h
  · omega
theorem ActPost.ok {B : Nat} {w : World} {v : Value} {n : Nat} {f : Nat → Int} {d x : Int} {res : Value} {e : Ending} {w' : World} (h : ActPost B w v n f d x res e w') (he : errZ n f d x = 0) :
    e = .returned res ∧ Sc B w' v (n - (wantZ f d x).toNat) (fun i => f (i + (wantZ f d x).toNat)) ∧ Below B w w' := by
  obtain ⟨⟨h1, -⟩ | ⟨-, h2, h3⟩, hb⟩ := h
  · exact absurd he h1
  · exact ⟨h2, h3, hb⟩
theorem ActPost.bad {B : Nat} {w : World} {v : Value} {n : Nat} {f : Nat → Int} {d x : Int} {res : Value} {e : Ending} {w' : World} (h : ActPost B w v n f d x res e w') (he : errZ n f d x ≠ 0) :
    e = .panicked [{ v := .iface 35 (.int .i64 (errZ n f d x)), recovered := false }] ∧ Below B w w' := by
  obtain ⟨⟨-, h2⟩ | ⟨h1, -⟩, hb⟩ := h
  · exact ⟨h2, hb⟩
  · exact absurd h1 he
/-- From block A up to B nothing is turned. -/
structure Mid (A B : Nat) (w w' : World) : Prop where
  os : w'.os = w.os
  tape : w'.tape = w.tape
  output : w'.output = w.output
  size : w.heap.size ≤ w'.heap.size
  block : ∀ k, A ≤ k → k < B → w'.heap[k]? = w.heap[k]?
theorem enters {P : Program} {G : FuncId} {fn : Func} {c : Code} (hf : P.funcs[G]? = some fn) (hn : (fn.name == "runtime.NumGoroutine") = false) (hb : fn.body = some c) (args : Array Value) (w : World) : (callFunc G args).run P w = .ok (.enter G args) w := by
  have h1 : fn.name ≠ "runtime.NumGoroutine" := by simpa using hn
  simp [callFunc, hf, h1, hb]
theorem wrap_u64 {y : Int} (h0 : 0 ≤ y) (h1 : y < 18446744073709551616) : IntKind.u64.wrap y = y := by simp [IntKind.wrap, IntKind.bits, IntKind.signed]; omega
/-- Where 'x[k:]' begins. -/
def fromA (ad : Option Addr) (c k : Nat) : Option Addr := if c = k then ad else ad.map (·.add k)
theorem fromA_block {ad : Option Addr} {c k : Nat} {x : Addr} (h : fromA ad c k = some x) : ∃ y, ad = some y ∧ x.block = y.block := by
  unfold fromA at h
  split at h
  · exact ⟨x, h, rfl⟩
  · cases ad with
    | none => cases h
    | some y => simp only [Option.map_some, Option.some.injEq] at h; exact ⟨y, rfl, by rw [← h]; simp only [Addr.add]; split <;> rfl⟩
theorem fromA_nil {ad : Option Addr} {c k : Nat} (h : fromA ad c k = none) : ad = none := by
  unfold fromA at h
  split at h
  · exact h
  · simpa using h
theorem fromA_head {ad : Option Addr} {n c k : Nat} (h : Head ad n c) (hk : k ≤ n) : Head (fromA ad c k) (n - k) (c - k) :=
  ⟨by have := h.1; omega, fun e => by have := h.2 (fromA_nil e); omega⟩
theorem fromA_bytes {w : World} {ad : Option Addr} {n c k : Nat} {f : Nat → Int} (h : Bytes w ad n f) (hh : Head ad n c) (hk : k ≤ n) : Bytes w (fromA ad c k) (n - k) (fun j => f (j + k)) := by
  refine ⟨fun j => h.1 _, ?_⟩
  by_cases e : n - k = 0
  · exact .inl e
  · obtain h0 | ⟨b, off, rfl, hc⟩ := h.2
    · omega
    · right
      refine ⟨b, off + k, ?_, fun i hi => ?_⟩
      · unfold fromA
        rw [if_neg (by have := hh.1; omega)]
        simp [Addr.add]
      · have := hc (i + k) (by omega)
        rwa [show off + (i + k) = off + k + i from by omega] at this
/-- A part of it: so many from there on. -/
theorem fromA_part {w : World} {ad : Option Addr} {n c k m : Nat} {f : Nat → Int} (h : Bytes w ad n f) (hh : Head ad n c) (hk : k + m ≤ n) : Bytes w (fromA ad c k) m (fun j => f (j + k)) := by
  refine ⟨fun j => h.1 _, ?_⟩
  by_cases e : m = 0
  · exact .inl e
  · obtain h0 | ⟨b, off, rfl, hc⟩ := h.2
    · omega
    · right
      refine ⟨b, off + k, ?_, fun i hi => ?_⟩
      · unfold fromA
        rw [if_neg (by have := hh.1; omega)]
        simp [Addr.add]
      · have := hc (i + k) (by omega)
        rwa [show off + (i + k) = off + k + i from by omega] at this
theorem slice_mid (W : World) (a : Option Addr) (n c i k : Nat) (h : i + k ≤ c) : (Instr.slice 29 (.slice a n c) (some (.int .i64 (i : Int))) (some (.int .i64 ((i : Int) + k))) none).run Try.prog W = .ok (.slice (fromA a c i) k (c - i)) W := by
  rw [run_slice_lh W 29 a n c (by kernel_rfl) .i64 .i64 (i : Int) ((i : Int) + k) (by omega) (by omega) (by omega)]
  have hs : (sizeOf (Try.prog.elem 29)).run Try.prog W = .ok 1 W := by go_simp
  rw [hs]
  have e : ((i : Int) + k).toNat = i + k := by omega
  simp only [Result.andThen_ok, sliced, Int.toNat_natCast, e]
  unfold fromA
  rw [Nat.mul_one, Nat.add_sub_cancel_left]
theorem slice_rest (W : World) (a : Option Addr) (n c k : Nat) (hk : k ≤ n) (hc : n ≤ c) : (Instr.slice 29 (.slice a n c) (some (.int .i64 (k : Int))) none none).run Try.prog W = .ok (.slice (fromA a c k) (n - k) (c - k)) W := by
  rw [run_slice_l W 29 a n c (by kernel_rfl) .i64 (k : Int) (by omega) (by omega)]
  have hs : (sizeOf (Try.prog.elem 29)).run Try.prog W = .ok 1 W := by go_simp
  rw [hs]
  simp only [Result.andThen_ok, sliced, Int.toNat_natCast]
  unfold fromA
  rw [Nat.mul_one]
theorem wrap_small {y : Int} (h0 : 0 ≤ y) (h1 : y < 4294967296) : IntKind.i64.wrap y = y := by simp [IntKind.wrap, IntKind.bits, IntKind.signed]; omega
theorem keep_alloc8 {w w' : World} (h : Below w.heap.size w w') (o : Obj) : Below w.heap.size w (w'.alloc o) := h.alloc h.size o
theorem keep_drew8 {w w' : World} (h : Below w.heap.size w w') : Below w.heap.size w w'.drew := h.drew
theorem own_below {w w' : World} {base : Nat} {e : TypeId} {size : Nat} {v : Value} {n : Nat} {xs : List Value} (h : w.ownsRow base e size v n xs) (hb : Below w.heap.size w w') : w'.ownsRow base e size v n xs := by
  refine h.kept (row := none) ⟨hb.os, hb.tape, hb.output, hb.size, fun k hk _ => hb.block k hk⟩ ?_
  cases v.ownBlock
  · exact .inl rfl
  · exact .inr (by simp)
theorem text_own (s : ByteArray) : textF s.size (byteZ s) = s := by
  unfold textF strOfNums
  obtain ⟨⟨l⟩⟩ := s
  congr 2
  refine List.ext_getElem (by simp [ByteArray.size]) fun i h1 h2 => ?_
  simp [byteZ, ByteArray.size] at h1 ⊢
  have h1' : i < l.length := by simpa using h2
  rw [List.getElem?_eq_getElem h1']
  rfl
end Go.Proofs.Ytlmijnaimdknnaa
