/- What the document's own Save returns. -/
import Derived.Test.YtcibifgbnpcpmaaDoorStoreRef
import Derived.Deep.RegionHeld3
import Derived.Deep.AppendLies
import Derived.Deep.DrawnRows
import Derived.Deep.RegionLaw
import Derived.Laws.AppendOwnNone
import Derived.Deep.Cut
import Derived.Deep.CutRange
namespace Go.Proofs.YtcibifgbnpcpmaaDoor
open Go.ChangeShapes Go.WideShapes Go.ChangeAt Go.RowKit
set_option linter.unusedVariables false

/-- The bytes with j bytes of x from i on. -/
def putK (f : Nat → Int) (i : Nat) (x : Int) (j : Nat) : Nat → Int := fun k => if i ≤ k ∧ k < i + j then x / 256 ^ (k - i) % 256 else f k
theorem put_bd (f : Nat → Int) (hf : ∀ i, 0 ≤ f i ∧ f i < 256) (i : Nat) (x : Int) (j : Nat) : ∀ k, 0 ≤ putK f i x j k ∧ putK f i x j k < 256 := by
  intro k; unfold putK; split
  · exact ⟨Int.emod_nonneg _ (by decide), Int.emod_lt_of_pos _ (by decide)⟩
  · exact hf k
/-- May it be saved? -/
def saveB (n : Nat) (at_ : Int) (wide : Bool) (wr : Int) : Bool := okB n at_ wide && decide (wr ≤ at_ - 65536)
/-- A row's n cells, that may be written. -/
def RowB (w : World) (g n : Nat) (F : Nat → Int) : Prop := (∀ k, k < n → w.cell? ⟨g, k, none⟩ = some (.int .u8 (F k))) ∧ (∀ q, w.frozen? ⟨g, q, none⟩ = false) ∧ g < w.heap.size
theorem RowB.later {w w' : World} {g n : Nat} {F : Nat → Int} (h : RowB w g n F) (hb : Below w.heap.size w w') : RowB w' g n F :=
  ⟨fun k hk => cell_later' (h.1 k hk) hb, fun q => (hb.frozen (p := ⟨g, q, none⟩) h.2.2).trans (h.2.1 q), Nat.lt_of_lt_of_le h.2.2 hb.size⟩
theorem RowB.put {w : World} {g n : Nat} {F : Nat → Int} (h : RowB w g n F) (j : Nat) (hj : j < n) (x : Int) : RowB (w.setCell ⟨g, j, none⟩ (.int .u8 x)) g n (fun k => if k = j then x else F k) := by
  refine ⟨fun k hk => ?_, fun q => by simpa using h.2.1 q, by simpa using h.2.2⟩
  by_cases e : k = j
  · subst e; simp only [if_pos]; exact World.cell?_setCell_same _ _ _ (h.1 k hk)
  · simp only [if_neg e]; rw [World.cell?_setCell_other _ _ _ _ (by simp <;> omega)]; exact h.1 k hk
theorem put_step (f : Nat → Int) (i : Nat) (x : Int) (j : Nat) : (fun k => if k = i + j then x / 256 ^ j % 256 else putK f i x j k) = putK f i x (j + 1) := by
  funext k
  unfold putK
  by_cases e : k = i + j
  · subst e; rw [if_pos rfl, if_pos (by omega), Nat.add_sub_cancel_left]
  · rw [if_neg e]
    by_cases h : i ≤ k ∧ k < i + j
    · rw [if_pos h, if_pos (by omega)]
    · rw [if_neg h, if_neg (by omega)]
theorem put_zero (f : Nat → Int) (i : Nat) (x : Int) : putK f i x 0 = f := by
  funext k; unfold putK; rw [if_neg (by omega)]
theorem info5 : (Tryd.prog.info? 5).map (fun i => (i.zero, i.size, i.bytes)) = some (some (.int .u8 0), 1, 1) := by kernel_rfl

/-! ### What a drawn region leaves of an elder world -/
theorem keep_alloc {a w : World} (h : Below a.heap.size a w) (o : Obj) : Below a.heap.size a (w.alloc o) := h.alloc h.size o
theorem keep_drew {a w : World} (h : Below a.heap.size a w) : Below a.heap.size a w.drew := h.drew
theorem keep_set {a w : World} (h : Below a.heap.size a w) {p : Addr} (hp : a.heap.size ≤ p.block) (u : Value) : Below a.heap.size a (w.setCell p u) := h.setCell hp u
theorem keep_grown {a w w' : World} {v : Value} {n : Nat} {xs : List Value} {e : TypeId} {s : Nat} (h : Below a.heap.size a w) (hg : w.grownBy w' v.ownBlock) (ho : w.ownsRow a.heap.size e s v n xs) : Below a.heap.size a w' :=
  h.grown hg h.size (fun q hq => (ho.lt q hq).1)
theorem rowB_of_owns {w : World} {base g n cap : Nat} {f : Nat → Int} (h : w.ownsRow base 5 1 (.slice (some ⟨g, 0, none⟩) (0 + n) cap) (0 + n) ([] ++ (List.range n).map fun j => .int .u8 (f j))) : RowB w g n f ∧ n ≤ cap ∧ base ≤ g := by
  rw [Nat.zero_add, List.nil_append] at h
  refine ⟨⟨fun k hk => ?_, fun q => h.frozenAt q, (h.lt g rfl).2⟩, ?_, (h.lt g rfl).1⟩
  · rw [h.cellAt k (by omega)]; simp [hk]
  · rcases h.2 with ⟨e, _⟩ | ⟨g', cap', cur, e, _, _, hn, _⟩
    · cases e
    · simp only [Value.slice.injEq] at e; omega
theorem RowB.far {w : World} {g n : Nat} {F : Nat → Int} (h : RowB w g n F) {k : Nat} (hk : k ≠ g) (o : Nat) (v : Value) : RowB (w.setCell ⟨k, o, none⟩ v) g n F :=
  ⟨fun j hj => by rw [World.cell?_setCell_other _ _ _ _ (fun e => hk (congrArg Addr.block e))]; exact h.1 j hj, fun q => by simpa using h.2.1 q, by simpa using h.2.2⟩
theorem mem_set2 {w : World} {k : Nat} {wr0 : Int} {a0 : Option Addr} {n0 cap0 : Nat} (h : MemFree w k wr0 a0 n0 cap0) (wr : Int) (a : Option Addr) (n cap : Nat) : MemFree ((w.setCell ⟨k, 0, none⟩ (.int .i64 wr)).setCell ⟨k, 1, none⟩ (.slice a n cap)) k wr a n cap := by
  obtain ⟨t0, t1⟩ := set2 h (.int .i64 wr) (.slice a n cap)
  exact ⟨⟨by rw [World.cell?_setCell_other _ _ _ _ (by simp)]; exact t0, t1⟩, by simpa using h.2.1, by simpa using h.2.2⟩
theorem MemFree.far {w : World} {g : Nat} {k : Nat} {wr : Int} {a : Option Addr} {n cap : Nat} (h : MemFree w k wr a n cap) (hk : k ≠ g) (o : Nat) (v : Value) : MemFree (w.setCell ⟨g, o, none⟩ v) k wr a n cap :=
  ⟨⟨by rw [World.cell?_setCell_other _ _ _ _ (fun e => hk (congrArg Addr.block e).symm)]; exact h.1.1, by rw [World.cell?_setCell_other _ _ _ _ (fun e => hk (congrArg Addr.block e).symm)]; exact h.1.2⟩, by simpa using h.2.1, by simpa using h.2.2⟩
/-- What stands when j bytes have been written: the new row, the memory that is answered, the answer's own block, the word's bytes. -/
def SaveInv (w wr : World) (f : Nat → Int) (i n : Nat) (x y : Int) (k g B R cap j : Nat) : Prop :=
  Below w.heap.size w wr ∧ RowB wr g n (putK f i x j) ∧ MemFree wr k y (some ⟨g, 0, none⟩) n cap ∧ MemFree wr R 0 none 0 0 ∧ ∀ q v, (bytesOf x)[q]? = some v → wr.cell? ⟨B, q, none⟩ = some v
theorem SaveInv.drew {w wr : World} {f : Nat → Int} {i n : Nat} {x y : Int} {k g B R cap j : Nat} (h : SaveInv w wr f i n x y k g B R cap j) : SaveInv w wr.drew f i n x y k g B R cap j :=
  ⟨h.1.drew, h.2⟩
theorem SaveInv.step {w wr : World} {f : Nat → Int} {i n : Nat} {x y : Int} {k g B R cap j : Nat} (h : SaveInv w wr f i n x y k g B R cap j) (hj : i + j < n) (hk : k ≠ g) (hR : R ≠ g) (hB : B ≠ g) (hg : w.heap.size ≤ g) :
    SaveInv w (wr.setCell ⟨g, i + j, none⟩ (.int .u8 (x / 256 ^ j % 256))) f i n x y k g B R cap (j + 1) := by
  obtain ⟨h1, h2, h3, h4, h5⟩ := h
  refine ⟨h1.setCell hg _, ?_, h3.far hk _ _, h4.far hR _ _, fun q v hq => ?_⟩
  · have e := put_step f i x j
    rw [← e]; exact h2.put _ hj _
  · rw [World.cell?_setCell_other _ _ _ _ (fun e => hB (congrArg Addr.block e).symm)]; exact h5 q v hq
/-- 'append(buf, xs...)', xs nil, as one step of a drawn region. -/
theorem step_append_none {P : Program} {ops : Array Oper} {o : Oper} {a : Act} {w : World} {K : Act → World → Prop} {Q : Exit → Act → World → Prop} {E : Prop}
    (hg : o.guard = none) (s x : Operand) (t : TypeId) (hop : o.op = Op.call { callee := Callee.builtin Builtin.append, args := #[s, x], argTypes := #[t, t] })
    (base : Nat) (e : TypeId) (i : TypeInfo) (size : Nat) (h1 : P.underlying t = some (.slice e)) (h2 : P.info? e = some i)
    (v : Value) (n : Nat) (xs : List Value) (hs : a.eval s = v) (hown : w.ownsRow base e size v n xs) (hx : a.eval x = .slice none 0 0)
    (hK : K (a.put o.dst v) w) : if Region.wanted o (yielded ops a.tmps) = true then Oper.wp P o a w K Q else E := by
  have hw : Region.wanted o (yielded ops a.tmps) = true := by simp [Region.wanted, hg]
  rw [if_pos hw]
  have hrun := run_append_owned_none (P := P) (w := w) base t o.type e i size h1 h2 v n xs hown
  unfold Oper.wp
  simp [execOp, hop, resolve, invoke, builtin, hs, hx, hrun, Result.andThen]
  exact hK
/-- 'append(buf, xs...)', xs empty, as one step of a drawn region. -/
theorem step_append_nothing {P : Program} {ops : Array Oper} {o : Oper} {a : Act} {w : World} {K : Act → World → Prop} {Q : Exit → Act → World → Prop} {E : Prop}
    (hg : o.guard = none) (s x : Operand) (t : TypeId) (hop : o.op = Op.call { callee := Callee.builtin Builtin.append, args := #[s, x], argTypes := #[t, t] })
    (e : TypeId) (i : TypeInfo) (h1 : P.underlying t = some (.slice e)) (h2 : P.info? e = some i) (h4 : i.size = 1)
    (b cap : Nat) (hs : a.eval s = .slice (some ⟨b, 0, none⟩) 0 cap) (ad : Addr) (c : Nat) (hx : a.eval x = .slice (some ad) 0 c)
    (hK : K (a.put o.dst (.slice (some ⟨b, 0, none⟩) 0 cap)) w) : if Region.wanted o (yielded ops a.tmps) = true then Oper.wp P o a w K Q else E :=
  step_append_room hg s x t hop e i 1 h1 h2 h4 b 0 0 cap hs ad 0 c [] hx rfl (fun j u h => by simp at h) (fun u h => by simp at h) (Nat.zero_le _) (fun j h => by simp at h) hK
theorem owns_behind (w : World) (o : Obj) : ((w.alloc o).alloc (.cells #[] 5)).ownsRow w.heap.size 5 1 (.slice (some ⟨w.heap.size + 1, 0, none⟩) 0 0) 0 [] := by
  have h := World.ownsRow_made (base := w.heap.size) (e := 5) (size := 1) (w.alloc o) #[] 0 (by simp) (by unfold maxLen; omega) rfl
  rwa [show (w.alloc o).heap.size = w.heap.size + 1 from by simp] at h
/-- What a memory that was saved to holds: the place is at_ - 65536. -/
def savedF (f : Nat → Int) (at_ x : Int) (wide : Bool) : Nat → Int := putK f (at_ - 65536).toNat x (if wide = true then 4 else 1)
/-- A Save that goes through answers a memory in new cells, which may be written. -/
def SaveYes (p : Program) (fn : Nat) (wt at_ x : Int) (wide : Bool) (a : Option Addr) (n cap : Nat) (f : Nat → Int) (w : World) : Prop :=
  Calls p fn #[memV wt a n cap, .int .u32 at_, .int .u32 x, .bool wide] w fun e w' => ∃ g cap', e = .returned (.tuple #[memV wt (some ⟨g, 0, none⟩) n cap', .bool true]) ∧ w.heap.size ≤ g ∧ n ≤ cap' ∧ RowB w' g n (savedF f at_ x wide) ∧ Below w.heap.size w w'
/-- One that doesn't answers the memory that was handed in. -/
def SaveNo (p : Program) (fn : Nat) (wt at_ x : Int) (wide : Bool) (a : Option Addr) (n cap : Nat) (w : World) : Prop :=
  Calls p fn #[memV wt a n cap, .int .u32 at_, .int .u32 x, .bool wide] w fun e w' => e = .returned (.tuple #[memV wt a n cap, .bool false]) ∧ Below w.heap.size w w'
end Go.Proofs.YtcibifgbnpcpmaaDoor
