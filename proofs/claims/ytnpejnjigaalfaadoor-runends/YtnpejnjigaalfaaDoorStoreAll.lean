/- What the document's own answers for layer 5 return: one contract a function. What the document's own Save returns. Two memories that hold the same are the same, as the document's own answer says. -/
import Derived.Test.YtnpejnjigaalfaaDoorSlices
import Derived.Test.YtnpejnjigaalfaaDoorFrame
import Derived.OwnWalk
import Derived.Laws.OwnMore
import Derived.Deep.RegionHeld3
import Derived.Deep.AppendLies
import Derived.Deep.DrawnRows
import Derived.Deep.RegionLaw
import Derived.Laws.AppendOwnNone
import Derived.Deep.Cut
import Derived.Deep.CutRange
import Derived.Deep.QuietTactic
import Derived.BigQuiet
namespace Go.Proofs.YtnpejnjigaalfaaDoor
open Go.ChangeShapes Go.WideShapes Go.ChangeAt Go.RowKit
set_option linter.unusedVariables false

/-- A memory's value. -/
abbrev memV (wr : Int) (a : Option Addr) (n cap : Nat) : Value := .agg #[.int .i64 wr, .slice a n cap]
/-- A memory's two cells stand at the head of a block. -/
def MemAt (w : World) (k : Nat) (wr : Int) (a : Option Addr) (n cap : Nat) : Prop :=
  w.cell? ⟨k, 0, none⟩ = some (.int .i64 wr) ∧ w.cell? ⟨k, 1, none⟩ = some (.slice a n cap)
theorem MemAt.later {w w' : World} {k : Nat} {wr : Int} {a : Option Addr} {n cap : Nat} (h : MemAt w k wr a n cap) (hb : Below w.heap.size w w') : MemAt w' k wr a n cap :=
  ⟨cell_later' h.1 hb, cell_later' h.2 hb⟩
theorem MemAt.new (w : World) (wr : Int) (a : Option Addr) (n cap : Nat) (t : TypeId) : MemAt (w.alloc (.cells #[.int .i64 wr, .slice a n cap] t)) w.heap.size wr a n cap :=
  ⟨new_cell' w _ _ 0 _ rfl, new_cell' w _ _ 1 _ rfl⟩
/-- The same, in a block that may be written. -/
def MemFree (w : World) (k : Nat) (wr : Int) (a : Option Addr) (n cap : Nat) : Prop :=
  MemAt w k wr a n cap ∧ w.frozen? ⟨k, 0, none⟩ = false ∧ w.frozen? ⟨k, 1, none⟩ = false
theorem MemFree.later {w w' : World} {k : Nat} {wr : Int} {a : Option Addr} {n cap : Nat} (h : MemFree w k wr a n cap) (hb : Below w.heap.size w w') : MemFree w' k wr a n cap := by
  have hk : k < w.heap.size := World.block_lt_of_cell? w ⟨k, 0, none⟩ h.1.1
  exact ⟨h.1.later hb, (hb.frozen (p := ⟨k, 0, none⟩) hk).trans h.2.1, (hb.frozen (p := ⟨k, 1, none⟩) hk).trans h.2.2⟩
theorem MemFree.new (w : World) (wr : Int) (a : Option Addr) (n cap : Nat) (t : TypeId) : MemFree (w.alloc (.cells #[.int .i64 wr, .slice a n cap] t)) w.heap.size wr a n cap :=
  ⟨MemAt.new w wr a n cap t, by simp [go_sem], by simp [go_sem]⟩
theorem set2 {w : World} {k : Nat} {wr : Int} {a : Option Addr} {n cap : Nat} (h : MemFree w k wr a n cap) (v0 v1 : Value) :
    (w.setCell ⟨k, 0, none⟩ v0).cell? ⟨k, 0, none⟩ = some v0 ∧ ((w.setCell ⟨k, 0, none⟩ v0).setCell ⟨k, 1, none⟩ v1).cell? ⟨k, 1, none⟩ = some v1 :=
  ⟨World.cell?_setCell_same _ _ _ h.1.1, World.cell?_setCell_same _ _ _ (u := .slice a n cap) (by rw [World.cell?_setCell_other _ _ _ _ (by simp)]; exact h.1.2)⟩
theorem below_set2 {w w1 : World} {B k : Nat} (h : Below B w w1) (hk : B ≤ k) (v0 v1 : Value) : Below B w ((w1.setCell ⟨k, 0, none⟩ v0).setCell ⟨k, 1, none⟩ v1) :=
  (h.setCell (p := ⟨k, 0, none⟩) hk v0).setCell (p := ⟨k, 1, none⟩) hk v1
/-- May it be loaded? -/
def okB (n : Nat) (at_ : Int) (wide : Bool) : Bool := decide (65536 ≤ at_ ∧ at_ - 65536 < n ∧ (wide = true → at_ % 4 = 0 ∧ at_ + 3 - 65536 < n))
/-- The word, or the byte, that stands there. -/
def loadZ (f : Nat → Int) (at_ : Int) (wide : Bool) : Int := if wide = true then sumZ (fun k => f ((at_ - 65536).toNat + k)) 4 else f (at_ - 65536).toNat
theorem load_bd (f : Nat → Int) (hf : ∀ i, 0 ≤ f i ∧ f i < 256) (at_ : Int) (wide : Bool) : 0 ≤ loadZ f at_ wide ∧ loadZ f at_ wide < 4294967296 := by
  unfold loadZ; split
  · have := sum_bd (fun k => f ((at_ - 65536).toNat + k)) (fun i => hf _) 4
    simpa using this
  · have := hf (at_ - 65536).toNat; omega

theorem there_any (wr at_ : Int) (a : Option Addr) (n cap : Nat) (w : World) (hn : n ≤ 9223372036854775807) (h0 : -9223372036854710272 ≤ at_) (h1 : at_ ≤ 9223372036854775807) :
    Calls Tryd.prog 40 #[memV wr a n cap, .int .i64 at_] w fun e w' => e = .returned (.bool (decide (65536 ≤ at_ ∧ at_ - 65536 < n))) ∧ Below w.heap.size w w' := by
  by_cases hl : 65536 ≤ at_
  · go_enter Tryd.func40, Tryd.ntmps40
    go_wp2
    go_ret
    exact ⟨ret_bool (by rw [Bool.eq_iff_iff]; simp; omega), (Below.refl _ _).alloc (Nat.le_refl _) _⟩
  · go_enter Tryd.func40, Tryd.ntmps40
    go_wp2
    go_ret
    exact ⟨ret_bool (by rw [Bool.eq_iff_iff]; simp; omega), (Below.refl _ _).alloc (Nat.le_refl _) _⟩
set_option maxRecDepth 100000 in
set_option maxHeartbeats 1000000 in
theorem rload_any (wr at_ : Int) (wide : Bool) (a : Option Addr) (n cap : Nat) (f : Nat → Int) (w : World) (hn : n ≤ 2000) (hc : n ≤ cap) (h0 : 0 ≤ at_) (h1 : at_ < 4294967296) (hB : Bytes w a n f) :
    Calls Tryd.prog 24 #[memV wr a n cap, .int .u32 at_, .bool wide] w fun e w' => e = .returned (.tuple #[.int .u32 (if okB n at_ wide = true then loadZ f at_ wide else 0), .bool (okB n at_ wide)]) ∧ Below w.heap.size w w' := by
  have HN : Hid (MemAt (w.alloc (.cells #[.int .i64 wr, .slice a n cap] 35)) w.heap.size wr a n cap) := MemAt.new w wr a n cap 35
  have HA : Hid (Below w.heap.size w (w.alloc (.cells #[.int .i64 wr, .slice a n cap] 35))) := (Below.refl _ w).alloc (Nat.le_refl _) _
  have HS : Hid (w.heap.size ≤ (w.alloc (.cells #[.int .i64 wr, .slice a n cap] 35)).heap.size) := by simp [Hid]
  have HT1 : Hid (∀ W, Calls Tryd.prog 40 #[memV wr a n cap, .int .i64 at_] W fun e w' => e = .returned (.bool (decide (65536 ≤ at_ ∧ at_ - 65536 < n))) ∧ Below W.heap.size W w') := fun W => there_any wr at_ a n cap W (by omega) (by omega) (by omega)
  have HT2 : Hid (∀ W, Calls Tryd.prog 40 #[memV wr a n cap, .int .i64 (at_ + 3)] W fun e w' => e = .returned (.bool (decide (65536 ≤ at_ + 3 ∧ at_ + 3 - 65536 < n))) ∧ Below W.heap.size W w') := fun W => there_any wr (at_ + 3) a n cap W (by omega) (by omega) (by omega)
  by_cases ht : 65536 ≤ at_ ∧ at_ - 65536 < n
  rotate_left
  · have ho : okB n at_ wide = false := by unfold okB; exact decide_eq_false (fun h => ht ⟨h.1, h.2.1⟩)
    rw [ho, if_neg (by decide)]
    rw [decide_eq_false ht] at HT1
    clear ht ho HT2
    go_enter Tryd.func24, Tryd.ntmps24
    go_wp2_with (go_at_call 40; refine (HT1.out _).mono ?_; rintro e w1 ⟨rfl, hb1⟩)
    go_ret2
    exact ⟨rfl, HA.out.trans (hb1.mono HS.out)⟩
  obtain ⟨i, rfl⟩ : ∃ i : Nat, at_ = 65536 + (i : Int) := ⟨(at_ - 65536).toNat, by omega⟩
  have hi : i < n := by omega
  rw [decide_eq_true ht] at HT1
  obtain ⟨hf, h | ⟨b, off, rfl, hcell⟩⟩ := hB
  · omega
  have HC : Hid (∀ j, j < n → w.cell? ⟨b, off + j, none⟩ = some (.int .u8 (f j))) := hcell
  have ei : ((65536 + (i : Int)) - 65536).toNat = i := by omega
  clear ht hcell
  cases wide
  · have ho : okB n (65536 + (i : Int)) false = true := by unfold okB; simp; omega
    have hl : loadZ f (65536 + (i : Int)) false = f i := by unfold loadZ; rw [if_neg (by decide), ei]
    obtain ⟨f0, f1⟩ := hf i
    rw [ho, if_pos rfl, hl]
    clear ho hl HT2 ei
    go_enter Tryd.func24, Tryd.ntmps24
    go_wp2_with (go_at_call 40; refine (HT1.out _).mono ?_; rintro e w1 ⟨rfl, hb1⟩; have Q1 := HN.out.later hb1; obtain ⟨x0, x1⟩ := id Q1; have hci := cell_later' (cell_later' (HC.out i hi) HA.out) hb1)
    go_ret2
    exact ⟨rfl, HA.out.trans (hb1.mono HS.out)⟩
  by_cases h4 : (65536 + (i : Int)) % 4 = 0
  rotate_left
  · have ho : okB n (65536 + (i : Int)) true = false := by unfold okB; exact decide_eq_false (fun h => h4 (h.2.2 rfl).1)
    rw [ho, if_neg (by decide)]
    clear ho HT2 ei
    go_enter Tryd.func24, Tryd.ntmps24
    go_wp2_with (go_at_call 40; refine (HT1.out _).mono ?_; rintro e w1 ⟨rfl, hb1⟩; have Q1 := HN.out.later hb1; obtain ⟨x0, x1⟩ := id Q1)
    go_ret2
    exact ⟨rfl, HA.out.trans (hb1.mono HS.out)⟩
  by_cases h3 : (i : Int) + 3 < n
  rotate_left
  · have ho : okB n (65536 + (i : Int)) true = false := by unfold okB; exact decide_eq_false (fun h => h3 (by have := (h.2.2 rfl).2; omega))
    rw [ho, if_neg (by decide)]
    have ht2 : decide (65536 ≤ 65536 + (i : Int) + 3 ∧ 65536 + (i : Int) + 3 - 65536 < n) = false := decide_eq_false (by omega)
    rw [ht2] at HT2
    clear ho ei ht2
    go_enter Tryd.func24, Tryd.ntmps24
    go_wp2_with (first
      | (go_at_call 40; revert hb1; intro hb1; refine (HT2.out _).mono ?_; rintro e w2 ⟨rfl, hb2⟩)
      | (go_at_call 40; refine (HT1.out _).mono ?_; rintro e w1 ⟨rfl, hb1⟩; have Q1 := HN.out.later hb1; obtain ⟨x0, x1⟩ := id Q1))
    go_ret2
    exact ⟨rfl, bnext (HA.out.trans (hb1.mono HS.out)) hb2⟩
  · have ho : okB n (65536 + (i : Int)) true = true := by unfold okB; simp; omega
    have hl : loadZ f (65536 + (i : Int)) true = sumZ (fun k => f (i + k)) 4 := by unfold loadZ; rw [if_pos rfl, ei]
    rw [ho, if_pos rfl, hl]
    have ht2 : decide (65536 ≤ 65536 + (i : Int) + 3 ∧ 65536 + (i : Int) + 3 - 65536 < n) = true := decide_eq_true (by omega)
    rw [ht2] at HT2
    have HG : Hid (∀ W, (∀ j, j < n → W.cell? ⟨b, off + j, none⟩ = some (.int .u8 (f j))) → ∀ c, Calls Tryd.prog 41 #[.slice (some ⟨b, off + i, none⟩) 4 c] W fun e w' => e = .returned (.int .u32 (sumZ (fun k => f (i + k)) 4)) ∧ Below W.heap.size W w') := by
      intro W hW c
      exact rget_any W b (off + i) 4 c (fun k => f (i + k)) (by omega) (fun j hj _ => by rw [Nat.add_assoc]; exact hW _ (by omega)) (fun k => hf _)
    generalize sumZ (fun k => f (i + k)) 4 = L at HG ⊢
    clear ho hl ei ht2
    go_enter Tryd.func24, Tryd.ntmps24
    go_wp2_with (first
      | (go_at_call 40; revert hb1; intro hb1; refine (HT2.out _).mono ?_; rintro e w2 ⟨rfl, hb2⟩; have Q2 := Q1.later hb2; obtain ⟨y0, y1⟩ := id Q2)
      | (go_at_call 40; refine (HT1.out _).mono ?_; rintro e w1 ⟨rfl, hb1⟩; have Q1 := HN.out.later hb1; obtain ⟨x0, x1⟩ := id Q1)
      | (go_at_call 41; refine (HG.out w2 (fun j hj => cell_later' (cell_later' (cell_later' (HC.out j hj) HA.out) hb1) hb2) _).mono ?_; rintro e w3 ⟨rfl, hb3⟩))
    go_ret2
    exact ⟨rfl, bnext (bnext (HA.out.trans (hb1.mono HS.out)) hb2) hb3⟩
open Go.ChangeShapes Go.WideShapes Go.ChangeAt Go.RowKit
set_option linter.unusedVariables false

/-- The bytes with j bytes of x from i on. -/
def putK (f : Nat → Int) (i : Nat) (x : Int) (j : Nat) : Nat → Int := fun k => if i ≤ k ∧ k < i + j then x / 256 ^ (k - i) % 256 else f k
theorem put_bd (f : Nat → Int) (hf : ∀ i, 0 ≤ f i ∧ f i < 256) (i : Nat) (x : Int) (j : Nat) : ∀ k, 0 ≤ putK f i x j k ∧ putK f i x j k < 256 := by
  intro k; unfold putK; split
  · exact ⟨Int.emod_nonneg _ (by decide), Int.emod_lt_of_pos _ (by decide)⟩
  · exact hf k
/-- May it be saved? -/
def saveB (n : Nat) (at_ : Int) (wide : Bool) (wr : Int) : Bool := okB n at_ wide && decide (wr ≤ at_ - 65536)
/-- A row's n cells, that may be written. -/
def RowB (w : World) (g n : Nat) (F : Nat → Int) : Prop := (∀ k, k < n → w.cell? ⟨g, k, none⟩ = some (.int .u8 (F k))) ∧ (∀ q, w.frozen? ⟨g, q, none⟩ = false) ∧ g < w.heap.size
theorem RowB.later {w w' : World} {g n : Nat} {F : Nat → Int} (h : RowB w g n F) (hb : Below w.heap.size w w') : RowB w' g n F :=
  ⟨fun k hk => cell_later' (h.1 k hk) hb, fun q => (hb.frozen (p := ⟨g, q, none⟩) h.2.2).trans (h.2.1 q), Nat.lt_of_lt_of_le h.2.2 hb.size⟩
theorem RowB.put {w : World} {g n : Nat} {F : Nat → Int} (h : RowB w g n F) (j : Nat) (hj : j < n) (x : Int) : RowB (w.setCell ⟨g, j, none⟩ (.int .u8 x)) g n (fun k => if k = j then x else F k) := by
  refine ⟨fun k hk => ?_, fun q => by simpa using h.2.1 q, by simpa using h.2.2⟩
  by_cases e : k = j
  · subst e; simp only [if_pos]; exact World.cell?_setCell_same _ _ _ (h.1 k hk)
  · simp only [if_neg e]; rw [World.cell?_setCell_other _ _ _ _ (by simp <;> omega)]; exact h.1 k hk
theorem put_step (f : Nat → Int) (i : Nat) (x : Int) (j : Nat) : (fun k => if k = i + j then x / 256 ^ j % 256 else putK f i x j k) = putK f i x (j + 1) := by
  funext k
  unfold putK
  by_cases e : k = i + j
  · subst e; rw [if_pos rfl, if_pos (by omega), Nat.add_sub_cancel_left]
  · rw [if_neg e]
    by_cases h : i ≤ k ∧ k < i + j
    · rw [if_pos h, if_pos (by omega)]
    · rw [if_neg h, if_neg (by omega)]
theorem put_zero (f : Nat → Int) (i : Nat) (x : Int) : putK f i x 0 = f := by
  funext k; unfold putK; rw [if_neg (by omega)]
theorem info5 : (Tryd.prog.info? 5).map (fun i => (i.zero, i.size, i.bytes)) = some (some (.int .u8 0), 1, 1) := by kernel_rfl

/-! ### What a drawn region leaves of an elder world -/
theorem keep_alloc {a w : World} (h : Below a.heap.size a w) (o : Obj) : Below a.heap.size a (w.alloc o) := h.alloc h.size o
theorem keep_drew {a w : World} (h : Below a.heap.size a w) : Below a.heap.size a w.drew := h.drew
theorem keep_set {a w : World} (h : Below a.heap.size a w) {p : Addr} (hp : a.heap.size ≤ p.block) (u : Value) : Below a.heap.size a (w.setCell p u) := h.setCell hp u
theorem keep_grown {a w w' : World} {v : Value} {n : Nat} {xs : List Value} {e : TypeId} {s : Nat} (h : Below a.heap.size a w) (hg : w.grownBy w' v.ownBlock) (ho : w.ownsRow a.heap.size e s v n xs) : Below a.heap.size a w' :=
  h.grown hg h.size (fun q hq => (ho.lt q hq).1)
theorem rowB_of_owns {w : World} {base g n cap : Nat} {f : Nat → Int} (h : w.ownsRow base 5 1 (.slice (some ⟨g, 0, none⟩) (0 + n) cap) (0 + n) ([] ++ (List.range n).map fun j => .int .u8 (f j))) : RowB w g n f ∧ n ≤ cap ∧ base ≤ g := by
  rw [Nat.zero_add, List.nil_append] at h
  refine ⟨⟨fun k hk => ?_, fun q => h.frozenAt q, (h.lt g rfl).2⟩, ?_, (h.lt g rfl).1⟩
  · rw [h.cellAt k (by omega)]; simp [hk]
  · rcases h.2 with ⟨e, _⟩ | ⟨g', cap', cur, e, _, _, hn, _⟩
    · cases e
    · simp only [Value.slice.injEq] at e; omega
theorem RowB.far {w : World} {g n : Nat} {F : Nat → Int} (h : RowB w g n F) {k : Nat} (hk : k ≠ g) (o : Nat) (v : Value) : RowB (w.setCell ⟨k, o, none⟩ v) g n F :=
  ⟨fun j hj => by rw [World.cell?_setCell_other _ _ _ _ (fun e => hk (congrArg Addr.block e))]; exact h.1 j hj, fun q => by simpa using h.2.1 q, by simpa using h.2.2⟩
theorem mem_set2 {w : World} {k : Nat} {wr0 : Int} {a0 : Option Addr} {n0 cap0 : Nat} (h : MemFree w k wr0 a0 n0 cap0) (wr : Int) (a : Option Addr) (n cap : Nat) : MemFree ((w.setCell ⟨k, 0, none⟩ (.int .i64 wr)).setCell ⟨k, 1, none⟩ (.slice a n cap)) k wr a n cap := by
  obtain ⟨t0, t1⟩ := set2 h (.int .i64 wr) (.slice a n cap)
  exact ⟨⟨by rw [World.cell?_setCell_other _ _ _ _ (by simp)]; exact t0, t1⟩, by simpa using h.2.1, by simpa using h.2.2⟩
theorem MemFree.far {w : World} {g : Nat} {k : Nat} {wr : Int} {a : Option Addr} {n cap : Nat} (h : MemFree w k wr a n cap) (hk : k ≠ g) (o : Nat) (v : Value) : MemFree (w.setCell ⟨g, o, none⟩ v) k wr a n cap :=
  ⟨⟨by rw [World.cell?_setCell_other _ _ _ _ (fun e => hk (congrArg Addr.block e).symm)]; exact h.1.1, by rw [World.cell?_setCell_other _ _ _ _ (fun e => hk (congrArg Addr.block e).symm)]; exact h.1.2⟩, by simpa using h.2.1, by simpa using h.2.2⟩
/-- What stands when j bytes have been written: the new row, the memory that is answered, the answer's own block, the word's bytes. -/
def SaveInv (w wr : World) (f : Nat → Int) (i n : Nat) (x y : Int) (k g B R cap j : Nat) : Prop :=
  Below w.heap.size w wr ∧ RowB wr g n (putK f i x j) ∧ MemFree wr k y (some ⟨g, 0, none⟩) n cap ∧ MemFree wr R 0 none 0 0 ∧ ∀ q v, (bytesOf x)[q]? = some v → wr.cell? ⟨B, q, none⟩ = some v
theorem SaveInv.drew {w wr : World} {f : Nat → Int} {i n : Nat} {x y : Int} {k g B R cap j : Nat} (h : SaveInv w wr f i n x y k g B R cap j) : SaveInv w wr.drew f i n x y k g B R cap j :=
  ⟨h.1.drew, h.2⟩
theorem SaveInv.step {w wr : World} {f : Nat → Int} {i n : Nat} {x y : Int} {k g B R cap j : Nat} (h : SaveInv w wr f i n x y k g B R cap j) (hj : i + j < n) (hk : k ≠ g) (hR : R ≠ g) (hB : B ≠ g) (hg : w.heap.size ≤ g) :
    SaveInv w (wr.setCell ⟨g, i + j, none⟩ (.int .u8 (x / 256 ^ j % 256))) f i n x y k g B R cap (j + 1) := by
  obtain ⟨h1, h2, h3, h4, h5⟩ := h
  refine ⟨h1.setCell hg _, ?_, h3.far hk _ _, h4.far hR _ _, fun q v hq => ?_⟩
  · have e := put_step f i x j
    rw [← e]; exact h2.put _ hj _
  · rw [World.cell?_setCell_other _ _ _ _ (fun e => hB (congrArg Addr.block e).symm)]; exact h5 q v hq
/-- 'append(buf, xs...)', xs nil, as one step of a drawn region. -/
theorem step_append_none {P : Program} {ops : Array Oper} {o : Oper} {a : Act} {w : World} {K : Act → World → Prop} {Q : Exit → Act → World → Prop} {E : Prop}
    (hg : o.guard = none) (s x : Operand) (t : TypeId) (hop : o.op = Op.call { callee := Callee.builtin Builtin.append, args := #[s, x], argTypes := #[t, t] })
    (base : Nat) (e : TypeId) (i : TypeInfo) (size : Nat) (h1 : P.underlying t = some (.slice e)) (h2 : P.info? e = some i)
    (v : Value) (n : Nat) (xs : List Value) (hs : a.eval s = v) (hown : w.ownsRow base e size v n xs) (hx : a.eval x = .slice none 0 0)
    (hK : K (a.put o.dst v) w) : if Region.wanted o (yielded ops a.tmps) = true then Oper.wp P o a w K Q else E := by
  have hw : Region.wanted o (yielded ops a.tmps) = true := by simp [Region.wanted, hg]
  rw [if_pos hw]
  have hrun := run_append_owned_none (P := P) (w := w) base t o.type e i size h1 h2 v n xs hown
  unfold Oper.wp
  simp [execOp, hop, resolve, invoke, builtin, hs, hx, hrun, Result.andThen]
  exact hK
/-- 'append(buf, xs...)', xs empty, as one step of a drawn region. -/
theorem step_append_nothing {P : Program} {ops : Array Oper} {o : Oper} {a : Act} {w : World} {K : Act → World → Prop} {Q : Exit → Act → World → Prop} {E : Prop}
    (hg : o.guard = none) (s x : Operand) (t : TypeId) (hop : o.op = Op.call { callee := Callee.builtin Builtin.append, args := #[s, x], argTypes := #[t, t] })
    (e : TypeId) (i : TypeInfo) (h1 : P.underlying t = some (.slice e)) (h2 : P.info? e = some i) (h4 : i.size = 1)
    (b cap : Nat) (hs : a.eval s = .slice (some ⟨b, 0, none⟩) 0 cap) (ad : Addr) (c : Nat) (hx : a.eval x = .slice (some ad) 0 c)
    (hK : K (a.put o.dst (.slice (some ⟨b, 0, none⟩) 0 cap)) w) : if Region.wanted o (yielded ops a.tmps) = true then Oper.wp P o a w K Q else E :=
  step_append_room hg s x t hop e i 1 h1 h2 h4 b 0 0 cap hs ad 0 c [] hx rfl (fun j u h => by simp at h) (fun u h => by simp at h) (Nat.zero_le _) (fun j h => by simp at h) hK
theorem owns_behind (w : World) (o : Obj) : ((w.alloc o).alloc (.cells #[] 5)).ownsRow w.heap.size 5 1 (.slice (some ⟨w.heap.size + 1, 0, none⟩) 0 0) 0 [] := by
  have h := World.ownsRow_made (base := w.heap.size) (e := 5) (size := 1) (w.alloc o) #[] 0 (by simp) (by unfold maxLen; omega) rfl
  rwa [show (w.alloc o).heap.size = w.heap.size + 1 from by simp] at h
theorem rsave_no (wr at_ x : Int) (wide : Bool) (a : Option Addr) (n cap : Nat) (f : Nat → Int) (w : World) (hn : n ≤ 2000) (hc : n ≤ cap) (r0 : (Lit.int .i64 wr).wf = true) (h0 : 0 ≤ at_) (h1 : at_ < 4294967296) (hB : Bytes w a n f) (hs : saveB n at_ wide wr = false) :
    Calls Tryd.prog 25 #[memV wr a n cap, .int .u32 at_, .int .u32 x, .bool wide] w fun e w' => e = .returned (.tuple #[memV wr a n cap, .bool false]) ∧ Below w.heap.size w w' := by
  have HA : Hid (Below w.heap.size w ((w.alloc (.cells #[.int .i64 wr, .slice a n cap] 35)).alloc (.cells #[.int .i64 0, .slice none 0 0] 35))) := ((Below.refl _ w).alloc (Nat.le_refl _) _).alloc (by simp) _
  have HN : Hid (MemAt ((w.alloc (.cells #[.int .i64 wr, .slice a n cap] 35)).alloc (.cells #[.int .i64 0, .slice none 0 0] 35)) w.heap.size wr a n cap) := (MemAt.new w wr a n cap 35).later ((Below.refl _ _).alloc (Nat.le_refl _) _)
  have HM : Hid (MemFree ((w.alloc (.cells #[.int .i64 wr, .slice a n cap] 35)).alloc (.cells #[.int .i64 0, .slice none 0 0] 35)) (w.heap.size + 1) 0 none 0 0) := by
    have h := MemFree.new (w.alloc (.cells #[.int .i64 wr, .slice a n cap] 35)) 0 none 0 0 35
    rwa [show (w.alloc (.cells #[.int .i64 wr, .slice a n cap] 35)).heap.size = w.heap.size + 1 from by simp] at h
  have HS : Hid (w.heap.size ≤ ((w.alloc (.cells #[.int .i64 wr, .slice a n cap] 35)).alloc (.cells #[.int .i64 0, .slice none 0 0] 35)).heap.size) := by simp [Hid]; omega
  have HL : Hid (∀ W, Bytes W a n f → Calls Tryd.prog 24 #[memV wr a n cap, .int .u32 at_, .bool wide] W fun e w' => ∃ v, e = .returned (.tuple #[.int .u32 v, .bool (okB n at_ wide)]) ∧ Below W.heap.size W w') :=
    fun W hW => (rload_any wr at_ wide a n cap f W hn hc h0 h1 hW).mono fun e w' h => ⟨_, h⟩
  have hl := hB.later HA.out
  unfold saveB at hs
  cases ho : okB n at_ wide
  · rw [ho] at HL
    clear hs ho
    go_enter Tryd.func25, Tryd.ntmps25
    go_wp2_with (go_at_call 24; refine (HL.out _ hl).mono ?_; rintro e w1 ⟨v, rfl, hb1⟩; have Q1 := HN.out.later hb1; obtain ⟨x0, x1⟩ := id Q1; have M1 := HM.out.later hb1; obtain ⟨⟨y0, y1⟩, z0, z1⟩ := id M1)
    obtain ⟨t0, t1⟩ := set2 M1 (.int .i64 wr) (.slice a n cap)
    refine bodyPost_ret (v := Value.tuple #[memV wr a n cap, .bool false]) ?_ rfl ⟨rfl, below_set2 (HA.out.trans (hb1.mono HS.out)) (by omega) _ _⟩
    simp [results, Tryd.results25, go_sem, t0, t1]
  · rw [ho] at HL hs
    simp at hs
    clear ho
    go_enter Tryd.func25, Tryd.ntmps25
    go_wp2_with (go_at_call 24; refine (HL.out _ hl).mono ?_; rintro e w1 ⟨v, rfl, hb1⟩; have Q1 := HN.out.later hb1; obtain ⟨x0, x1⟩ := id Q1; have M1 := HM.out.later hb1; obtain ⟨⟨y0, y1⟩, z0, z1⟩ := id M1)
    obtain ⟨t0, t1⟩ := set2 M1 (.int .i64 wr) (.slice a n cap)
    refine bodyPost_ret (v := Value.tuple #[memV wr a n cap, .bool false]) ?_ rfl ⟨rfl, below_set2 (HA.out.trans (hb1.mono HS.out)) (by omega) _ _⟩
    simp [results, Tryd.results25, go_sem, t0, t1]
set_option maxRecDepth 100000 in
set_option maxHeartbeats 1000000 in
theorem rsave_yes (wt x : Int) (i : Nat) (wide : Bool) (b off : Nat) (n cap : Nat) (f : Nat → Int) (w : World) (hn : n ≤ 2000) (hc : n ≤ cap) (r0 : (Lit.int .i64 wt).wf = true) (h1 : (i : Int) < 4294901760) (x0 : 0 ≤ x) (x1 : x < 4294967296) (hf : ∀ i, 0 ≤ f i ∧ f i < 256) (hB : ∀ j, j < n → w.cell? ⟨b, off + j, none⟩ = some (.int .u8 (f j)))
    (ho : okB n (65536 + (i : Int)) wide = true) (hs : wt ≤ (i : Int)) :
    Calls Tryd.prog 25 #[memV wt (some ⟨b, off, none⟩) n cap, .int .u32 (65536 + (i : Int)), .int .u32 x, .bool wide] w fun e w' => ∃ g cap', e = .returned (.tuple #[memV wt (some ⟨g, 0, none⟩) n cap', .bool true]) ∧ w.heap.size ≤ g ∧ n ≤ cap' ∧ RowB w' g n (putK f i x (if wide = true then 4 else 1)) ∧ Below w.heap.size w w' := by
  have HA : Hid (Below w.heap.size w ((w.alloc (.cells #[.int .i64 wt, .slice (some ⟨b, off, none⟩) n cap] 35)).alloc (.cells #[.int .i64 0, .slice none 0 0] 35))) := ((Below.refl _ w).alloc (Nat.le_refl _) _).alloc (by simp) _
  have HN : Hid (MemAt ((w.alloc (.cells #[.int .i64 wt, .slice (some ⟨b, off, none⟩) n cap] 35)).alloc (.cells #[.int .i64 0, .slice none 0 0] 35)) w.heap.size wt (some ⟨b, off, none⟩) n cap) := (MemAt.new w wt (some ⟨b, off, none⟩) n cap 35).later ((Below.refl _ _).alloc (Nat.le_refl _) _)
  have HM : Hid (MemFree ((w.alloc (.cells #[.int .i64 wt, .slice (some ⟨b, off, none⟩) n cap] 35)).alloc (.cells #[.int .i64 0, .slice none 0 0] 35)) (w.heap.size + 1) 0 none 0 0) := by
    have h := MemFree.new (w.alloc (.cells #[.int .i64 wt, .slice (some ⟨b, off, none⟩) n cap] 35)) 0 none 0 0 35
    rwa [show (w.alloc (.cells #[.int .i64 wt, .slice (some ⟨b, off, none⟩) n cap] 35)).heap.size = w.heap.size + 1 from by simp] at h
  have HS : Hid (w.heap.size ≤ ((w.alloc (.cells #[.int .i64 wt, .slice (some ⟨b, off, none⟩) n cap] 35)).alloc (.cells #[.int .i64 0, .slice none 0 0] 35)).heap.size) := by simp [Hid]; omega
  have HL : Hid (∀ W, Bytes W (some ⟨b, off, none⟩) n f → Calls Tryd.prog 24 #[memV wt (some ⟨b, off, none⟩) n cap, .int .u32 (65536 + (i : Int)), .bool wide] W fun e w' => ∃ v, e = .returned (.tuple #[.int .u32 v, .bool true]) ∧ Below W.heap.size W w') :=
    fun W hW => by have h := rload_any wt (65536 + (i : Int)) wide (some ⟨b, off, none⟩) n cap f W hn hc (by omega) (by omega) hW; rw [ho] at h; exact h.mono fun e w' h => ⟨_, h⟩
  have hl : Bytes ((w.alloc (.cells #[.int .i64 wt, .slice (some ⟨b, off, none⟩) n cap] 35)).alloc (.cells #[.int .i64 0, .slice none 0 0] 35)) (some ⟨b, off, none⟩) n f := Bytes.later ⟨hf, .inr ⟨b, off, rfl, hB⟩⟩ HA.out
  have hi : i < n := by simp [okB] at ho; omega
  have HI : Hid (wide = true → i + 4 ≤ n) := by unfold Hid; intro h; simp [okB, h] at ho; omega
  have HF : Hid (∀ i, 0 ≤ f i ∧ f i < 256) := hf
  have HB : Hid (∀ j, j < n → w.cell? ⟨b, off + j, none⟩ = some (.int .u8 (f j))) := hB
  have ei : (65536 + (i : Int)) - 65536 = i := by omega
  clear hf hB ho hc h1
  obtain ⟨i0, hi0, hz0, hz1, hz2⟩ := info_parts info5
  go_enter Tryd.func25, Tryd.ntmps25
  go_upto_region 5 with (first
    | (go_at_call 24; refine (HL.out _ hl).mono ?_; rintro e w1 ⟨v, rfl, hb1⟩; have Q1 := HN.out.later hb1; obtain ⟨x0, x1⟩ := id Q1; have M1 := HM.out.later hb1))
  have HM1 : Hid (MemFree w1 (w.heap.size + 1) 0 none 0 0) := M1
  have HB1 : Hid (∀ j, j < n → w1.cell? ⟨b, off + j, none⟩ = some (.int .u8 (f j))) := fun j hj => cell_later' (cell_later' (HB.out j hj) HA.out) hb1
  have HW1 : Hid (Below w.heap.size w w1) := HA.out.trans (hb1.mono HS.out)
  have hs1 : w.heap.size + 1 < w1.heap.size := World.block_lt_of_cell? w1 ⟨w.heap.size + 1, 0, none⟩ M1.1.1
  clear M1 hb1 hl HL HB
  go_cut [13] from 35 to 41 (fun p wx => ∃ k g cap', p = .pointer (some ⟨k, 0, none⟩) ∧ MemFree wx k wt (some ⟨g, 0, none⟩) n cap' ∧ RowB wx g n f ∧ n ≤ cap' ∧ w1.heap.size ≤ g ∧ w1.heap.size ≤ k ∧ k ≠ g ∧ Below w1.heap.size w1 wx)
  case first =>
    have HA1 : Hid (∀ W : World, (∀ j, j < n → W.cell? ⟨b, off + j, none⟩ = some (.int .u8 (f j))) → ∀ j u, ((List.range n).map fun j => Value.int .u8 (f j))[j]? = some u → W.cell? ((⟨b, off, none⟩ : Addr).add j) = some u) := by
      intro W hW j u hu
      have hj : j < n := by have := (List.getElem?_eq_some_iff.1 hu).1; simpa using this
      rw [show (⟨b, off, none⟩ : Addr).add j = ⟨b, off + j, none⟩ from by cases j <;> simp [Addr.add], hW j hj, ← hu]
      simp [hj]
    have HK : Hid (∀ W : World, Below w1.heap.size w1 W → W.cell? ⟨w.heap.size, 0, none⟩ = some (.int .i64 wt) ∧ W.cell? ⟨w.heap.size, 1, none⟩ = some (.slice (some ⟨b, off, none⟩) n cap) ∧ Below w1.heap.size w1 W) := fun W hW => ⟨cell_later' x0 hW, cell_later' x1 hW, hW⟩
    have hb0 := Below.refl w1.heap.size w1
    go_region_held3 (fun w' => w'.cell? ⟨w.heap.size, 0, none⟩ = some (.int .i64 wt) ∧ w'.cell? ⟨w.heap.size, 1, none⟩ = some (.slice (some ⟨b, off, none⟩) n cap) ∧ Below w1.heap.size w1 w')
      (first
      | (refine HK.out _ ?_; repeat' (first | exact (‹_ ∧ _ ∧ Below w1.heap.size w1 _›).2.2 | exact hb0 | refine keep_drew ?_ | refine keep_alloc ?_ _ | refine keep_set ?_ (by simp <;> omega) _ | refine Below.grown ?_ hgrow ?_ (fun q hq => by simp [Value.ownBlock] at hq; omega) | exact (‹_ ∧ _ ∧ Below w1.heap.size w1 _›).2.2.size | (simp <;> omega)))
      | fail)
      (first
      | ((refine step_append_lies _ (by rfl) _ _ 23 (by rfl) w1.heap.size 5 i0 _ 1 1 Tryd.underlying23 hi0 hz0 hz1 hz2 rfl (by decide) (.slice (some ⟨w1.heap.size, 0, none⟩) 0 0) 0 [] (by rfl) (World.ownsRow_made w1 #[] 0 (Nat.le_refl _) (by unfold maxLen; omega) rfl) ⟨b, off, none⟩ n cap ((List.range n).map fun j => .int .u8 (f j)) (by rfl) (by simp) (HA1.out _ (fun j hj => cell_later' (HB1.out j hj) (((Below.refl _ _).alloc (Nat.le_refl _) _).drew))) (by simp [Value.oneCell']) (by omega) (by unfold maxLen; omega) (by omega) (by simp) _ rfl ?_; intro g cap2 w2 hown hgrow hat hlt; have hb2 : Below w1.heap.size w1 w2 := Below.grown ((Below.refl _ _).alloc (Nat.le_refl _) _).drew hgrow (by simp <;> omega) (fun q hq => by simp [Value.ownBlock] at hq; omega)))
      | ((refine step_append_lies _ (by rfl) _ _ 23 (by rfl) w1.heap.size 5 i0 _ 1 1 Tryd.underlying23 hi0 hz0 hz1 hz2 rfl (by decide) (.slice (some ⟨w1.heap.size, 0, none⟩) 0 0) 0 [] (by rfl) ((World.ownsRow_made w1 #[] 0 (Nat.le_refl _) (by unfold maxLen; omega) rfl).alloc _) ⟨b, off, none⟩ n cap ((List.range n).map fun j => .int .u8 (f j)) (by rfl) (by simp) (HA1.out _ (fun j hj => cell_later' (HB1.out j hj) (by first | exact (((Below.refl _ _).alloc (Nat.le_refl _) _).drew).alloc (by simp) _ | exact ((((Below.refl _ _).alloc (Nat.le_refl _) _).drew).alloc (by simp) _).drew))) (by simp [Value.oneCell']) (by omega) (by unfold maxLen; omega) (by omega) (by simp <;> omega) _ rfl ?_; intro g cap2 w2 hown hgrow hat hlt; have hb2 : Below w1.heap.size w1 w2 := Below.grown (by first | exact (((Below.refl _ _).alloc (Nat.le_refl _) _).drew).alloc (by simp) _ | exact ((((Below.refl _ _).alloc (Nat.le_refl _) _).drew).alloc (by simp) _).drew | exact (((Below.refl _ _).alloc (Nat.le_refl _) _).alloc (by simp) _) | exact (((Below.refl _ _).alloc (Nat.le_refl _) _).alloc (by simp) _).drew) hgrow (by simp <;> omega) (fun q hq => by simp [Value.ownBlock] at hq; omega); have k0 : w2.cell? ⟨w1.heap.size + 1, 0, none⟩ = some (.int .i64 0) := hgrow.cell (by simp [go_sem]) (by simp [Value.ownBlock]); have k1 : w2.cell? ⟨w1.heap.size + 1, 1, none⟩ = some (.slice none 0 0) := hgrow.cell (by simp [go_sem]) (by simp [Value.ownBlock]); have k2 : w2.frozen? ⟨w1.heap.size + 1, 0, none⟩ = false := (World.frozen?_of_block (a := ⟨w1.heap.size + 1, 0, none⟩) (hgrow.block _ (by simp <;> omega) (by simp [Value.ownBlock]))).trans (by simp [go_sem]); have k3 : w2.frozen? ⟨w1.heap.size + 1, 1, none⟩ = false := (World.frozen?_of_block (a := ⟨w1.heap.size + 1, 1, none⟩) (hgrow.block _ (by simp <;> omega) (by simp [Value.ownBlock]))).trans (by simp [go_sem])))
      | ((refine step_append_lies _ (by rfl) _ _ 23 (by rfl) w1.heap.size 5 i0 _ 1 1 Tryd.underlying23 hi0 hz0 hz1 hz2 rfl (by decide) (.slice (some ⟨w1.heap.size + 1, 0, none⟩) 0 0) 0 [] (by rfl) (owns_behind w1 _) ⟨b, off, none⟩ n cap ((List.range n).map fun j => .int .u8 (f j)) (by rfl) (by simp) (HA1.out _ (fun j hj => cell_later' (HB1.out j hj) (by first | exact (((Below.refl _ _).alloc (Nat.le_refl _) _).alloc (by simp) _).drew | exact (((Below.refl _ _).alloc (Nat.le_refl _) _).alloc (by simp) _) | exact (((Below.refl _ _).alloc (Nat.le_refl _) _).drew.alloc (by simp) _)))) (by simp [Value.oneCell']) (by omega) (by unfold maxLen; omega) (by omega) (by simp <;> omega) _ rfl ?_; intro g cap2 w2 hown hgrow hat hlt; have hb2 : Below w1.heap.size w1 w2 := Below.grown (by first | exact (((Below.refl _ _).alloc (Nat.le_refl _) _).alloc (by simp) _).drew | exact (((Below.refl _ _).alloc (Nat.le_refl _) _).alloc (by simp) _) | exact (((Below.refl _ _).alloc (Nat.le_refl _) _).drew.alloc (by simp) _) | exact (((Below.refl _ _).alloc (Nat.le_refl _) _).drew.alloc (by simp) _).drew) hgrow (by simp <;> omega) (fun q hq => by simp [Value.ownBlock] at hq; omega); have k0 : w2.cell? ⟨w1.heap.size, 0, none⟩ = some (.int .i64 0) := hgrow.cell (by simp [go_sem]) (by simp [Value.ownBlock]); have k1 : w2.cell? ⟨w1.heap.size, 1, none⟩ = some (.slice none 0 0) := hgrow.cell (by simp [go_sem]) (by simp [Value.ownBlock]); have k2 : w2.frozen? ⟨w1.heap.size, 0, none⟩ = false := (World.frozen?_of_block (a := ⟨w1.heap.size, 0, none⟩) (hgrow.block _ (by simp <;> omega) (by simp [Value.ownBlock]))).trans (by simp [go_sem]); have k3 : w2.frozen? ⟨w1.heap.size, 1, none⟩ = false := (World.frozen?_of_block (a := ⟨w1.heap.size, 1, none⟩) (hgrow.block _ (by simp <;> omega) (by simp [Value.ownBlock]))).trans (by simp [go_sem])))
      | fail)
    all_goals go_wp2_with fail
    all_goals go_meet
    all_goals
      obtain ⟨hr, hnc, hg⟩ := rowB_of_owns hown
      simp [Value.ownBlock] at hat
    · exact ⟨w2.heap.size, g, cap2, rfl, MemFree.new w2 _ _ _ _ _, hr.later ((Below.refl _ _).alloc (Nat.le_refl _) _), hnc, hg, hb2.size, by omega, keep_alloc hb2 _⟩
    · exact ⟨w1.heap.size + 1, g, cap2, rfl, mem_set2 ⟨⟨k0, k1⟩, k2, k3⟩ _ _ _ _, (hr.far (by omega) _ _).far (by omega) _ _, hnc, hg, by omega, by omega, below_set2 hb2 (by omega) _ _⟩
    · exact ⟨w1.heap.size, g, cap2, rfl, mem_set2 ⟨⟨k0, k1⟩, k2, k3⟩ _ _ _ _, (hr.far (by omega) _ _).far (by omega) _ _, hnc, hg, by omega, by omega, below_set2 hb2 (by omega) _ _⟩
  case rest =>
    obtain ⟨k, g, cap', rfl, hM, hR, hnc, hg, hk, hkg, hbc⟩ := hcut
    have HMr : Hid (MemFree wc (w.heap.size + 1) 0 none 0 0) := by
      have hq := HM1.out
      refine ⟨⟨(hbc.cell (p := ⟨w.heap.size + 1, 0, none⟩) hs1).trans hq.1.1, (hbc.cell (p := ⟨w.heap.size + 1, 1, none⟩) hs1).trans hq.1.2⟩, (hbc.frozen (p := ⟨w.heap.size + 1, 0, none⟩) hs1).trans hq.2.1, (hbc.frozen (p := ⟨w.heap.size + 1, 1, none⟩) hs1).trans hq.2.2⟩
    have HWc : Hid (Below w.heap.size w wc) := HW1.out.trans (hbc.mono (by omega))
    have HMk : Hid (MemFree wc k wt (some ⟨g, 0, none⟩) n cap') := hM
    have HRg : Hid (RowB wc g n f) := hR
    have hgl : g < wc.heap.size := hR.2.2
    have hkl : k < wc.heap.size := World.block_lt_of_cell? wc ⟨k, 0, none⟩ hM.1.1
    have HP : Hid (∀ W, Calls Tryd.prog 42 #[.int .u32 x] W fun e w' => e = .returned (.slice (some ⟨W.heap.size, 0, none⟩) 4 4) ∧ w' = W.alloc (.cells (bytesOf x) 5)) := fun W => rput_any x W (by assumption) (by assumption)
    clear hM hR HM1 HB1 Q1 x0 x1 hi0 hz0 hz1 hz2
    go_upto_region 7 with (go_at_call 42; refine (HP.out _).mono ?_; rintro e w3 ⟨rfl, rfl⟩)
    have HBd : Hid (Below wc.heap.size wc (wc.alloc (.cells (bytesOf x) 5))) := (Below.refl _ _).alloc (Nat.le_refl _) _
    have HBc : Hid (∀ j v, (bytesOf x)[j]? = some v → (wc.alloc (.cells (bytesOf x) 5)).cell? ⟨wc.heap.size, j, none⟩ = some v) := fun j v h => new_cell' wc _ _ j v h
    have hMr : Hid (MemFree (wc.alloc (.cells (bytesOf x) 5)) (w.heap.size + 1) 0 none 0 0) := HMr.out.later HBd.out
    have hMk : Hid (MemFree (wc.alloc (.cells (bytesOf x) 5)) k wt (some ⟨g, 0, none⟩) n cap') := HMk.out.later HBd.out
    have hRg : Hid (RowB (wc.alloc (.cells (bytesOf x) 5)) g n f) := HRg.out.later HBd.out
    have hWd : Hid (Below w.heap.size w (wc.alloc (.cells (bytesOf x) 5))) := HWc.out.alloc HWc.out.size _
    generalize wc.alloc (.cells (bytesOf x) 5) = wd at HBd HBc hMr hMk hRg hWd ⊢
    clear HBd HMr HMk HRg HWc hbc
    generalize wc.heap.size = B at *
    obtain ⟨⟨_, m1⟩, _, _⟩ := id hMk.out
    have b0 : wd.cell? ⟨B, 0, none⟩ = some (.int .u8 (x % 256)) := HBc.out 0 _ rfl
    have gi := hRg.out.1 i hi
    have kg1 : (⟨g, i, none⟩ : Addr) ≠ ⟨k, 1, none⟩ := fun e => hkg (congrArg Addr.block e).symm
    have bg1 : (⟨g, i, none⟩ : Addr) ≠ ⟨B, 0, none⟩ := fun e => by have := congrArg Addr.block e; simp at this; omega
    have gf := hRg.out.2.1 i
    have KEEP : Hid (∀ v : Value, (wd.setCell ⟨g, i, none⟩ v).drew.cell? ⟨k, 1, none⟩ = some (.slice (some ⟨g, 0, none⟩) n cap') ∧ (wd.setCell ⟨g, i, none⟩ v).drew.cell? ⟨B, 0, none⟩ = some (.int .u8 (x % 256))) := fun v => ⟨(World.cell?_setCell_other _ _ _ _ kg1).trans m1, (World.cell?_setCell_other _ _ _ _ bg1).trans b0⟩
    go_region_held3 (fun w' => w'.cell? ⟨k, 1, none⟩ = some (.slice (some ⟨g, 0, none⟩) n cap') ∧ w'.cell? ⟨B, 0, none⟩ = some (.int .u8 (x % 256))) (first | exact KEEP.out _ | exact ⟨m1, b0⟩ | fail) (fail)
    all_goals go_wp2_with fail
    have hRk : w.heap.size + 1 ≠ g := by omega
    have hBg : B ≠ g := by omega
    have hwg : w.heap.size ≤ g := by omega
    have H0 : SaveInv w wd f i n x wt k g B (w.heap.size + 1) cap' 0 := ⟨hWd.out, by rw [put_zero]; exact hRg.out, hMk.out, hMr.out, HBc.out⟩
    have H1 : SaveInv w (wd.setCell ⟨g, i, none⟩ (.int .u8 (x % 256))).drew f i n x wt k g B (w.heap.size + 1) cap' 1 := by
      have h := (H0.step (by omega) hkg hRk hBg hwg).drew
      simpa using h
    clear H0 hWd hRg hMk hMr HBc gi gf b0 m1 kg1 bg1 KEEP HP
    go_loopw [15] (fun t wx => ∃ j : Nat, 1 ≤ j ∧ j ≤ 4 ∧ (wide = false → j = 1) ∧ t = .int .i64 j ∧ SaveInv w wx f i n x wt k g B (w.heap.size + 1) cap' j) (fun t _ => 4 - (intOf t).toNat)
    case atStart => exact ⟨1, by omega, by omega, fun _ => rfl, rfl, H1⟩
    case round =>
      obtain ⟨j, hj1, hj4, hjw, rfl, hI⟩ := hrel
      have HInv : Hid (SaveInv w wr f i n x wt k g B (w.heap.size + 1) cap' j) := hI
      cases wide
      · obtain rfl := hjw rfl
        obtain ⟨hbw, hrow, ⟨⟨m0, m1⟩, _⟩, hMR, _⟩ := id HInv.out
        obtain ⟨⟨y0, y1⟩, z0, z1⟩ := id hMR
        obtain ⟨t0, t1⟩ := set2 hMR (.int .i64 wt) (.slice (some ⟨g, 0, none⟩) n cap')
        clear hI
        go_wp2
        refine bodyPost_ret (v := Value.tuple #[memV wt (some ⟨g, 0, none⟩) n cap', .bool true]) ?_ rfl ⟨g, cap', rfl, hwg, hnc, (HInv.out.2.1.far hRk _ _).far hRk _ _, below_set2 HInv.out.1 (by omega) _ _⟩
        simp [results, Tryd.results25, go_sem, t0, t1]
      · clear hI hjw
        rcases (by omega : j = 1 ∨ j = 2 ∨ j = 3 ∨ j = 4) with rfl | rfl | rfl | rfl
        ·
          have b0 : wr.cell? ⟨B, 1, none⟩ = some (.int .u8 (x / 256 ^ 1 % 256)) := HInv.out.2.2.2.2 1 _ (by simp [bytesOf])
          obtain ⟨hbw, hrow, ⟨⟨m0, m1⟩, _⟩, _, _⟩ := id HInv.out
          have gi := hrow.1 (i + 1) (by have := HI.out rfl; omega)
          have gf := hrow.2.1 (i + 1)
          have hi4 : (i : Int) + 1 < n := by have := HI.out rfl; omega
          have hi5 : (0 : Int) ≤ (i : Int) + 1 := by omega
          have hi6 : IntKind.i64.wrap ((i : Int) + 1) = (i : Int) + 1 := by simp [IntKind.wrap, IntKind.bits, IntKind.signed]; omega
          have hi7 : ((i : Int) + 1).toNat = i + 1 := by omega
          have KEEP : Hid (∀ v : Value, (wr.setCell ⟨g, i + 1, none⟩ v).drew.cell? ⟨k, 1, none⟩ = some (.slice (some ⟨g, 0, none⟩) n cap') ∧ (wr.setCell ⟨g, i + 1, none⟩ v).drew.cell? ⟨B, 1, none⟩ = some (.int .u8 (x / 256 ^ 1 % 256))) := fun v => ⟨(World.cell?_setCell_other _ _ _ _ (fun e => hkg (congrArg Addr.block e).symm)).trans m1, (World.cell?_setCell_other _ _ _ _ (fun e => hBg (congrArg Addr.block e).symm)).trans b0⟩
          go_upto_region 11 with fail
          go_region_held3 (fun w' => w'.cell? ⟨k, 1, none⟩ = some (.slice (some ⟨g, 0, none⟩) n cap') ∧ w'.cell? ⟨B, 1, none⟩ = some (.int .u8 (x / 256 ^ 1 % 256))) (first | exact KEEP.out _ | exact ⟨m1, b0⟩ | fail) (fail)
          all_goals go_wp2_with fail
          go_roundw
          case rel => exact ⟨2, by omega, by omega, fun h => by simp at h, rfl, (HInv.out.step (by have := HI.out rfl; omega) hkg hRk hBg hwg).drew⟩
          case measure => simp [intOf]
        ·
          have b0 : wr.cell? ⟨B, 2, none⟩ = some (.int .u8 (x / 256 ^ 2 % 256)) := HInv.out.2.2.2.2 2 _ (by simp [bytesOf])
          obtain ⟨hbw, hrow, ⟨⟨m0, m1⟩, _⟩, _, _⟩ := id HInv.out
          have gi := hrow.1 (i + 2) (by have := HI.out rfl; omega)
          have gf := hrow.2.1 (i + 2)
          have hi4 : (i : Int) + 2 < n := by have := HI.out rfl; omega
          have hi5 : (0 : Int) ≤ (i : Int) + 2 := by omega
          have hi6 : IntKind.i64.wrap ((i : Int) + 2) = (i : Int) + 2 := by simp [IntKind.wrap, IntKind.bits, IntKind.signed]; omega
          have hi7 : ((i : Int) + 2).toNat = i + 2 := by omega
          have KEEP : Hid (∀ v : Value, (wr.setCell ⟨g, i + 2, none⟩ v).drew.cell? ⟨k, 1, none⟩ = some (.slice (some ⟨g, 0, none⟩) n cap') ∧ (wr.setCell ⟨g, i + 2, none⟩ v).drew.cell? ⟨B, 2, none⟩ = some (.int .u8 (x / 256 ^ 2 % 256))) := fun v => ⟨(World.cell?_setCell_other _ _ _ _ (fun e => hkg (congrArg Addr.block e).symm)).trans m1, (World.cell?_setCell_other _ _ _ _ (fun e => hBg (congrArg Addr.block e).symm)).trans b0⟩
          go_upto_region 11 with fail
          go_region_held3 (fun w' => w'.cell? ⟨k, 1, none⟩ = some (.slice (some ⟨g, 0, none⟩) n cap') ∧ w'.cell? ⟨B, 2, none⟩ = some (.int .u8 (x / 256 ^ 2 % 256))) (first | exact KEEP.out _ | exact ⟨m1, b0⟩ | fail) (fail)
          all_goals go_wp2_with fail
          go_roundw
          case rel => exact ⟨3, by omega, by omega, fun h => by simp at h, rfl, (HInv.out.step (by have := HI.out rfl; omega) hkg hRk hBg hwg).drew⟩
          case measure => simp [intOf]
        ·
          have b0 : wr.cell? ⟨B, 3, none⟩ = some (.int .u8 (x / 256 ^ 3 % 256)) := HInv.out.2.2.2.2 3 _ (by simp [bytesOf]; omega)
          obtain ⟨hbw, hrow, ⟨⟨m0, m1⟩, _⟩, _, _⟩ := id HInv.out
          have gi := hrow.1 (i + 3) (by have := HI.out rfl; omega)
          have gf := hrow.2.1 (i + 3)
          have hi4 : (i : Int) + 3 < n := by have := HI.out rfl; omega
          have hi5 : (0 : Int) ≤ (i : Int) + 3 := by omega
          have hi6 : IntKind.i64.wrap ((i : Int) + 3) = (i : Int) + 3 := by simp [IntKind.wrap, IntKind.bits, IntKind.signed]; omega
          have hi7 : ((i : Int) + 3).toNat = i + 3 := by omega
          have KEEP : Hid (∀ v : Value, (wr.setCell ⟨g, i + 3, none⟩ v).drew.cell? ⟨k, 1, none⟩ = some (.slice (some ⟨g, 0, none⟩) n cap') ∧ (wr.setCell ⟨g, i + 3, none⟩ v).drew.cell? ⟨B, 3, none⟩ = some (.int .u8 (x / 256 ^ 3 % 256))) := fun v => ⟨(World.cell?_setCell_other _ _ _ _ (fun e => hkg (congrArg Addr.block e).symm)).trans m1, (World.cell?_setCell_other _ _ _ _ (fun e => hBg (congrArg Addr.block e).symm)).trans b0⟩
          go_upto_region 11 with fail
          go_region_held3 (fun w' => w'.cell? ⟨k, 1, none⟩ = some (.slice (some ⟨g, 0, none⟩) n cap') ∧ w'.cell? ⟨B, 3, none⟩ = some (.int .u8 (x / 256 ^ 3 % 256))) (first | exact KEEP.out _ | exact ⟨m1, b0⟩ | fail) (fail)
          all_goals go_wp2_with fail
          go_roundw
          case rel => exact ⟨4, by omega, by omega, fun h => by simp at h, rfl, (HInv.out.step (by have := HI.out rfl; omega) hkg hRk hBg hwg).drew⟩
          case measure => simp [intOf]
        ·
          obtain ⟨hbw, hrow, ⟨⟨m0, m1⟩, _⟩, hMR, _⟩ := id HInv.out
          obtain ⟨⟨y0, y1⟩, z0, z1⟩ := id hMR
          obtain ⟨t0, t1⟩ := set2 hMR (.int .i64 wt) (.slice (some ⟨g, 0, none⟩) n cap')
          go_wp2
          refine bodyPost_ret (v := Value.tuple #[memV wt (some ⟨g, 0, none⟩) n cap', .bool true]) ?_ rfl ⟨g, cap', rfl, hwg, hnc, (HInv.out.2.1.far hRk _ _).far hRk _ _, below_set2 HInv.out.1 (by omega) _ _⟩
          simp [results, Tryd.results25, go_sem, t0, t1]
/-- What a memory that was saved to holds: the place is at_ - 65536. -/
def savedF (f : Nat → Int) (at_ x : Int) (wide : Bool) : Nat → Int := putK f (at_ - 65536).toNat x (if wide = true then 4 else 1)
/-- A Save that goes through answers a memory in new cells, which may be written. -/
def SaveYes (p : Program) (fn : Nat) (wt at_ x : Int) (wide : Bool) (a : Option Addr) (n cap : Nat) (f : Nat → Int) (w : World) : Prop :=
  Calls p fn #[memV wt a n cap, .int .u32 at_, .int .u32 x, .bool wide] w fun e w' => ∃ g cap', e = .returned (.tuple #[memV wt (some ⟨g, 0, none⟩) n cap', .bool true]) ∧ w.heap.size ≤ g ∧ n ≤ cap' ∧ RowB w' g n (savedF f at_ x wide) ∧ Below w.heap.size w w'
/-- One that doesn't answers the memory that was handed in. -/
def SaveNo (p : Program) (fn : Nat) (wt at_ x : Int) (wide : Bool) (a : Option Addr) (n cap : Nat) (w : World) : Prop :=
  Calls p fn #[memV wt a n cap, .int .u32 at_, .int .u32 x, .bool wide] w fun e w' => e = .returned (.tuple #[memV wt a n cap, .bool false]) ∧ Below w.heap.size w w'
theorem rsave_any (wt at_ x : Int) (wide : Bool) (a : Option Addr) (n cap : Nat) (f : Nat → Int) (w : World) (hn : n ≤ 2000) (hc : n ≤ cap) (r0 : (Lit.int .i64 wt).wf = true) (h0 : 0 ≤ at_) (h1 : at_ < 4294967296) (x0 : 0 ≤ x) (x1 : x < 4294967296) (hB : Bytes w a n f) (hs : saveB n at_ wide wt = true) :
    SaveYes Tryd.prog 25 wt at_ x wide a n cap f w := by
  unfold saveB at hs
  rw [Bool.and_eq_true] at hs
  obtain ⟨ho, hw⟩ := hs
  have hat : 65536 ≤ at_ ∧ at_ - 65536 < n := by unfold okB at ho; have := of_decide_eq_true ho; exact ⟨this.1, this.2.1⟩
  obtain ⟨i, rfl⟩ : ∃ i : Nat, at_ = 65536 + (i : Int) := ⟨(at_ - 65536).toNat, by omega⟩
  obtain ⟨hf, h | ⟨b, off, rfl, hcell⟩⟩ := hB
  · omega
  have ei : ((65536 + (i : Int)) - 65536).toNat = i := by omega
  unfold SaveYes savedF
  rw [ei]
  exact rsave_yes wt x i wide b off n cap f w hn hc r0 (by omega) x0 x1 hf hcell ho (by have := of_decide_eq_true hw; omega)
open Go.ChangeShapes Go.WideShapes Go.ChangeAt Go.RowKit
set_option linter.unusedVariables false

theorem bytes_of_rowB {w : World} {g n : Nat} {F : Nat → Int} (h : RowB w g n F) (hF : ∀ i, 0 ≤ F i ∧ F i < 256) : Bytes w (some ⟨g, 0, none⟩) n F :=
  ⟨hF, .inr ⟨g, 0, rfl, fun i hi => by rw [Nat.zero_add]; exact h.1 i hi⟩⟩
theorem bytes_same (w : World) (a1 a2 : Option Addr) (n c1 c2 : Nat) (f : Nat → Int) (hn : n ≤ 2000) (h1 : Bytes w a1 n f) (h2 : Bytes w a2 n f) :
    Calls Tryd.prog 14 #[.slice a1 n c1, .slice a2 n c2] w fun e w' => e = .returned (.bool true) ∧ Below w.heap.size w w' := by
  have H1 : Hid (Bytes w a1 n f) := h1
  have H2 : Hid (Bytes w a2 n f) := h2
  clear h1 h2
  go_enter Tryd.func14, Tryd.ntmps14
  go_wp2
  go_loopw [5] (fun i wr => ∃ k : Nat, k ≤ n ∧ i = .int .i64 k ∧ Below w.heap.size w wr) (fun i _ => n - (intOf i).toNat)
  case atStart => exact ⟨0, Nat.zero_le _, rfl, Below.refl _ _⟩
  case round =>
    obtain ⟨k, hk, rfl, hbel⟩ := hrel
    have HB : Hid (Below w.heap.size w wr) := hbel
    by_cases hlt : k < n
    · obtain ⟨_, e | ⟨b1, o1, rfl, q1⟩⟩ := H1.out.later hbel
      · omega
      obtain ⟨_, e | ⟨b2, o2, rfl, q2⟩⟩ := H2.out.later hbel
      · omega
      have k1 := q1 k hlt
      have k2 := q2 k hlt
      clear q1 q2 hbel
      generalize f k = x at k1 k2
      go_wp2
      go_quiet (fail)
      go_wp2
      go_roundw
      case rel => exact ⟨k + 1, by omega, by go_num, below_drewN HB.out _⟩
      case measure => simp [intOf]; omega
    · obtain rfl : k = n := by omega
      clear hbel
      go_wp2
      go_ret
      exact ⟨rfl, HB.out⟩
theorem rsame_any (w : World) (wt : Int) (a1 a2 : Option Addr) (n c1 c2 : Nat) (f : Nat → Int) (hn : n ≤ 2000) (h1 : Bytes w a1 n f) (h2 : Bytes w a2 n f) :
    Calls Tryd.prog 31 #[memV wt a1 n c1, memV wt a2 n c2] w fun e w' => e = .returned (.bool true) ∧ Below w.heap.size w w' := by
  have HS : Hid (∀ W, Bytes W a1 n f → Bytes W a2 n f → Calls Tryd.prog 14 #[.slice a1 n c1, .slice a2 n c2] W fun e w' => e = .returned (.bool true) ∧ Below W.heap.size W w') := fun W g1 g2 => bytes_same W a1 a2 n c1 c2 f hn g1 g2
  have HA : Hid (Below w.heap.size w ((w.alloc (.cells #[.int .i64 wt, .slice a1 n c1] 35)).alloc (.cells #[.int .i64 wt, .slice a2 n c2] 35))) := ((Below.refl _ w).alloc (Nat.le_refl _) _).alloc (by simp) _
  have H1 : Hid (Bytes ((w.alloc (.cells #[.int .i64 wt, .slice a1 n c1] 35)).alloc (.cells #[.int .i64 wt, .slice a2 n c2] 35)) a1 n f) := h1.later HA.out
  have H2 : Hid (Bytes ((w.alloc (.cells #[.int .i64 wt, .slice a1 n c1] 35)).alloc (.cells #[.int .i64 wt, .slice a2 n c2] 35)) a2 n f) := h2.later HA.out
  clear h1 h2
  go_enter Tryd.func31, Tryd.ntmps31
  go_wp2_with (go_at_call 14; refine (HS.out _ H1.out H2.out).mono ?_; rintro e w1 ⟨rfl, hb1⟩)
  go_ret
  exact ⟨rfl, HA.out.trans (hb1.mono HA.out.size)⟩
end Go.Proofs.YtnpejnjigaalfaaDoor
