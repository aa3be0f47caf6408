/- What the code of layer 5 returns: one contract a function. -/
import Derived.Test.YtnpejnjigaalfaaDoorStoreAll
import Derived.Laws.CopyOwn
namespace Go.Proofs.YtnpejnjigaalfaaDoor
open Go.ChangeShapes Go.WideShapes Go.ChangeAt Go.RowKit
set_option linter.unusedVariables false

/-- How many bytes are loaded or saved. -/
def szB (wide : Bool) : Int := if wide = true then 4 else 1
theorem size_any (wide : Bool) (w : World) : Calls Tryd.prog 74 #[.bool wide] w fun e w' => e = .returned (.int .i64 (szB wide)) ∧ w' = w := by
  cases wide <;>
  · go_enter Tryd.func74, Tryd.ntmps74
    go_wp2
    go_ret
    exact ⟨rfl, rfl⟩
theorem place_any (n : Nat) (at_ : Int) (wide : Bool) (w : World) (hn : n ≤ 2000) (h0 : 0 ≤ at_) (h1 : at_ < 4294967296) :
    Calls Tryd.prog 75 #[.int .i64 n, .int .u32 at_, .int .i64 (szB wide)] w fun e w' => e = .returned (.tuple #[.int .i64 (if okB n at_ wide = true then at_ - 65536 else 0), .bool (okB n at_ wide)]) ∧ w' = w := by
  have hn' : (n : Int) ≤ 2000 := by omega
  cases wide
  · unfold szB; rw [if_neg (by decide)]
    by_cases hl : 65536 ≤ at_
    · by_cases hr : at_ - 65536 < n
      · have ho : okB n at_ false = true := by simp [okB]; omega
        rw [ho, if_pos rfl]; clear ho
        go_enter Tryd.func75, Tryd.ntmps75
        go_wp2
        go_ret2
        exact ⟨rfl, rfl⟩
      · have ho : okB n at_ false = false := by simp [okB]; omega
        rw [ho, if_neg (by decide)]; clear ho
        go_enter Tryd.func75, Tryd.ntmps75
        go_wp2
        go_ret2
        exact ⟨rfl, rfl⟩
    · have ho : okB n at_ false = false := by simp [okB]; omega
      rw [ho, if_neg (by decide)]; clear ho
      go_enter Tryd.func75, Tryd.ntmps75
      go_wp2
      go_ret2
      exact ⟨rfl, rfl⟩
  · unfold szB; rw [if_pos rfl]
    have ht : at_.tmod 4 = at_ % 4 := Int.tmod_eq_emod_of_nonneg h0
    by_cases h4 : at_ % 4 = 0
    rotate_left
    · have ho : okB n at_ true = false := by simp [okB]; omega
      rw [ho, if_neg (by decide)]; clear ho
      go_enter Tryd.func75, Tryd.ntmps75
      go_wp2
      go_ret2
      exact ⟨rfl, rfl⟩
    rw [h4] at ht
    by_cases hl : 65536 ≤ at_
    · by_cases hr : at_ + 3 - 65536 < n
      · have ho : okB n at_ true = true := by simp [okB]; omega
        rw [ho, if_pos rfl]; clear ho
        go_enter Tryd.func75, Tryd.ntmps75
        go_wp2
        go_ret2
        exact ⟨rfl, rfl⟩
      · have ho : okB n at_ true = false := by simp [okB]; omega
        rw [ho, if_neg (by decide)]; clear ho
        go_enter Tryd.func75, Tryd.ntmps75
        go_wp2
        go_ret2
        exact ⟨rfl, rfl⟩
    · have ho : okB n at_ true = false := by simp [okB]; omega
      rw [ho, if_neg (by decide)]; clear ho
      go_enter Tryd.func75, Tryd.ntmps75
      go_wp2
      go_ret2
      exact ⟨rfl, rfl⟩
theorem load_any (wt at_ : Int) (wide : Bool) (a : Option Addr) (n cap : Nat) (f : Nat → Int) (w : World) (hn : n ≤ 2000) (hc : n ≤ cap) (h0 : 0 ≤ at_) (h1 : at_ < 4294967296) (hB : Bytes w a n f) :
    Calls Tryd.prog 64 #[memV wt a n cap, .int .u32 at_, .bool wide] w fun e w' => e = .returned (.tuple #[.int .u32 (if okB n at_ wide = true then loadZ f at_ wide else 0), .bool (okB n at_ wide)]) ∧ Below w.heap.size w w' := by
  have HN : Hid (MemAt (w.alloc (.cells #[.int .i64 wt, .slice a n cap] 35)) w.heap.size wt a n cap) := MemAt.new w wt a n cap 35
  have HA : Hid (Below w.heap.size w (w.alloc (.cells #[.int .i64 wt, .slice a n cap] 35))) := (Below.refl _ w).alloc (Nat.le_refl _) _
  have HS : Hid (w.heap.size ≤ (w.alloc (.cells #[.int .i64 wt, .slice a n cap] 35)).heap.size) := by simp [Hid]
  have HZ : Hid (∀ W, Calls Tryd.prog 74 #[.bool wide] W fun e w' => e = .returned (.int .i64 (szB wide)) ∧ w' = W) := fun W => size_any wide W
  have HP : Hid (∀ W, Calls Tryd.prog 75 #[.int .i64 n, .int .u32 at_, .int .i64 (szB wide)] W fun e w' => e = .returned (.tuple #[.int .i64 (if okB n at_ wide = true then at_ - 65536 else 0), .bool (okB n at_ wide)]) ∧ w' = W) := fun W => place_any n at_ wide W hn h0 h1
  cases ho : okB n at_ wide
  · rw [ho, if_neg (by decide)] at HP
    rw [if_neg (by decide)]
    clear ho
    generalize szB wide = z at HZ HP
    obtain ⟨x0, x1⟩ := id HN.out
    go_enter Tryd.func64, Tryd.ntmps64
    go_wp2_with (first
      | (go_at_call 74; refine (HZ.out _).mono ?_; rintro e w1 ⟨rfl, rfl⟩)
      | (go_at_call 75; refine (HP.out _).mono ?_; rintro e w2 ⟨rfl, rfl⟩))
    go_ret2
    exact ⟨rfl, HA.out⟩
  rw [ho, if_pos rfl] at HP
  rw [if_pos rfl]
  have hat : 65536 ≤ at_ ∧ at_ - 65536 < n ∧ (wide = true → at_ + 3 - 65536 < n) := by unfold okB at ho; have := of_decide_eq_true ho; exact ⟨this.1, this.2.1, fun h => (this.2.2 h).2⟩
  obtain ⟨i, rfl⟩ : ∃ i : Nat, at_ = 65536 + (i : Int) := ⟨(at_ - 65536).toNat, by omega⟩
  have hi : i < n := by omega
  obtain ⟨hf, h | ⟨b, off, rfl, hcell⟩⟩ := hB
  · omega
  have HC : Hid (∀ j, j < n → w.cell? ⟨b, off + j, none⟩ = some (.int .u8 (f j))) := hcell
  have ei : ((65536 + (i : Int)) - 65536).toNat = i := by omega
  have ez : (65536 + (i : Int)) - 65536 = i := by omega
  rw [ez] at HP
  obtain ⟨x0, x1⟩ := id HN.out
  cases wide
  · have hl : loadZ f (65536 + (i : Int)) false = sumZ (fun k => f (i + k)) 1 := by unfold loadZ; rw [if_neg (by decide), ei]; simp [sumZ]
    rw [hl]
    have HG : Hid (∀ W, (∀ j, j < n → W.cell? ⟨b, off + j, none⟩ = some (.int .u8 (f j))) → ∀ c, Calls Tryd.prog 76 #[.slice (some ⟨b, off + i, none⟩) 1 c] W fun e w' => e = .returned (.int .u32 (sumZ (fun k => f (i + k)) 1)) ∧ Below W.heap.size W w') := by
      intro W hW c
      exact get_any W b (off + i) 1 c (fun k => f (i + k)) (by omega) (fun j hj _ => by rw [Nat.add_assoc]; exact hW _ (by omega)) (fun k => hf _)
    generalize sumZ (fun k => f (i + k)) 1 = L at HG ⊢
    unfold szB at HZ HP
    rw [if_neg (by decide)] at HZ HP
    clear ho hl ei hat hcell h1
    go_enter Tryd.func64, Tryd.ntmps64
    go_wp2_with (first
      | (go_at_call 74; refine (HZ.out _).mono ?_; rintro e w1 ⟨rfl, rfl⟩)
      | (go_at_call 75; refine (HP.out _).mono ?_; rintro e w2 ⟨rfl, rfl⟩)
      | (go_at_call 76; refine (HG.out _ (fun j hj => cell_later' (HC.out j hj) HA.out) _).mono ?_; rintro e w3 ⟨rfl, hb3⟩))
    go_ret2
    exact ⟨rfl, HA.out.trans (hb3.mono HS.out)⟩
  · have hl : loadZ f (65536 + (i : Int)) true = sumZ (fun k => f (i + k)) 4 := by unfold loadZ; rw [if_pos rfl, ei]
    have h3 : (i : Int) + 4 ≤ n := by have := hat.2.2 rfl; omega
    rw [hl]
    have HG : Hid (∀ W, (∀ j, j < n → W.cell? ⟨b, off + j, none⟩ = some (.int .u8 (f j))) → ∀ c, Calls Tryd.prog 76 #[.slice (some ⟨b, off + i, none⟩) 4 c] W fun e w' => e = .returned (.int .u32 (sumZ (fun k => f (i + k)) 4)) ∧ Below W.heap.size W w') := by
      intro W hW c
      exact get_any W b (off + i) 4 c (fun k => f (i + k)) (by omega) (fun j hj _ => by rw [Nat.add_assoc]; exact hW _ (by omega)) (fun k => hf _)
    generalize sumZ (fun k => f (i + k)) 4 = L at HG ⊢
    unfold szB at HZ HP
    rw [if_pos rfl] at HZ HP
    clear ho hl ei hat hcell h1
    go_enter Tryd.func64, Tryd.ntmps64
    go_wp2_with (first
      | (go_at_call 74; refine (HZ.out _).mono ?_; rintro e w1 ⟨rfl, rfl⟩)
      | (go_at_call 75; refine (HP.out _).mono ?_; rintro e w2 ⟨rfl, rfl⟩)
      | (go_at_call 76; refine (HG.out _ (fun j hj => cell_later' (HC.out j hj) HA.out) _).mono ?_; rintro e w3 ⟨rfl, hb3⟩))
    go_ret2
    exact ⟨rfl, HA.out.trans (hb3.mono HS.out)⟩
theorem save_no (wt at_ x : Int) (wide : Bool) (a : Option Addr) (n cap : Nat) (f : Nat → Int) (w : World) (hn : n ≤ 2000) (hc : n ≤ cap) (r0 : (Lit.int .i64 wt).wf = true) (h0 : 0 ≤ at_) (h1 : at_ < 4294967296) (hB : Bytes w a n f) (hs : saveB n at_ wide wt = false) :
    SaveNo Tryd.prog 66 wt at_ x wide a n cap w := by
  unfold SaveNo
  have HA : Hid (Below w.heap.size w ((w.alloc (.cells #[.int .i64 wt, .slice a n cap] 35)).alloc (.cells #[.int .i64 0, .slice none 0 0] 35))) := ((Below.refl _ w).alloc (Nat.le_refl _) _).alloc (by simp) _
  have HN : Hid (MemAt ((w.alloc (.cells #[.int .i64 wt, .slice a n cap] 35)).alloc (.cells #[.int .i64 0, .slice none 0 0] 35)) w.heap.size wt a n cap) := (MemAt.new w wt a n cap 35).later ((Below.refl _ _).alloc (Nat.le_refl _) _)
  have HM : Hid (MemFree ((w.alloc (.cells #[.int .i64 wt, .slice a n cap] 35)).alloc (.cells #[.int .i64 0, .slice none 0 0] 35)) (w.heap.size + 1) 0 none 0 0) := by
    have h := MemFree.new (w.alloc (.cells #[.int .i64 wt, .slice a n cap] 35)) 0 none 0 0 35
    rwa [show (w.alloc (.cells #[.int .i64 wt, .slice a n cap] 35)).heap.size = w.heap.size + 1 from by simp] at h
  have HZ : Hid (∀ W, Calls Tryd.prog 74 #[.bool wide] W fun e w' => e = .returned (.int .i64 (szB wide)) ∧ w' = W) := fun W => size_any wide W
  have HP : Hid (∀ W, Calls Tryd.prog 75 #[.int .i64 n, .int .u32 at_, .int .i64 (szB wide)] W fun e w' => e = .returned (.tuple #[.int .i64 (if okB n at_ wide = true then at_ - 65536 else 0), .bool (okB n at_ wide)]) ∧ w' = W) := fun W => place_any n at_ wide W hn h0 h1
  obtain ⟨x0, x1⟩ := id HN.out
  obtain ⟨⟨y0, y1⟩, z0, z1⟩ := id HM.out
  unfold saveB at hs
  cases ho : okB n at_ wide
  · rw [ho, if_neg (by decide)] at HP
    clear hs ho
    generalize szB wide = z at HZ HP
    go_enter Tryd.func66, Tryd.ntmps66
    go_wp2_with (first
      | (go_at_call 74; refine (HZ.out _).mono ?_; rintro e w1 ⟨rfl, rfl⟩)
      | (go_at_call 75; refine (HP.out _).mono ?_; rintro e w2 ⟨rfl, rfl⟩))
    refine bodyPost_ret (v := Value.tuple #[memV wt a n cap, .bool false]) ?_ rfl ⟨rfl, ((Below.refl _ w).alloc (Nat.le_refl _) _).alloc (by simp) _⟩
    simp [results, Tryd.results66, go_sem]
  · rw [ho] at hs
    rw [ho, if_pos rfl] at HP
    simp at hs
    clear ho
    generalize szB wide = z at HZ HP
    go_enter Tryd.func66, Tryd.ntmps66
    go_wp2_with (first
      | (go_at_call 74; refine (HZ.out _).mono ?_; rintro e w1 ⟨rfl, rfl⟩)
      | (go_at_call 75; refine (HP.out _).mono ?_; rintro e w2 ⟨rfl, rfl⟩))
    refine bodyPost_ret (v := Value.tuple #[memV wt a n cap, .bool false]) ?_ rfl ⟨rfl, ((Below.refl _ w).alloc (Nat.le_refl _) _).alloc (by simp) _⟩
    simp [results, Tryd.results66, go_sem]
theorem alloc_row (w : World) (cs : Array Value) (t : TypeId) : (w.alloc (.cells cs t)).heap[w.heap.size]? = some (.cells cs.toList.toArray t (0, 0)) := by rw [Array.toArray_toList]; show (w.heap.push _)[w.heap.size]? = _; simp
theorem rowB_of_heap {w : World} {g n : Nat} {L : List Value} {t : TypeId} {F : Nat → Int} (h : w.heap[g]? = some (.cells L.toArray t (0, 0))) (hl : L.length = n) (hF : ∀ k, k < n → L[k]? = some (.int .u8 (F k))) : RowB w g n F := by
  refine ⟨fun k hk => ?_, fun q => ?_, (Array.getElem?_eq_some_iff.1 h).1⟩
  · simp [World.cell?, h, hF k hk]
  · simp [World.frozen?, h]
theorem splice_put (f : Nat → Int) (n i : Nat) (x : Int) (m : Nat) (cs : List Value) (hm : cs.length = m) (hi : i + m ≤ n) (hc : ∀ j, j < m → cs[j]? = some (.int .u8 (x / 256 ^ j % 256))) :
    ∀ q, q < n → (splice ((List.range n).map fun j => Value.int .u8 (f j)) i cs)[q]? = some (.int .u8 (putK f i x m q)) := by
  intro q hq
  unfold splice putK
  by_cases h1 : q < i
  · rw [if_neg (by omega), List.getElem?_append_left (by simp; omega), List.getElem?_take_of_lt h1]
    simp [hq]
  rw [List.getElem?_append_right (by simp; omega)]
  have el : (((List.range n).map fun j => Value.int .u8 (f j)).take i).length = i := by simp; omega
  rw [el]
  by_cases h2 : q < i + m
  · rw [if_pos (by omega), List.getElem?_append_left (by omega), hc _ (by omega)]
  · rw [if_neg (by omega), List.getElem?_append_right (by omega), List.getElem?_drop, hm, show i + m + (q - i - m) = q from by omega]
    simp [hq]
theorem bytes_pow (x : Int) (x0 : 0 ≤ x) (x1 : x < 4294967296) : bytesOf x = #[.int .u8 (x / 256 ^ 0 % 256), .int .u8 (x / 256 ^ 1 % 256), .int .u8 (x / 256 ^ 2 % 256), .int .u8 (x / 256 ^ 3 % 256)] := by
  have e3 : x / 256 ^ 3 % 256 = x / 16777216 := by
    rw [show (256 : Int) ^ 3 = 16777216 from rfl]; omega
  rw [e3]; simp [bytesOf]
set_option maxRecDepth 100000 in
set_option maxHeartbeats 4000000 in
theorem save_in (wt x : Int) (i : Nat) (wide : Bool) (b off : Nat) (n cap : Nat) (f : Nat → Int) (w : World) (hn : n ≤ 2000) (hc : n ≤ cap) (r0 : (Lit.int .i64 wt).wf = true) (h1 : (i : Int) < 4294901760) (x0 : 0 ≤ x) (x1 : x < 4294967296) (hf : ∀ i, 0 ≤ f i ∧ f i < 256) (hB : ∀ j, j < n → w.cell? ⟨b, off + j, none⟩ = some (.int .u8 (f j)))
    (ho : okB n (65536 + (i : Int)) wide = true) (hs : wt ≤ (i : Int)) :
    Calls Tryd.prog 66 #[memV wt (some ⟨b, off, none⟩) n cap, .int .u32 (65536 + (i : Int)), .int .u32 x, .bool wide] w fun e w' => ∃ g cap', e = .returned (.tuple #[memV wt (some ⟨g, 0, none⟩) n cap', .bool true]) ∧ w.heap.size ≤ g ∧ n ≤ cap' ∧ RowB w' g n (putK f i x (if wide = true then 4 else 1)) ∧ Below w.heap.size w w' := by
  have HA : Hid (Below w.heap.size w ((w.alloc (.cells #[.int .i64 wt, .slice (some ⟨b, off, none⟩) n cap] 35)).alloc (.cells #[.int .i64 0, .slice none 0 0] 35))) := ((Below.refl _ w).alloc (Nat.le_refl _) _).alloc (by simp) _
  have HN : Hid (MemAt ((w.alloc (.cells #[.int .i64 wt, .slice (some ⟨b, off, none⟩) n cap] 35)).alloc (.cells #[.int .i64 0, .slice none 0 0] 35)) w.heap.size wt (some ⟨b, off, none⟩) n cap) := (MemAt.new w wt (some ⟨b, off, none⟩) n cap 35).later ((Below.refl _ _).alloc (Nat.le_refl _) _)
  have HM : Hid (MemFree ((w.alloc (.cells #[.int .i64 wt, .slice (some ⟨b, off, none⟩) n cap] 35)).alloc (.cells #[.int .i64 0, .slice none 0 0] 35)) (w.heap.size + 1) 0 none 0 0) := by
    have h := MemFree.new (w.alloc (.cells #[.int .i64 wt, .slice (some ⟨b, off, none⟩) n cap] 35)) 0 none 0 0 35
    rwa [show (w.alloc (.cells #[.int .i64 wt, .slice (some ⟨b, off, none⟩) n cap] 35)).heap.size = w.heap.size + 1 from by simp] at h
  have HC : Hid (∀ j, j < n → ((w.alloc (.cells #[.int .i64 wt, .slice (some ⟨b, off, none⟩) n cap] 35)).alloc (.cells #[.int .i64 0, .slice none 0 0] 35)).cell? ⟨b, off + j, none⟩ = some (.int .u8 (f j))) := fun j hj => cell_later' (hB j hj) HA.out
  have HZ : Hid (∀ W, Calls Tryd.prog 74 #[.bool wide] W fun e w' => e = .returned (.int .i64 (szB wide)) ∧ w' = W) := fun W => size_any wide W
  have HP : Hid (∀ W, Calls Tryd.prog 75 #[.int .i64 n, .int .u32 (65536 + (i : Int)), .int .i64 (szB wide)] W fun e w' => e = .returned (.tuple #[.int .i64 i, .bool true]) ∧ w' = W) := by
    intro W
    have h := place_any n (65536 + (i : Int)) wide W hn (by omega) (by omega)
    rw [ho, if_pos rfl, show (65536 + (i : Int)) - 65536 = i from by omega] at h
    exact h
  obtain ⟨y0, y1, y2, y3, hy⟩ : ∃ y0 y1 y2 y3 : Int, y0 = x / 256 ^ 0 % 256 ∧ y1 = x / 256 ^ 1 % 256 ∧ y2 = x / 256 ^ 2 % 256 ∧ y3 = x / 256 ^ 3 % 256 := ⟨_, _, _, _, rfl, rfl, rfl, rfl⟩
  have HY : Hid (y0 = x / 256 ^ 0 % 256 ∧ y1 = x / 256 ^ 1 % 256 ∧ y2 = x / 256 ^ 2 % 256 ∧ y3 = x / 256 ^ 3 % 256) := hy
  have eby : bytesOf x = #[.int .u8 y0, .int .u8 y1, .int .u8 y2, .int .u8 y3] := by obtain ⟨rfl, rfl, rfl, rfl⟩ := hy; exact bytes_pow x x0 x1
  have HQ : Hid (∀ W, Calls Tryd.prog 77 #[.int .u32 x] W fun e w' => e = .returned (.agg #[.int .u8 y0, .int .u8 y1, .int .u8 y2, .int .u8 y3]) ∧ w' = W.alloc (.cells #[.int .u8 y0, .int .u8 y1, .int .u8 y2, .int .u8 y3] 95)) := fun W => by have h := put_any x W x0 x1; rwa [eby] at h
  clear hy eby
  have hi : i < n := by simp [okB] at ho; omega
  have HI : Hid (wide = true → i + 4 ≤ n) := by unfold Hid; intro h; simp [okB, h] at ho; omega
  obtain ⟨i0, hi0, hz0, hz1, hz2⟩ := info_parts info5
  have hmk : ∀ w, (Instr.makeSlice 23 (.int .i64 n) (.int .i64 n)).run Tryd.prog w = .ok (.slice (some ⟨w.heap.size, 0, none⟩) n n) (w.alloc (.cells (madeCells #[.int .u8 0] n) 5)) := by
    intro w
    have h := run_make (P := Tryd.prog) w 23 5 i0 _ Tryd.underlying23 hi0 hz0 .i64 .i64 n n (by omega) (Int.le_refl _) (by rw [hz2]; omega) (by omega)
    simp only [hz1, Int.toNat_natCast, Nat.mul_one] at h
    exact h
  clear hi0 hz0 hz1 hz2 hB ho h1
  go_enter Tryd.func66, Tryd.ntmps66
  go_upto_region 1 with fail
  generalize (w.alloc (.cells #[.int .i64 wt, .slice (some ⟨b, off, none⟩) n cap] 35)).alloc (.cells #[.int .i64 0, .slice none 0 0] 35) = w2 at HA HN HM HC ⊢
  obtain ⟨m0, m1⟩ := id HN.out
  generalize hz : szB wide = z at HZ HP
  have hsz : w.heap.size + 1 < w2.heap.size := World.block_lt_of_cell? w2 ⟨w.heap.size + 1, 0, none⟩ HM.out.1.1
  go_upto_region 6 with (first
      | (go_at_call 74; refine (HZ.out _).mono ?_; rintro e w2 ⟨rfl, rfl⟩)
      | (go_at_call 75; refine (HP.out _).mono ?_; rintro e w2 ⟨rfl, rfl⟩)
      | (go_at_call 77; refine (HQ.out _).mono ?_; rintro e w3 ⟨rfl, rfl⟩))
  have B3 : Hid (Below w2.heap.size w2 ((w2.alloc (.cells #[.int .u8 y0, .int .u8 y1, .int .u8 y2, .int .u8 y3] 95)).alloc (.cells #[.int .u8 y0, .int .u8 y1, .int .u8 y2, .int .u8 y3] 95))) := ((Below.refl _ _).alloc (Nat.le_refl _) _).alloc (by simp) _
  have C3 : Hid (∀ j v, #[Value.int .u8 y0, .int .u8 y1, .int .u8 y2, .int .u8 y3][j]? = some v → ((w2.alloc (.cells #[.int .u8 y0, .int .u8 y1, .int .u8 y2, .int .u8 y3] 95)).alloc (.cells #[.int .u8 y0, .int .u8 y1, .int .u8 y2, .int .u8 y3] 95)).cell? ⟨w2.heap.size + 1, j, none⟩ = some v) := by
    intro j v h
    have h2 := new_cell' (w2.alloc (.cells #[.int .u8 y0, .int .u8 y1, .int .u8 y2, .int .u8 y3] 95)) _ 95 j v h
    rwa [show (w2.alloc (.cells #[.int .u8 y0, .int .u8 y1, .int .u8 y2, .int .u8 y3] 95)).heap.size = w2.heap.size + 1 from by simp] at h2
  generalize (w2.alloc (.cells #[.int .u8 y0, .int .u8 y1, .int .u8 y2, .int .u8 y3] 95)).alloc (.cells #[.int .u8 y0, .int .u8 y1, .int .u8 y2, .int .u8 y3] 95) = w3 at B3 C3 ⊢
  have hs3 : w2.heap.size + 1 < w3.heap.size := World.block_lt_of_cell? w3 ⟨w2.heap.size + 1, 0, none⟩ (C3.out 0 _ rfl)
  have N3 : Hid (MemAt w3 w.heap.size wt (some ⟨b, off, none⟩) n cap) := HN.out.later B3.out
  have M3 : Hid (MemFree w3 (w.heap.size + 1) 0 none 0 0) := HM.out.later B3.out
  have D3 : Hid (∀ j, j < n → w3.cell? ⟨b, off + j, none⟩ = some (.int .u8 (f j))) := fun j hj => cell_later' (HC.out j hj) B3.out
  have A3 : Hid (Below w.heap.size w w3) := HA.out.trans (B3.out.mono HA.out.size)
  clear m0 m1 HN HM HC HA HQ
  generalize w2.heap.size + 1 = A at C3 hs3 ⊢
  clear B3
  obtain ⟨m0, m1⟩ := id N3.out
  go_upto_region 7 with fail
  have B4 : Hid (Below w3.heap.size w3 (w3.alloc (.cells (madeCells #[.int .u8 0] n) 5))) := (Below.refl _ _).alloc (Nat.le_refl _) _
  have G4 : Hid ((w3.alloc (.cells (madeCells #[.int .u8 0] n) 5)).heap[w3.heap.size]? = some (.cells (madeCells #[.int .u8 0] n).toList.toArray 5 (0, 0))) := alloc_row _ _ _
  have hl4 : (madeCells #[Value.int .u8 0] n).toList.length = n := by simp [madeCells]
  generalize w3.alloc (.cells (madeCells #[.int .u8 0] n) 5) = w4 at B4 G4 ⊢
  generalize (madeCells #[Value.int .u8 0] n).toList = Zs at G4 hl4
  have N4 : Hid (MemAt w4 w.heap.size wt (some ⟨b, off, none⟩) n cap) := N3.out.later B4.out
  have M4 : Hid (MemFree w4 (w.heap.size + 1) 0 none 0 0) := M3.out.later B4.out
  have D4 : Hid (∀ j, j < n → w4.cell? ⟨b, off + j, none⟩ = some (.int .u8 (f j))) := fun j hj => cell_later' (D3.out j hj) B4.out
  have C4 : Hid (∀ j v, #[Value.int .u8 y0, .int .u8 y1, .int .u8 y2, .int .u8 y3][j]? = some v → w4.cell? ⟨A, j, none⟩ = some v) := fun j v h => cell_later' (C3.out j v h) B4.out
  have hr3 : w.heap.size + 1 < w3.heap.size := World.block_lt_of_cell? w3 ⟨w.heap.size + 1, 0, none⟩ M3.out.1.1
  clear m0 m1 D3 hmk
  generalize hg : w3.heap.size = g at G4 ⊢
  obtain ⟨m0, m1⟩ := id N4.out
  obtain ⟨Cs, hCs⟩ : ∃ Cs : List Value, Cs = (List.range n).map fun j => .int .u8 (f j) := ⟨_, rfl⟩
  have HCs : Hid (Cs = (List.range n).map fun j => .int .u8 (f j)) := hCs
  have hCl : Cs.length = n := by rw [hCs]; simp
  have hC1 : ∀ v ∈ Cs, v.oneCell' = true := by rw [hCs]; simp [Value.oneCell']
  have hCr : ∀ j v, Cs[j]? = some v → w4.cell? ((⟨b, off, none⟩ : Addr).add j) = some v := by
    intro j u hu
    have hj : j < n := by have := (List.getElem?_eq_some_iff.1 hu).1; omega
    rw [show (⟨b, off, none⟩ : Addr).add j = ⟨b, off + j, none⟩ from by cases j <;> simp [Addr.add], D4.out j hj, ← hu, hCs]
    simp [hj]
  clear hCs
  go_upto_region 8 with ((with_reducible show wpList _ _ _ (Oper.mk _ (Op.call { callee := .builtin .copy, args := _, argTypes := _ }) _ _ _ _ :: _) _ _); refine wpList_copy_splice rfl (.tmp 41) (.tmp 43) 23 23 rfl 5 Tryd.underlying23 (by kernel_rfl) _ _ _ _ _ _ rfl rfl g 0 Zs 5 G4.out Cs (by rw [hCl]; exact (Nat.min_self n).symm) (fun _ => ⟨rfl, ⟨b, off, none⟩, rfl, hCr⟩) (by omega) hC1 w3.heap.size w3 B4.out (by omega) ?_; intro w5 G5 B5)
  have e5 : splice Zs 0 Cs = Cs := by
    unfold splice
    rw [List.take_zero, List.nil_append, List.drop_eq_nil_of_le (by omega), List.append_nil]
  rw [e5] at G5
  have N5 : Hid (MemAt w5 w.heap.size wt (some ⟨b, off, none⟩) n cap) := N3.out.later B5
  have M5 : Hid (MemFree w5 (w.heap.size + 1) 0 none 0 0) := M3.out.later B5
  have C5 : Hid (∀ j v, #[Value.int .u8 y0, .int .u8 y1, .int .u8 y2, .int .u8 y3][j]? = some v → w5.cell? ⟨A, j, none⟩ = some v) := fun j v h => cell_later' (C3.out j v h) B5
  clear m0 m1 N4 M4 D4 C4 hCr e5 G4 B4 HZ HP
  have hin : (i : Int) ≤ n := by omega
  have hin2 : i ≤ n := by omega
  cases wide
  · obtain rfl : z = 1 := by rw [← hz]; rfl
    have R5 : Hid (∀ j v, [Value.int .u8 y0][j]? = some v → w5.cell? ((⟨A, 0, none⟩ : Addr).add j) = some v) := by
      intro j v h
      rw [show (⟨A, 0, none⟩ : Addr).add j = ⟨A, j, none⟩ from by cases j <;> simp [Addr.add]]
      refine C5.out j v ?_
      rcases j with _ | _ | _ | _ | j <;> simp at h ⊢ <;> exact h
    have hin4 : i + 1 ≤ n := by omega
    go_region_law (refine step_copy_splice rfl (.tmp 47) (.tmp 49) 23 23 rfl 5 Tryd.underlying23 (by kernel_rfl) _ _ _ _ _ _ (by rfl) (by rfl) g i Cs 5 G5.out [Value.int .u8 y0] (by simp [Nat.min_def] <;> omega) (fun _ => ⟨by simp <;> omega, ⟨A, 0, none⟩, rfl, fun j v h => show w5.cell? ((⟨A, 0, none⟩ : Addr).add j) = some v from R5.out j v h⟩) (by simp <;> omega) (by simp [Value.oneCell']) w3.heap.size w3 (by repeat (first | exact B5 | refine keep_drew ?_)) (by omega) ?_; intro w6 G6 B6)
    all_goals
      have hR : Hid (RowB w6 g n (putK f i x 1)) := by
        refine rowB_of_heap G6.out ?_ ?_
        · rw [length_splice _ _ _ (by simp <;> omega)]; exact hCl
        · rw [HCs.out]; exact splice_put f n i x 1 _ rfl (by omega) (by obtain ⟨rfl, rfl, rfl, rfl⟩ := HY.out; intro j hj; rcases j with _ | _ | _ | _ | j <;> first | rfl | omega)
      have N6 : Hid (MemAt w6 w.heap.size wt (some ⟨b, off, none⟩) n cap) := N3.out.later B6
      have M6 : Hid (MemFree w6 (w.heap.size + 1) 0 none 0 0) := M3.out.later B6
      have A6 : Hid (Below w.heap.size w w6) := A3.out.trans (B6.mono (by omega))
      clear G6 B6 N5 M5 C5 R5 G5 B5 N3 M3 C3 A3
      obtain ⟨m0, m1⟩ := id N6.out
      obtain ⟨⟨p0, p1⟩, q0, q1⟩ := id M6.out
      obtain ⟨t0, t1⟩ := set2 M6.out (.int .i64 wt) (.slice (some ⟨g, 0, none⟩) n n)
      go_wp2_with fail
      refine bodyPost_ret (v := Value.tuple #[memV wt (some ⟨g, 0, none⟩) n n, .bool true]) ?_ rfl ⟨g, n, rfl, by omega, Nat.le_refl _, (hR.out.far (by omega) _ _).far (by omega) _ _, below_set2 A6.out (by omega) _ _⟩
      simp [results, Tryd.results66, go_sem, t0, t1]
  · obtain rfl : z = 4 := by rw [← hz]; rfl
    have R5 : Hid (∀ j v, [Value.int .u8 y0, .int .u8 y1, .int .u8 y2, .int .u8 y3][j]? = some v → w5.cell? ((⟨A, 0, none⟩ : Addr).add j) = some v) := by
      intro j v h
      rw [show (⟨A, 0, none⟩ : Addr).add j = ⟨A, j, none⟩ from by cases j <;> simp [Addr.add]]
      refine C5.out j v ?_
      rcases j with _ | _ | _ | _ | j <;> simp at h ⊢ <;> exact h
    have hin4 : i + 4 ≤ n := HI.out rfl
    go_region_law (refine step_copy_splice rfl (.tmp 47) (.tmp 49) 23 23 rfl 5 Tryd.underlying23 (by kernel_rfl) _ _ _ _ _ _ (by rfl) (by rfl) g i Cs 5 G5.out [Value.int .u8 y0, .int .u8 y1, .int .u8 y2, .int .u8 y3] (by simp [Nat.min_def] <;> omega) (fun _ => ⟨by simp <;> omega, ⟨A, 0, none⟩, rfl, fun j v h => show w5.cell? ((⟨A, 0, none⟩ : Addr).add j) = some v from R5.out j v h⟩) (by simp <;> omega) (by simp [Value.oneCell']) w3.heap.size w3 (by repeat (first | exact B5 | refine keep_drew ?_)) (by omega) ?_; intro w6 G6 B6)
    all_goals
      have hR : Hid (RowB w6 g n (putK f i x 4)) := by
        refine rowB_of_heap G6.out ?_ ?_
        · rw [length_splice _ _ _ (by simp <;> omega)]; exact hCl
        · rw [HCs.out]; exact splice_put f n i x 4 _ rfl (by omega) (by obtain ⟨rfl, rfl, rfl, rfl⟩ := HY.out; intro j hj; rcases j with _ | _ | _ | _ | j <;> first | rfl | omega)
      have N6 : Hid (MemAt w6 w.heap.size wt (some ⟨b, off, none⟩) n cap) := N3.out.later B6
      have M6 : Hid (MemFree w6 (w.heap.size + 1) 0 none 0 0) := M3.out.later B6
      have A6 : Hid (Below w.heap.size w w6) := A3.out.trans (B6.mono (by omega))
      clear G6 B6 N5 M5 C5 R5 G5 B5 N3 M3 C3 A3
      obtain ⟨m0, m1⟩ := id N6.out
      obtain ⟨⟨p0, p1⟩, q0, q1⟩ := id M6.out
      obtain ⟨t0, t1⟩ := set2 M6.out (.int .i64 wt) (.slice (some ⟨g, 0, none⟩) n n)
      go_wp2_with fail
      refine bodyPost_ret (v := Value.tuple #[memV wt (some ⟨g, 0, none⟩) n n, .bool true]) ?_ rfl ⟨g, n, rfl, by omega, Nat.le_refl _, (hR.out.far (by omega) _ _).far (by omega) _ _, below_set2 A6.out (by omega) _ _⟩
      simp [results, Tryd.results66, go_sem, t0, t1]
theorem save_yes (wt at_ x : Int) (wide : Bool) (a : Option Addr) (n cap : Nat) (f : Nat → Int) (w : World) (hn : n ≤ 2000) (hc : n ≤ cap) (r0 : (Lit.int .i64 wt).wf = true) (h0 : 0 ≤ at_) (h1 : at_ < 4294967296) (x0 : 0 ≤ x) (x1 : x < 4294967296) (hB : Bytes w a n f) (hs : saveB n at_ wide wt = true) :
    SaveYes Tryd.prog 66 wt at_ x wide a n cap f w := by
  unfold saveB at hs
  rw [Bool.and_eq_true] at hs
  obtain ⟨ho, hw⟩ := hs
  have hat : 65536 ≤ at_ ∧ at_ - 65536 < n := by unfold okB at ho; have := of_decide_eq_true ho; exact ⟨this.1, this.2.1⟩
  obtain ⟨i, rfl⟩ : ∃ i : Nat, at_ = 65536 + (i : Int) := ⟨(at_ - 65536).toNat, by omega⟩
  obtain ⟨hf, h | ⟨b, off, rfl, hcell⟩⟩ := hB
  · omega
  have ei : ((65536 + (i : Int)) - 65536).toNat = i := by omega
  unfold SaveYes savedF
  rw [ei]
  exact save_in wt x i wide b off n cap f w hn hc r0 (by omega) x0 x1 hf hcell ho (by have := of_decide_eq_true hw; omega)
end Go.Proofs.YtnpejnjigaalfaaDoor
