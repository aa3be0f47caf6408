/- The walk over names. -/
import Derived.Test.YtgnokbmhbeeblaaScanAwake
import Derived.Laws.Concat
import Derived.RegionTactic
namespace Go.Proofs.Ytgnokbmhbeeblaa
open Go.ChangeShapes Go.WideShapes Go.ChangeAt Go.RowKit
set_option linter.unusedVariables false
set_option linter.unusedSimpArgs false
theorem eqB_of {n : Nat} {f g : Nat → Int} (h : ∀ i, i < n → f i = g i) : eqB n n f g = true := by
  unfold eqB; rw [decide_eq_true_iff]; exact ⟨rfl, h⟩
theorem name_text (s : ByteArray) : textF (s.size + 1) (fun i => if i = 0 then (s.size : Int) else byteZ s (i - 1)) = textF 1 (fun _ => (s.size : Int)) ++ s := by
  refine Eq.trans ?_ (congrArg (textF 1 (fun _ => (s.size : Int)) ++ ·) (text_own s))
  have e : (List.range (s.size + 1)).map (fun i => if i = 0 then (s.size : Int) else byteZ s (i - 1)) = (s.size : Int) :: (List.range s.size).map (byteZ s) := by
    rw [List.range_succ_eq_map, List.map_cons, List.map_map]
    rfl
  show textF _ _ = textF _ _ ++ textF _ _
  unfold textF
  rw [e]
  unfold strOfNums
  apply ByteArray.ext
  rw [ByteArray.data_append]
  simp
set_option maxRecDepth 100000 in
set_option maxHeartbeats 4000000 in
theorem names_walk (w : World) (s : ByteArray) (hs : s.size ≤ maxLen) (x : Int) (x0 : 0 ≤ x) (x1 : x < 4294967296) (z : Int) (z0 : 0 ≤ z) (z1 : z < 256) :
    Calls Try.prog 4 #[.string s, .int .u32 x, .int .u8 z] w fun e w' => e = .returned (.bool true) ∧ Below w.heap.size w w' := by
  have AW : Hid (∀ W, Calls Try.prog 8 #[] W fun e w' => e = .returned (.bool true) ∧ Below W.heap.size W w') := awake_true
  by_cases h1 : 200 < (s.size : Int)
  · go_enter Try.func4, Try.ntmps4
    go_wp2_with (first
      | (go_at_call 8; refine (AW.out w).mono ?_; rintro e w1 ⟨rfl, b1⟩)
      | (go_at_call 8; refine (AW.out _).mono ?_; rintro e w2 ⟨rfl, b2⟩))
    go_ret
    exact ⟨rfl, bnext b1 b2⟩
  have hs2 : s.size ≤ 200 := by omega
  have h1' : (s.size : Int) ≤ 200 := by omega
  have NA : Hid (∀ W, Calls Try.prog 18 #[.string s] W fun e w' => e = .returned (.bool (namedB s)) ∧ Below W.heap.size W w') := fun W => named_any s W (by omega)
  have NB : Hid (∀ W, Calls Try.prog 19 #[.string s] W fun e w' => e = .returned (.bool (namedB s)) ∧ w' = W) := fun W => rnamed_any s W (by omega)
  obtain ⟨k, ek⟩ : ∃ k : Nat, 1 + z % 4 = k := Int.eq_ofNat_of_zero_le (by omega)
  have hk : 1 ≤ k ∧ k ≤ 4 := by omega
  have PU : Hid (∀ W, Calls Try.prog 21 #[.int .i64 x, .int .i64 (k : Int)] W fun e w' => ∃ a c, e = .returned (.slice a k c) ∧ w'.ownsRow W.heap.size 5 1 (.slice a k c) k (cellsK .u8 k fun i => x / 256 ^ i % 256) ∧ Below W.heap.size W w') := fun W => put_own x k W x0 x1 hk.1 hk.2
  have RP : Hid (∀ W, Calls Try.prog 22 #[.int .u32 x] W fun e w' => e = .returned (.slice (some ⟨W.heap.size, 0, none⟩) 4 4) ∧ w' = W.alloc (.cells (bytesOf x) 5)) := fun W => rput_any x W x0 x1
  have FB : Hid (∀ i, 0 ≤ x / 256 ^ i % 256 ∧ x / 256 ^ i % 256 < 256) := fun i => ⟨Int.emod_nonneg _ (by decide), Int.emod_lt_of_pos _ (by decide)⟩
  have RP' : Hid (∀ W, Calls Try.prog 22 #[.int .u32 x] W fun e w' => e = .returned (.slice (some ⟨W.heap.size, 0, none⟩) 4 4) ∧ Below W.heap.size W w' ∧ Bytes w' (some ⟨W.heap.size, 0, none⟩) k (fun i => x / 256 ^ i % 256)) := fun W => by
    refine (RP.out W).mono ?_
    rintro e w' ⟨rfl, rfl⟩
    refine ⟨rfl, (Below.refl _ _).alloc (Nat.le_refl _) _, FB.out, .inr ⟨_, 0, rfl, fun i hi => ?_⟩⟩
    rw [Nat.zero_add]
    refine new_cell' W _ _ i _ ?_
    have p3 : x / 256 ^ 3 % 256 = x / 16777216 := by
      have : (256 : Int) ^ 3 = 16777216 := by decide
      rw [this]; omega
    rcases (by omega : i = 0 ∨ i = 1 ∨ i = 2 ∨ i = 3) with rfl | rfl | rfl | rfl
    · simp [bytesOf]
    · simp [bytesOf]
    · simp [bytesOf]
    · show _ = some (Value.int .u8 (x / 256 ^ 3 % 256))
      rw [p3]; simp [bytesOf]
  have SM : Hid (∀ W a1 c1 b, Bytes W a1 k (fun i => x / 256 ^ i % 256) → Bytes W (some ⟨b, 0, none⟩) k (fun i => x / 256 ^ i % 256) → Calls Try.prog 20 #[.slice a1 k c1, .slice (some ⟨b, 0, none⟩) k 4] W fun e w' => e = .returned (.bool true) ∧ Below W.heap.size W w') := fun W a1 c1 b h1 h2 => by
    have h := bytes_eq W a1 _ k k c1 4 _ _ (by omega) (by omega) h1 h2
    rwa [show eqB k k (fun i => x / 256 ^ i % 256) (fun i => x / 256 ^ i % 256) = true from eqB_of fun _ _ => rfl] at h
  have hk0 : (0 : Int) ≤ k := by omega
  have hk4 : (k : Int) ≤ 4 := by omega
  have hk5 : k ≤ 4 := hk.2
  clear RP
  have RP := RP'
  clear RP'
  cases hb : namedB s
  · have HB : Hid (namedB s = false) := hb
    rw [hb] at NA NB
    clear hb
    go_enter Try.func4, Try.ntmps4
    go_upto_region 6 with (first
      | (go_at_call 8; refine (AW.out w).mono ?_; rintro e w1 ⟨rfl, b1⟩)
      | (go_at_call 18; refine (NA.out _).mono ?_; rintro e w2 ⟨rfl, b2⟩)
      | (go_at_call 19; refine (NB.out _).mono ?_; rintro e w3 ⟨rfl, rfl⟩)
      | (go_at_call 21; refine (PU.out _).mono ?_; rintro e w4 ⟨a4, c4, rfl, o4, b4⟩)
      | (go_at_call 22; refine (RP.out _).mono ?_; rintro e w5 ⟨rfl, b5, r5⟩)
      | (go_at_call 20; refine (SM.out _ _ _ _ ((own_bytes o4 FB.out).2.later b5) r5).mono ?_; rintro e w6 ⟨rfl, b6⟩))
    have BA : Hid (Below w.heap.size w w6) := bnext b1 (bnext b2 (bnext b4 (bnext b5 b6)))
    clear b1 b2 b4 b5 b6 o4 r5 PU RP SM
    go_quiet ((go_at_call 19; exact Calls.quiet_of_same (NB.out _)))
    go_wp2
    go_ret
    exact ⟨rfl, below_drewN BA.out _⟩
  · have HB : Hid (namedB s = true) := hb
    rw [hb] at NA NB
    clear hb
    go_enter Try.func4, Try.ntmps4
    go_upto_region 6 with (first
      | (go_at_call 8; refine (AW.out w).mono ?_; rintro e w1 ⟨rfl, b1⟩)
      | (go_at_call 18; refine (NA.out _).mono ?_; rintro e w2 ⟨rfl, b2⟩)
      | (go_at_call 19; refine (NB.out _).mono ?_; rintro e w3 ⟨rfl, rfl⟩)
      | (go_at_call 21; refine (PU.out _).mono ?_; rintro e w4 ⟨a4, c4, rfl, o4, b4⟩)
      | (go_at_call 22; refine (RP.out _).mono ?_; rintro e w5 ⟨rfl, b5, r5⟩)
      | (go_at_call 20; refine (SM.out _ _ _ _ ((own_bytes o4 FB.out).2.later b5) r5).mono ?_; rintro e w6 ⟨rfl, b6⟩))
    have BA : Hid (Below w.heap.size w w6) := bnext b1 (bnext b2 (bnext b4 (bnext b5 b6)))
    clear b1 b2 b4 b5 b6 o4 r5 PU RP SM
    have PN : Hid (∀ W, Calls Try.prog 23 #[.string s] W fun e w' => ∃ a c, e = .returned (.slice a (s.size + 1) c) ∧ w'.ownsRow W.heap.size 5 1 (.slice a (s.size + 1) c) (s.size + 1) (cellsK .u8 (s.size + 1) fun i => if i = 0 then (s.size : Int) else byteZ s (i - 1)) ∧ Below W.heap.size W w') := fun W => putname_own s W HB.out
    have HQ : ∀ (W : World) (b : Nat), W.cell? ⟨b, 0, none⟩ = some (.int .u8 (s.size : Int)) → (convert 22 9 (.slice (some ⟨b, 0, none⟩) 1 1)).run Try.prog W = .ok (.string (textF 1 fun _ => (s.size : Int))) W := fun W b h => text_conv W _ 1 1 _ ⟨fun _ => ⟨by show (0 : Int) ≤ (s.size : Int); omega, by show (s.size : Int) < 256; omega⟩, .inr ⟨b, 0, rfl, fun i hi => by rw [show i = 0 from by omega]; exact h⟩⟩
    have FN : Hid (∀ i : Nat, 0 ≤ (if i = 0 then (s.size : Int) else byteZ s (i - 1)) ∧ (if i = 0 then (s.size : Int) else byteZ s (i - 1)) < 256) := fun i => by
      split
      · omega
      · exact byteZ_bd _ _
    have hw8 : IntKind.u8.wrap (s.size : Int) = s.size := by simp [IntKind.wrap, IntKind.bits, IntKind.signed]; omega
    have TE : Hid (textF (s.size + 1) (fun i => if i = 0 then (s.size : Int) else byteZ s (i - 1)) = textF 1 (fun _ => (s.size : Int)) ++ s) := name_text s
    have h1s : (textF 1 fun _ => (s.size : Int)).size = 1 := textF_size _ _
    generalize textF 1 (fun _ => (s.size : Int)) = t1 at HQ TE h1s ⊢
    have hadd : ∀ W, (Op.stringOp .add t1 s).run Try.prog W = .ok (.string (t1 ++ s)) W := fun W => run_string_add_sum W t1 s (by omega)
    go_region_with (first
      | (go_at_call 19; refine (NB.out _).mono ?_; rintro e w7 ⟨rfl, rfl⟩)
      | (go_at_call 23; refine (PN.out _).mono ?_; rintro e w8 ⟨a8, c8, rfl, o8, b8⟩; have bP : Below w6.heap.size w6 w8 := (by repeat (first | exact bnext (Below.refl _ _) b8 | refine bnext ?_ b8 | exact Below.refl _ _ | refine keep_alloc8 ?_ _ | refine keep_drew8 ?_)); have hq := text_conv w8 _ _ c8 _ (own_bytes o8 FN.out).2; have hq2 := fun o => text_conv (w8.alloc o) _ _ c8 _ ((own_bytes o8 FN.out).2.later ((Below.refl _ _).alloc (Nat.le_refl _) o)); rw [TE.out] at hq; simp only [TE.out] at hq2; try have hc8 : w8.cell? ⟨w6.heap.size, 0, none⟩ = some (.int .u8 (s.size : Int)) := cell_later' (new_cell' w6.drew #[.int .u8 (s.size : Int)] 5 0 _ rfl) b8))
    all_goals go_wp2
    all_goals go_ret
    all_goals refine ⟨rfl, ?_⟩
    all_goals (first | exact bnext BA.out bP | exact keep_alloc8 (bnext BA.out bP) _)
end Go.Proofs.Ytgnokbmhbeeblaa
