/- Answers that the document fixes. -/
import Derived.Test.YtlmijnaimdknnaaPlcPlan
import Derived.Test.YtlmijnaimdknnaaPlcAll
namespace Go.Proofs.Ytlmijnaimdknnaa
open Go.ChangeShapes Go.WideShapes Go.ChangeAt Go.RowKit
set_option linter.unusedVariables false
set_option linter.unusedSimpArgs false
/-- The program of two functions and three data. -/
def P0 : ProgZ := ⟨[2, 1], [⟨1, false, 1, none, 0, 0, none, 0, 0⟩, ⟨4, false, 4, none, 0, 0, none, 0, 0⟩, ⟨1, true, 1, none, 0, 0, none, 0, 0⟩], 0⟩
theorem p0_may : MayZ P0 := by unfold MayZ P0; decide
theorem p0_10 : planZ P0 [1, 0] = (0, ⟨[1, 0], [16, 20, 0], 3, 24, 16⟩) := by rfl
theorem p0_1 : planZ P0 [1] = (1, noPlan) := by rfl
abbrev fC : Nat → Nat → List Value := fun s t => [.string ⟨#[]⟩, .bool false, .bool false, .slice (some ⟨s, 0, none⟩) 2 2, .slice none 0 0, .string ⟨#[]⟩, .bool false, .bool false, .slice (some ⟨t, 0, none⟩) 1 1, .slice none 0 0]
abbrev dC : List Value := [.int .i64 1, .bool false, .int .i64 1, .slice none 0 0, .slice none 0 0, .int .i64 4, .bool false, .int .i64 4, .slice none 0 0, .slice none 0 0, .int .i64 1, .bool true, .int .i64 1, .slice none 0 0, .slice none 0 0]
theorem p0_at {W : World} {s t f d : Nat} (hf : XAt W f (fC s t)) (hd : XAt W d dC) : IsP W (.agg #[.slice (some ⟨f, 0, none⟩) 2 2, .slice (some ⟨d, 0, none⟩) 3 3, .int .i64 0]) P0 := by
  refine ⟨_, _, rfl, ⟨_, _, rfl, ⟨⟨Nat.le_refl _, fun e => by cases e⟩, by decide⟩, fun _ _ => trivial, .inr ⟨f, 0, rfl, fun i y hi => ?_⟩⟩, ⟨_, _, rfl, ⟨⟨Nat.le_refl _, fun e => by cases e⟩, by decide⟩, fun _ _ => trivial, .inr ⟨d, 0, rfl, fun i y hi => ?_⟩⟩⟩
  · match i with
    | 0 => simp [P0] at hi; subst hi; exact ⟨_, _, _, _, _, hf.1 3 _ rfl, by decide, hf.1 4 _ rfl, by decide⟩
    | 1 => simp [P0] at hi; subst hi; exact ⟨_, _, _, _, _, hf.1 8 _ rfl, by decide, hf.1 9 _ rfl, by decide⟩
    | i + 2 => simp [P0] at hi
  · match i with
    | 0 => simp [P0] at hi; subst hi; exact ⟨hd.1 0 _ rfl, hd.1 1 _ rfl, hd.1 2 _ rfl, hd.1 3 _ rfl, hd.1 4 _ rfl, by decide, by decide⟩
    | 1 => simp [P0] at hi; subst hi; exact ⟨hd.1 5 _ rfl, hd.1 6 _ rfl, hd.1 7 _ rfl, hd.1 8 _ rfl, hd.1 9 _ rfl, by decide, by decide⟩
    | 2 => simp [P0] at hi; subst hi; exact ⟨hd.1 10 _ rfl, hd.1 11 _ rfl, hd.1 12 _ rfl, hd.1 13 _ rfl, hd.1 14 _ rfl, by decide, by decide⟩
    | i + 3 => simp [P0] at hi
theorem row_at {base : Nat} {w : World} {v : Value} {l : List Int} (h : RowI base w v l) (hn : l ≠ []) : ∃ g, v = .slice (some ⟨g, 0, none⟩) l.length l.length ∧ g < w.heap.size ∧ XAt w g (nums l) := by
  rcases h with ⟨-, h⟩ | ⟨g, h1, -, h2, h3, -⟩
  · exact absurd h hn
  · exact ⟨g, h1, h2, h3⟩
theorem nums_at {w : World} {b : Nat} {l : List Int} (h : XAt w b (nums l)) (hl : l.length ≤ maxLen) : IsNums w (.slice (some ⟨b, 0, none⟩) l.length l.length) l :=
  ⟨_, _, rfl, ⟨⟨Nat.le_refl _, fun e => by cases e⟩, hl⟩, fun _ _ => trivial, .inr ⟨b, 0, rfl, fun i x hi => by rw [Nat.zero_add, Nat.mul_one]; exact h.1 i _ (nums_get hi)⟩⟩
theorem call10 {W : World} {s t f d b : Nat} (hf : XAt W f (fC s t)) (hd : XAt W d dC) (hb : XAt W b [.int .i64 1, .int .i64 0]) : Calls Try.prog 6 #[.agg #[.slice (some ⟨f, 0, none⟩) 2 2, .slice (some ⟨d, 0, none⟩) 3 3, .int .i64 0], .slice (some ⟨b, 0, none⟩) 2 2] W fun e w' =>
    (∃ g h, e = .returned (.tuple #[.agg #[.slice (some ⟨g, 0, none⟩) 2 2, .slice (some ⟨h, 0, none⟩) 3 3, .int .i64 3, .int .i64 24, .int .i64 16], .int .i64 0]) ∧ (g < w'.heap.size ∧ XAt w' g [.int .i64 1, .int .i64 0]) ∧ h < w'.heap.size ∧ XAt w' h [.int .i64 16, .int .i64 20, .int .i64 0]) ∧ Below W.heap.size W w' := by
  refine (plan_any (p0_at hf hd) (nums_at (l := [1, 0]) hb (by decide)) p0_may (by decide)).mono ?_
  rintro e w' ⟨⟨v, rfl, hp⟩, hB⟩
  rw [p0_10] at hp ⊢
  obtain ⟨vc, vd, rfl, hc, hd, -⟩ := hp
  obtain ⟨g, rfl, hg⟩ := row_at hc (by simp)
  obtain ⟨h, rfl, hh⟩ := row_at hd (by simp)
  exact ⟨⟨g, h, rfl, hg, hh⟩, hB⟩
theorem call1 {W : World} {s t f d b : Nat} (hf : XAt W f (fC s t)) (hd : XAt W d dC) (hb : XAt W b [.int .i64 1]) : Calls Try.prog 6 #[.agg #[.slice (some ⟨f, 0, none⟩) 2 2, .slice (some ⟨d, 0, none⟩) 3 3, .int .i64 0], .slice (some ⟨b, 0, none⟩) 1 1] W fun e w' =>
    (∃ a c a' c', e = .returned (.tuple #[.agg #[.slice a 0 c, .slice a' 0 c', .int .i64 0, .int .i64 0, .int .i64 0], .int .i64 1])) ∧ Below W.heap.size W w' := by
  refine (plan_any (p0_at hf hd) (nums_at (l := [1]) hb (by decide)) p0_may (by decide)).mono ?_
  rintro e w' ⟨⟨v, rfl, hp⟩, hB⟩
  rw [p0_1] at hp ⊢
  obtain ⟨vc, vd, rfl, hc, hd, -⟩ := hp
  obtain ⟨a, c, rfl, -, -, -⟩ := LstA.open hc.isNums
  obtain ⟨a', c', rfl, -, -, -⟩ := LstA.open hd.isNums
  exact ⟨⟨a, c, a', c', rfl⟩, hB⟩
theorem callAll {W : World} {s t f d : Nat} (hf : XAt W f (fC s t)) (hd : XAt W d dC) : Calls Try.prog 7 #[.agg #[.slice (some ⟨f, 0, none⟩) 2 2, .slice (some ⟨d, 0, none⟩) 3 3, .int .i64 0]] W fun e w' =>
    (∃ g, e = .returned (.slice (some ⟨g, 0, none⟩) 2 2) ∧ XAt w' g [.int .i64 0, .int .i64 1]) ∧ Below W.heap.size W w' := by
  refine (all_any (p0_at hf hd) (by decide)).mono ?_
  rintro e w' ⟨⟨g, rfl, -, -, h⟩, hB⟩
  exact ⟨⟨g, rfl, h⟩, hB⟩
set_option maxRecDepth 100000 in
set_option maxHeartbeats 4000000 in
theorem awake12 (w : World) : Calls Try.prog 4 #[] w fun e w' => e = .returned (.bool true) ∧ Below w.heap.size w w' := by
  have F5 : ∃ W5, (((((w.alloc (.cells #[.int .u32 1, .int .u32 2] 41)).alloc (.cells #[.int .u32 3] 41)).alloc (.cells (fC w.heap.size (w.heap.size + 1)).toArray 44)).alloc (.cells dC.toArray 32)).alloc (.cells #[.slice (some ⟨w.heap.size + 1 + 1, 0, none⟩) 2 2, .slice (some ⟨w.heap.size + 1 + 1 + 1, 0, none⟩) 3 3, .int .i64 0] 25)) = W5 ∧ Below w.heap.size w W5 ∧ XAt W5 (w.heap.size + 1 + 1) (fC w.heap.size (w.heap.size + 1)) ∧ XAt W5 (w.heap.size + 1 + 1 + 1) dC ∧ XAt W5 (w.heap.size + 1 + 1 + 1 + 1) [.slice (some ⟨w.heap.size + 1 + 1, 0, none⟩) 2 2, .slice (some ⟨w.heap.size + 1 + 1 + 1, 0, none⟩) 3 3, .int .i64 0] ∧ w.heap.size + 1 + 1 + 1 + 1 < W5.heap.size := by
    refine ⟨_, rfl, keep_alloc8 (keep_alloc8 (keep_alloc8 (keep_alloc8 (keep_alloc8 (Below.refl _ _) _) _) _) _) _, ?_, ?_, ?_, by simp⟩
    · have h := XAt.new ((w.alloc (.cells #[.int .u32 1, .int .u32 2] 41)).alloc (.cells #[.int .u32 3] 41)) (fC w.heap.size (w.heap.size + 1)).toArray 44
      rw [World.size_alloc, World.size_alloc] at h
      exact (h.later (by simp) (keep_alloc8 (Below.refl _ _) _)).later (by simp) (keep_alloc8 (Below.refl _ _) _)
    · have h := XAt.new (((w.alloc (.cells #[.int .u32 1, .int .u32 2] 41)).alloc (.cells #[.int .u32 3] 41)).alloc (.cells (fC w.heap.size (w.heap.size + 1)).toArray 44)) dC.toArray 32
      rw [World.size_alloc, World.size_alloc, World.size_alloc] at h
      exact h.later (by simp) (keep_alloc8 (Below.refl _ _) _)
    · have h := XAt.new ((((w.alloc (.cells #[.int .u32 1, .int .u32 2] 41)).alloc (.cells #[.int .u32 3] 41)).alloc (.cells (fC w.heap.size (w.heap.size + 1)).toArray 44)).alloc (.cells dC.toArray 32)) #[.slice (some ⟨w.heap.size + 1 + 1, 0, none⟩) 2 2, .slice (some ⟨w.heap.size + 1 + 1 + 1, 0, none⟩) 3 3, .int .i64 0] 25
      rw [World.size_alloc, World.size_alloc, World.size_alloc, World.size_alloc] at h
      exact h
  have HF5 : Hid (_) := F5
  clear F5
  go_enter Try.func4, Try.ntmps4
  go_upto_region 2 with fail
  obtain ⟨W5, e5, U5, XF, XD, XP, S5⟩ := HF5.out
  dsimp only [fC, dC] at e5
  rw [e5]
  have U5' : Hid (Below w.heap.size w W5) := U5
  have XF' : Hid (XAt W5 (w.heap.size + 1 + 1) (fC w.heap.size (w.heap.size + 1))) := XF
  have XD' : Hid (XAt W5 (w.heap.size + 1 + 1 + 1) dC) := XD
  have XP' : Hid (XAt W5 (w.heap.size + 1 + 1 + 1 + 1) [.slice (some ⟨w.heap.size + 1 + 1, 0, none⟩) 2 2, .slice (some ⟨w.heap.size + 1 + 1 + 1, 0, none⟩) 3 3, .int .i64 0]) := XP
  have S5' : Hid (w.heap.size + 1 + 1 + 1 + 1 < W5.heap.size) := S5
  clear e5 U5 XF XD XP S5 HF5
  generalize w.heap.size + 1 + 1 + 1 + 1 = pb at XP' S5' ⊢
  obtain ⟨db, edb⟩ : ∃ db, w.heap.size + 1 + 1 + 1 = db := ⟨_, rfl⟩
  obtain ⟨fb, efb⟩ : ∃ fb, w.heap.size + 1 + 1 = fb := ⟨_, rfl⟩
  have LB : Hid (fb < W5.heap.size ∧ db < W5.heap.size) := ⟨by rw [← efb]; exact XF'.out.lt (by simp), by rw [← edb]; exact XD'.out.lt (by simp)⟩
  rw [edb] at XD' XP' ⊢
  rw [efb] at XF' XP' ⊢
  clear edb efb
  have p0 := XP'.out.1 0 _ rfl
  have p1 := XP'.out.1 1 _ rfl
  have p2 := XP'.out.1 2 _ rfl
  have A6 : Hid (Below W5.heap.size W5 (W5.alloc (.cells #[.int .i64 1, .int .i64 0] 3)) ∧ XAt (W5.alloc (.cells #[.int .i64 1, .int .i64 0] 3)) W5.heap.size [.int .i64 1, .int .i64 0]) := ⟨keep_alloc8 (Below.refl _ _) _, XAt.new _ _ _⟩
  go_upto_region 3 with (go_at_call 6; refine (call10 (XF'.out.later LB.out.1 A6.out.1) (XD'.out.later LB.out.2 A6.out.1) A6.out.2).mono ?_; rintro e w7 ⟨⟨g, h, rfl, ⟨hg1, hg2⟩, hh1, hh2⟩, hB7⟩)
  obtain ⟨w8, e8⟩ : ∃ w8, w7.alloc (.cells #[.slice (some ⟨g, 0, none⟩) 2 2, .slice (some ⟨h, 0, none⟩) 3 3, .int .i64 3, .int .i64 24, .int .i64 16] 34) = w8 := ⟨_, rfl⟩
  have B78 : Hid (Below w7.heap.size w7 w8) := by rw [← e8]; exact keep_alloc8 (Below.refl _ _) _
  have B58 : Hid (Below W5.heap.size W5 w8) := bnext A6.out.1 (bnext hB7 B78.out)
  have X8 : Hid (XAt w8 w7.heap.size [.slice (some ⟨g, 0, none⟩) 2 2, .slice (some ⟨h, 0, none⟩) 3 3, .int .i64 3, .int .i64 24, .int .i64 16]) := by rw [← e8]; exact XAt.new w7 _ _
  have G8 : Hid (XAt w8 g [.int .i64 1, .int .i64 0]) := hg2.later hg1 B78.out
  have H8 : Hid (XAt w8 h [.int .i64 16, .int .i64 20, .int .i64 0]) := hh2.later hh1 B78.out
  have S8 : Hid (w7.heap.size < w8.heap.size ∧ g < w8.heap.size ∧ h < w8.heap.size) := ⟨by rw [← e8]; simp, by rw [← e8]; simp; omega, by rw [← e8]; simp; omega⟩
  go_upto_region 3 with fail
  try rw [e8]
  clear e8 hg1 hg2 hh1 hh2 hB7 p0 p1 p2 A6
  have P8 : Hid (XAt w8 pb _) := XP'.out.later S5'.out B58.out
  have F8 : Hid (XAt w8 fb _) := XF'.out.later LB.out.1 B58.out
  have D8 : Hid (XAt w8 db _) := XD'.out.later LB.out.2 B58.out
  have L8 : Hid (pb < w8.heap.size ∧ fb < w8.heap.size ∧ db < w8.heap.size) := by have h1 := B58.out.size; have h2 := LB.out; have h3 := S5'.out; show _ ∧ _ ∧ _; omega
  have U8 : Hid (Below w.heap.size w w8) := bnext U5'.out B58.out
  clear XP' XF' XD' B58 B78 LB S5' U5'
  have p0 := P8.out.1 0 _ rfl
  have p1 := P8.out.1 1 _ rfl
  have p2 := P8.out.1 2 _ rfl
  generalize w7.heap.size = xb at X8 S8 ⊢
  have A9 : Hid (Below w8.heap.size w8 (w8.alloc (.cells #[.int .i64 1] 3)) ∧ XAt (w8.alloc (.cells #[.int .i64 1] 3)) w8.heap.size [.int .i64 1]) := ⟨keep_alloc8 (Below.refl _ _) _, XAt.new _ _ _⟩
  go_upto_region 4 with (go_at_call 6; refine (call1 (F8.out.later L8.out.2.1 A9.out.1) (D8.out.later L8.out.2.2 A9.out.1) A9.out.2).mono ?_; rintro e w10 ⟨⟨a1, c1, a2, c2, rfl⟩, hB10⟩)
  obtain ⟨w11, e11⟩ : ∃ w11, w10.alloc (.cells #[.slice a1 0 c1, .slice a2 0 c2, .int .i64 0, .int .i64 0, .int .i64 0] 34) = w11 := ⟨_, rfl⟩
  have B8 : Hid (Below w8.heap.size w8 w11) := bnext A9.out.1 (bnext hB10 (by rw [← e11]; exact keep_alloc8 (Below.refl _ _) _))
  go_upto_region 4 with fail
  try rw [e11]
  clear e11 hB10 A9 p0 p1 p2
  have P9 : Hid (XAt w11 pb _) := P8.out.later L8.out.1 B8.out
  have F9 : Hid (XAt w11 fb _) := F8.out.later L8.out.2.1 B8.out
  have D9 : Hid (XAt w11 db _) := D8.out.later L8.out.2.2 B8.out
  have X9 : Hid (XAt w11 xb _) := X8.out.later S8.out.1 B8.out
  have G9 : Hid (XAt w11 g _) := G8.out.later S8.out.2.1 B8.out
  have H9 : Hid (XAt w11 h _) := H8.out.later S8.out.2.2 B8.out
  have U9 : Hid (Below w.heap.size w w11) := bnext U8.out B8.out
  have S9 : Hid (xb < w11.heap.size ∧ g < w11.heap.size ∧ h < w11.heap.size) := by have h1 := B8.out.size; have h2 := S8.out; show _ ∧ _ ∧ _; omega
  clear P8 F8 D8 X8 G8 H8 U8 B8 L8 S8
  have p0 := P9.out.1 0 _ rfl
  have p1 := P9.out.1 1 _ rfl
  have p2 := P9.out.1 2 _ rfl
  have AD := fun W => address_any 4 W (by omega) (by omega)
  have ADH : Hid (∀ W, Calls Try.prog 9 #[.int .i64 4] W fun e w' => e = .returned (.int .u32 65540) ∧ w' = W) := AD
  clear AD
  go_wp2_with (first
    | (go_at_call 7; refine (callAll F9.out D9.out).mono ?_; rintro e w12 ⟨⟨l, rfl, hl⟩, hB12⟩; have x0 := (X9.out.later S9.out.1 hB12).1 0 _ rfl; have x1 := (X9.out.later S9.out.1 hB12).1 1 _ rfl; have x2 := (X9.out.later S9.out.1 hB12).1 2 _ rfl; have x4 := (X9.out.later S9.out.1 hB12).1 4 _ rfl; have g0 := (G9.out.later S9.out.2.1 hB12).1 0 _ rfl; have h0 := (H9.out.later S9.out.2.2 hB12).1 0 _ rfl; have h1 := (H9.out.later S9.out.2.2 hB12).1 1 _ rfl; have h2 := (H9.out.later S9.out.2.2 hB12).1 2 _ rfl; have l1 := hl.1 1 _ rfl)
    | (go_at_call 9; refine (ADH.out _).mono ?_; rintro e w13 ⟨rfl, rfl⟩))
  go_ret
  exact ⟨rfl, bnext U9.out hB12⟩
end Go.Proofs.Ytlmijnaimdknnaa
