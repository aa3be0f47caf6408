/- Answers that the document fixes. -/
import Derived.Test.YteakbpcmafdikaaGreatDoorNmRes
namespace Go.Proofs.YteakbpcmafdikaaGreatDoor
open Go.ChangeShapes Go.WideShapes Go.ChangeAt Go.RowKit
set_option linter.unusedVariables false
set_option linter.unusedSimpArgs false
set_option maxRecDepth 100000 in
set_option maxHeartbeats 4000000 in
theorem ret11_any (w : World) (s : ByteArray) (b : Int) : Calls Tryz.prog 16 #[.string s, .int .i64 b] w fun e w' => (∃ p, e = .returned (.agg #[.string s, .int .i64 b, .slice (some ⟨p, 0, none⟩) 1 1, .slice none 0 0]) ∧ p < w'.heap.size ∧ w'.cell? ⟨p, 0, none⟩ = some (.int .u32 352321536)) ∧ Below w.heap.size w w' := by
  have X : Hid (XAt ((w.alloc (.cells #[.string s, .int .i64 b, .slice (some ⟨w.heap.size + 1, 0, none⟩) 1 1, .slice none 0 0] 50)).alloc (.cells #[.int .u32 352321536] 53)) w.heap.size [.string s, .int .i64 b, .slice (some ⟨w.heap.size + 1, 0, none⟩) 1 1, .slice none 0 0] ∧
      (((w.alloc (.cells #[.string s, .int .i64 b, .slice (some ⟨w.heap.size + 1, 0, none⟩) 1 1, .slice none 0 0] 50)).alloc (.cells #[.int .u32 352321536] 53))).cell? ⟨w.heap.size + 1, 0, none⟩ = some (.int .u32 352321536)) := by
    refine ⟨(XAt.new w _ _).later (by simp) (keep_alloc8 (Below.refl _ _) _), ?_⟩
    have := new_cell' (w.alloc (.cells #[.string s, .int .i64 b, .slice (some ⟨w.heap.size + 1, 0, none⟩) 1 1, .slice none 0 0] 50)) #[.int .u32 352321536] 53 0 _ rfl
    rwa [World.size_alloc] at this
  go_enter Tryz.func16, Tryz.ntmps16
  go_wp2
  exact bodyPost_ret (results_cell Tryz.results16 _ w.heap.size (by first | rfl | simp) _ _ X.out.1 Tryz.underlying50 rfl (by kernel_rfl)) rfl
    ⟨⟨_, rfl, by simp, X.out.2⟩, keep_alloc8 (keep_alloc8 (Below.refl _ _) _) _⟩
/-- The first function's cells, and the second's. -/
theorem two_rC {X : World} {b : Nat} {s t : ByteArray} {d c : Int} {p q : Nat} (h : XAt X b (rC s d p ++ rC t c q)) (hp : p < X.heap.size) (hq : q < X.heap.size) (cp : X.cell? ⟨p, 0, none⟩ = some (.int .u32 352321536)) (cq : X.cell? ⟨q, 0, none⟩ = some (.int .u32 352321536)) : RAt X b 0 s d ∧ RAt X b 4 t c := by
  refine ⟨⟨p, hp, cp, fun i y hi => ?_⟩, ⟨q, hq, cq, fun i y hi => ?_⟩⟩
  · rw [Nat.zero_add]
    refine h.1 i y ?_
    rw [List.getElem?_append_left (List.getElem?_eq_some_iff.1 hi).1]
    exact hi
  · refine h.1 (4 + i) y ?_
    rw [List.getElem?_append_right (by simp)]
    simpa using hi
theorem one_rC {X : World} {b : Nat} {s : ByteArray} {d : Int} {p : Nat} (h : XAt X b (rC s d p)) (hp : p < X.heap.size) (cp : X.cell? ⟨p, 0, none⟩ = some (.int .u32 352321536)) : RAt X b 0 s d := ⟨p, hp, cp, fun i y hi => by rw [Nat.zero_add]; exact h.1 i y hi⟩
abbrev oC1 (b : Nat) : List Value := [.slice (some ⟨b, 0, none⟩) 2 2, .slice none 0 0, .slice none 0 0]
abbrev oC2 (b : Nat) : List Value := [.slice (some ⟨b, 0, none⟩) 1 1, .slice none 0 0, .slice none 0 0]
theorem RAt.keep {X Y : World} {b o : Nat} {s : ByteArray} {d : Int} (h : RAt X b o s d) (hb : Below X.heap.size X Y) : RAt Y b o s d := by
  obtain ⟨p, hp, cp, h⟩ := h
  exact ⟨p, Nat.lt_of_lt_of_le hp hb.size, cell_any cp hb, fun i y hi => cell_any (h i y hi) hb⟩
/-- The objects' functions lie there. -/
def F12 (X : World) (b1 b2 : Nat) : Prop := RAt X b1 0 mainT 2 ∧ RAt X b1 4 fT 2 ∧ RAt X b2 0 fT 1
theorem F12.keep {X Y : World} {b1 b2 : Nat} (h : F12 X b1 b2) (hb : Below X.heap.size X Y) : F12 Y b1 b2 := ⟨h.1.keep hb, h.2.1.keep hb, h.2.2.keep hb⟩
theorem obj1_at {X : World} {b1 b2 b o : Nat} (h : F12 X b1 b2) (h0 : X.cell? ⟨b, o, none⟩ = some (.slice (some ⟨b1, 0, none⟩) 2 2)) (h1 : X.cell? ⟨b, o + 1, none⟩ = some (.slice none 0 0)) (h2 : X.cell? ⟨b, o + 2, none⟩ = some (.slice none 0 0)) : ObjAt (fun _ => True) X b o o1 := by
  refine ⟨_, _, _, h0, h1, h2, ⟨_, _, rfl, ⟨⟨Nat.le_refl _, fun e => by cases e⟩, by decide⟩, fun _ _ => trivial, .inr ⟨b1, 0, rfl, fun i y hi => ?_⟩⟩, LstA.nil, LstA.nil⟩
  cases i with
  | zero => simp [o1] at hi; subst hi; exact h.1.at (by decide)
  | succ i =>
    cases i with
    | zero => simp [o1] at hi; subst hi; exact h.2.1.at (by decide)
    | succ i => simp [o1] at hi
theorem obj2_at {X : World} {b1 b2 b o : Nat} (h : F12 X b1 b2) (h0 : X.cell? ⟨b, o, none⟩ = some (.slice (some ⟨b2, 0, none⟩) 1 1)) (h1 : X.cell? ⟨b, o + 1, none⟩ = some (.slice none 0 0)) (h2 : X.cell? ⟨b, o + 2, none⟩ = some (.slice none 0 0)) : ObjAt (fun _ => True) X b o o2 := by
  refine ⟨_, _, _, h0, h1, h2, ⟨_, _, rfl, ⟨⟨Nat.le_refl _, fun e => by cases e⟩, by decide⟩, fun _ _ => trivial, .inr ⟨b2, 0, rfl, fun i y hi => ?_⟩⟩, LstA.nil, LstA.nil⟩
  cases i with
  | zero => simp [o2] at hi; subst hi; exact h.2.2.at (by decide)
  | succ i => simp [o2] at hi
theorem objs12 {X : World} {b1 b2 b : Nat} (h : F12 X b1 b2) (hx : XAt X b (oC1 b1 ++ oC2 b2)) : IsObjs (fun _ => True) X (.slice (some ⟨b, 0, none⟩) 2 2) [o1, o2] := by
  refine ⟨_, _, rfl, ⟨⟨Nat.le_refl _, fun e => by cases e⟩, by decide⟩, fun _ _ => trivial, .inr ⟨b, 0, rfl, fun i y hi => ?_⟩⟩
  cases i with
  | zero => simp at hi; subst hi; exact obj1_at h (hx.1 0 _ rfl) (hx.1 1 _ rfl) (hx.1 2 _ rfl)
  | succ i =>
    cases i with
    | zero => simp at hi; subst hi; exact obj2_at h (hx.1 3 _ rfl) (hx.1 4 _ rfl) (hx.1 5 _ rfl)
    | succ i => simp at hi
theorem objs122 {X : World} {b1 b2 b : Nat} (h : F12 X b1 b2) (hx : XAt X b (oC1 b1 ++ oC2 b2 ++ oC2 b2)) : IsObjs (fun _ => True) X (.slice (some ⟨b, 0, none⟩) 3 3) [o1, o2, o2] := by
  refine ⟨_, _, rfl, ⟨⟨Nat.le_refl _, fun e => by cases e⟩, by decide⟩, fun _ _ => trivial, .inr ⟨b, 0, rfl, fun i y hi => ?_⟩⟩
  cases i with
  | zero => simp at hi; subst hi; exact obj1_at h (hx.1 0 _ rfl) (hx.1 1 _ rfl) (hx.1 2 _ rfl)
  | succ i =>
    cases i with
    | zero => simp at hi; subst hi; exact obj2_at h (hx.1 3 _ rfl) (hx.1 4 _ rfl) (hx.1 5 _ rfl)
    | succ i =>
      cases i with
      | zero => simp at hi; subst hi; exact obj2_at h (hx.1 6 _ rfl) (hx.1 7 _ rfl) (hx.1 8 _ rfl)
      | succ i => simp at hi
theorem objs2 {X : World} {b1 b2 b : Nat} (h : F12 X b1 b2) (hx : XAt X b (oC2 b2)) : IsObjs (fun _ => True) X (.slice (some ⟨b, 0, none⟩) 1 1) [o2] := by
  refine ⟨_, _, rfl, ⟨⟨Nat.le_refl _, fun e => by cases e⟩, by decide⟩, fun _ _ => trivial, .inr ⟨b, 0, rfl, fun i y hi => ?_⟩⟩
  cases i with
  | zero => simp at hi; subst hi; exact obj2_at h (hx.1 0 _ rfl) (hx.1 1 _ rfl) (hx.1 2 _ rfl)
  | succ i => simp at hi
def p12 : ProgM := ⟨[⟨mainT, false, false, [352321536], []⟩, ⟨fT, false, false, [352321536], []⟩], [], 0⟩
theorem few12 {l : List ObjM} (h : ∀ o ∈ l, o = o1 ∨ o = o2) : ∀ o ∈ l, fewO o := fun o ho => by rcases h o ho with rfl | rfl <;> first | exact o1_few | exact o2_few
theorem call12 {X : World} {b1 b2 b : Nat} (hT : Tab X) (h : F12 X b1 b2) (hx : XAt X b (oC1 b1 ++ oC2 b2)) : Calls Tryz.prog 11 #[.slice (some ⟨b, 0, none⟩) 2 2] X fun e w' =>
    (∃ g off c da dn dc, e = .returned (.tuple #[.agg #[.slice (some ⟨g, off, none⟩) 2 c, .slice da dn dc, .int .i64 0], .int .i64 0]) ∧ w'.cell? ⟨g, off + 5, none⟩ = some (.string fT) ∧ IsProg (fun _ => True) w' (.agg #[.slice (some ⟨g, off, none⟩) 2 c, .slice da dn dc, .int .i64 0]) p12) ∧ Below X.heap.size X w' := by
  refine (resolve_any (objs12 h hx) hT (by decide) (few12 fun o ho => by simpa using ho)).mono ?_
  rintro e w' ⟨⟨a, d, LF, LD, E, hr, rfl, hg⟩ | ⟨x, hr, hx, -⟩, hb⟩
  · rw [res12] at hr
    have hp := hg.isProg E
    simp only [Prod.mk.injEq, ProgM.mk.injEq, true_and] at hr
    obtain ⟨e1, e2, rfl⟩ := hr
    rw [← e1, ← e2] at hp
    obtain ⟨vf, vd, hv, hf, hd⟩ := id hp
    simp only [Value.agg.injEq, Array.mk.injEq, List.cons.injEq, and_true] at hv
    obtain ⟨rfl, rfl⟩ := hv
    obtain ⟨fa, fc, rfl, -, -, hx⟩ := LstA.open hf
    obtain ⟨da, dc, rfl, -, -, -⟩ := LstA.open hd
    obtain ⟨g, off, x, rfl, -, hx, vc, vr, c0, -⟩ := hx 1 (by decide)
    simp at hx
    subst hx
    rw [Nat.one_mul] at c0
    exact ⟨⟨_, _, _, _, _, _, rfl, c0, hp⟩, hb⟩
  · rw [res12] at hr
    simp at hr
    exact absurd hr.1.symm hx
theorem call122 {X : World} {b1 b2 b : Nat} (hT : Tab X) (h : F12 X b1 b2) (hx : XAt X b (oC1 b1 ++ oC2 b2 ++ oC2 b2)) : Calls Tryz.prog 11 #[.slice (some ⟨b, 0, none⟩) 3 3] X fun e w' =>
    e = .returned (.tuple #[.agg #[.slice none 0 0, .slice none 0 0, .int .i64 0], .int .i64 5]) ∧ Below X.heap.size X w' := by
  refine (resolve_any (objs122 h hx) hT (by decide) (few12 fun o ho => by simp at ho; rcases ho with h | h | h <;> simp [h])).mono ?_
  rintro e w' ⟨⟨a, d, LF, LD, E, hr, -, -⟩ | ⟨x, hr, hx, rfl⟩, hb⟩
  · rw [res122] at hr
    simp at hr
  · rw [res122] at hr
    simp at hr
    subst hr
    exact ⟨rfl, hb⟩
theorem call2 {X : World} {b1 b2 b : Nat} (hT : Tab X) (h : F12 X b1 b2) (hx : XAt X b (oC2 b2)) : Calls Tryz.prog 11 #[.slice (some ⟨b, 0, none⟩) 1 1] X fun e w' =>
    e = .returned (.tuple #[.agg #[.slice none 0 0, .slice none 0 0, .int .i64 0], .int .i64 6]) ∧ Below X.heap.size X w' := by
  refine (resolve_any (objs2 h hx) hT (by decide) (few12 fun o ho => by simp at ho; simp [ho])).mono ?_
  rintro e w' ⟨⟨a, d, LF, LD, E, hr, -, -⟩ | ⟨x, hr, hx, rfl⟩, hb⟩
  · rw [res2] at hr
    simp at hr
  · rw [res2] at hr
    simp at hr
    subst hr
    exact ⟨rfl, hb⟩
set_option maxRecDepth 100000 in
set_option maxHeartbeats 4000000 in
theorem awake11 (w : World) (hT : Tab w) : Calls Tryz.prog 9 #[] w fun e w' => e = .returned (.bool true) ∧ Below w.heap.size w w' := by
  have T0 : Hid (Tab w) := hT
  clear hT
  go_enter Tryz.func9, Tryz.ntmps9
  go_upto_region 2 with (first
    | (have q := hb1; go_at_call 16; refine (ret11_any _ _ _).mono ?_; rintro e w2 ⟨⟨p2, rfl, hl2, hc2⟩, hb2⟩)
    | (go_at_call 16; refine (ret11_any _ _ _).mono ?_; rintro e w1 ⟨⟨p1, rfl, hl1, hc1⟩, hb1⟩))
  have F3 : Hid (∃ w3, w3 = ((w2.alloc (.cells #[.string mainT, .int .i64 2, .slice (some ⟨p1, 0, none⟩) 1 1, .slice none 0 0, .string fT, .int .i64 2, .slice (some ⟨p2, 0, none⟩) 1 1, .slice none 0 0] 50)).alloc (.cells #[.slice (some ⟨w2.heap.size, 0, none⟩) 2 2, .slice none 0 0, .slice none 0 0] 46)) ∧ RAt w3 w2.heap.size 0 mainT 2 ∧ RAt w3 w2.heap.size 4 fT 2 ∧ XAt w3 (w2.heap.size + 1) (oC1 w2.heap.size) ∧ w2.heap.size + 1 < w3.heap.size ∧ Below w.heap.size w w3) := by
    have h := two_at11 w2 #[.string mainT, .int .i64 2, .slice (some ⟨p1, 0, none⟩) 1 1, .slice none 0 0, .string fT, .int .i64 2, .slice (some ⟨p2, 0, none⟩) 1 1, .slice none 0 0] #[.slice (some ⟨w2.heap.size, 0, none⟩) 2 2, .slice none 0 0, .slice none 0 0] 50 46
    have hr := two_rC (s := mainT) (t := fT) (d := 2) (c := 2) (p := p1) (q := p2) h.1 (Nat.lt_of_lt_of_le hl1 (Nat.le_trans hb2.size h.2.2.size)) (Nat.lt_of_lt_of_le hl2 h.2.2.size) (cell_any (cell_any hc1 hb2) h.2.2) (cell_any hc2 h.2.2)
    exact ⟨_, rfl, hr.1, hr.2, h.2.1, by simp, bnext (bnext hb1 hb2) h.2.2⟩
  obtain ⟨w3, e3, r1, r2, x1, z1, b3⟩ := F3.out
  have e3' : (w2.alloc (.cells #[.string ⟨#[109, 97, 105, 110]⟩, .int .i64 2, .slice (some ⟨p1, 0, none⟩) 1 1, .slice none 0 0, .string ⟨#[102]⟩, .int .i64 2, .slice (some ⟨p2, 0, none⟩) 1 1, .slice none 0 0] 50)).alloc (.cells #[.slice (some ⟨w2.heap.size, 0, none⟩) 2 2, .slice none 0 0, .slice none 0 0] 46) = w3 := e3.symm
  rw [e3']
  clear e3 e3' F3 hl1 hc1 hb1 hl2 hc2 hb2 q
  have R1 : Hid (RAt w3 w2.heap.size 0 mainT 2 ∧ RAt w3 w2.heap.size 4 fT 2 ∧ XAt w3 (w2.heap.size + 1) (oC1 w2.heap.size)) := ⟨r1, r2, x1⟩
  have B3 : Hid (Below w.heap.size w w3) := b3
  have Z1 : Hid (w2.heap.size + 1 < w3.heap.size) := z1
  clear r1 r2 x1 b3 z1
  generalize w2.heap.size = g1 at R1 Z1 ⊢
  generalize eh1 : g1 + 1 = h1 at R1 Z1 ⊢
  clear eh1
  go_upto_region 3 with (go_at_call 16; refine (ret11_any _ _ _).mono ?_; rintro e w4 ⟨⟨p3, rfl, hl3, hc3⟩, hb3⟩)
  have F5 : Hid (∃ w5, w5 = ((w4.alloc (.cells #[.string fT, .int .i64 1, .slice (some ⟨p3, 0, none⟩) 1 1, .slice none 0 0] 50)).alloc (.cells #[.slice (some ⟨w4.heap.size, 0, none⟩) 1 1, .slice none 0 0, .slice none 0 0] 46)) ∧ F12 w5 g1 w4.heap.size ∧ XAt w5 h1 (oC1 g1) ∧ XAt w5 (w4.heap.size + 1) (oC2 w4.heap.size) ∧ h1 < w5.heap.size ∧ w4.heap.size + 1 < w5.heap.size ∧ Below w.heap.size w w5) := by
    have h := two_at11 w4 #[.string fT, .int .i64 1, .slice (some ⟨p3, 0, none⟩) 1 1, .slice none 0 0] #[.slice (some ⟨w4.heap.size, 0, none⟩) 1 1, .slice none 0 0, .slice none 0 0] 50 46
    have hr := one_rC (s := fT) (d := 1) (p := p3) h.1 (Nat.lt_of_lt_of_le hl3 h.2.2.size) (cell_any hc3 h.2.2)
    have hB := bnext hb3 h.2.2
    exact ⟨_, rfl, ⟨R1.out.1.keep hB, R1.out.2.1.keep hB, hr⟩, R1.out.2.2.later Z1.out hB, h.2.1, Nat.lt_of_lt_of_le Z1.out hB.size, by simp, bnext B3.out hB⟩
  obtain ⟨w5, e5, r5, x5, y5, z5, z6, b5⟩ := F5.out
  have e5' : (w4.alloc (.cells #[.string ⟨#[102]⟩, .int .i64 1, .slice (some ⟨p3, 0, none⟩) 1 1, .slice none 0 0] 50)).alloc (.cells #[.slice (some ⟨w4.heap.size, 0, none⟩) 1 1, .slice none 0 0, .slice none 0 0] 46) = w5 := e5.symm
  rw [e5']
  clear e5 e5' F5 hl3 hc3 hb3 R1 B3 Z1
  have RF : Hid (F12 w5 g1 w4.heap.size) := r5
  have X1 : Hid (XAt w5 h1 (oC1 g1) ∧ h1 < w5.heap.size) := ⟨x5, z5⟩
  have X2 : Hid (XAt w5 (w4.heap.size + 1) (oC2 w4.heap.size) ∧ w4.heap.size + 1 < w5.heap.size) := ⟨y5, z6⟩
  have B5 : Hid (Below w.heap.size w w5) := b5
  clear r5 x5 y5 z5 z6 b5
  generalize w4.heap.size = g2 at RF X2 ⊢
  generalize eh2 : g2 + 1 = h2 at X2 ⊢
  clear eh2
  have a0 := X1.out.1.1 0 _ rfl
  have a1 := X1.out.1.1 1 _ rfl
  have a2 := X1.out.1.1 2 _ rfl
  have c0 := X2.out.1.1 0 _ rfl
  have c1 := X2.out.1.1 1 _ rfl
  have c2 := X2.out.1.1 2 _ rfl
  go_upto_region 4 with (go_at_call 11; refine (call12 (T0.out.later (keep_alloc8 B5.out _)) (RF.out.keep (keep_alloc8 (Below.refl _ _) _)) (XAt.new _ _ _)).mono ?_; rintro e w6 ⟨⟨g, off, c, da, dn, dc, rfl, hn, hp⟩, hb6⟩)
  have F7 : Hid (∃ w7, w7 = w6.alloc (.cells #[.slice (some ⟨g, off, none⟩) 2 c, .slice da dn dc, .int .i64 0] 28) ∧ F12 w7 g1 g2 ∧ (XAt w7 h1 (oC1 g1) ∧ h1 < w7.heap.size) ∧ (XAt w7 h2 (oC2 g2) ∧ h2 < w7.heap.size) ∧ (XAt w7 w6.heap.size [.slice (some ⟨g, off, none⟩) 2 c, .slice da dn dc, .int .i64 0] ∧ w6.heap.size < w7.heap.size) ∧ w7.cell? ⟨g, off + 5, none⟩ = some (.string fT) ∧ IsProg (fun _ => True) w7 (.agg #[.slice (some ⟨g, off, none⟩) 2 c, .slice da dn dc, .int .i64 0]) p12 ∧ Below w.heap.size w w7) := by
    have hB := bnext (keep_alloc8 (Below.refl _ w5) _) (keep_alloc8 hb6 (.cells #[.slice (some ⟨g, off, none⟩) 2 c, .slice da dn dc, .int .i64 0] 28))
    have h6 := keep_alloc8 (Below.refl _ w6) (.cells #[.slice (some ⟨g, off, none⟩) 2 c, .slice da dn dc, .int .i64 0] 28)
    exact ⟨_, rfl, RF.out.keep hB, ⟨X1.out.1.later X1.out.2 hB, Nat.lt_of_lt_of_le X1.out.2 hB.size⟩, ⟨X2.out.1.later X2.out.2 hB, Nat.lt_of_lt_of_le X2.out.2 hB.size⟩, ⟨XAt.new _ _ _, by simp⟩, cell_any hn h6, hp.later h6, bnext B5.out hB⟩
  obtain ⟨w7, e7, RF7, X17, X27, X37, N7, P7, B7⟩ := F7.out
  rw [← e7]
  clear a0 a1 a2 c0 c1 c2 e7 F7 RF X1 X2 B5 hn hp hb6
  have RF : Hid (F12 w7 g1 g2) := RF7
  have X1 : Hid (XAt w7 h1 (oC1 g1) ∧ h1 < w7.heap.size) := X17
  have X2 : Hid (XAt w7 h2 (oC2 g2) ∧ h2 < w7.heap.size) := X27
  have X3 : Hid (XAt w7 w6.heap.size [.slice (some ⟨g, off, none⟩) 2 c, .slice da dn dc, .int .i64 0] ∧ w6.heap.size < w7.heap.size) := X37
  have PN : Hid (w7.cell? ⟨g, off + 5, none⟩ = some (.string fT) ∧ IsProg (fun _ => True) w7 (.agg #[.slice (some ⟨g, off, none⟩) 2 c, .slice da dn dc, .int .i64 0]) p12) := ⟨N7, P7⟩
  have B : Hid (Below w.heap.size w w7) := B7
  clear RF7 X17 X27 X37 N7 P7 B7
  generalize w6.heap.size = h3 at X3 ⊢
  have a0 := X1.out.1.1 0 _ rfl
  have a1 := X1.out.1.1 1 _ rfl
  have a2 := X1.out.1.1 2 _ rfl
  have c0 := X2.out.1.1 0 _ rfl
  have c1 := X2.out.1.1 1 _ rfl
  have c2 := X2.out.1.1 2 _ rfl
  go_upto_region 5 with (go_at_call 11; refine (call122 (T0.out.later (keep_alloc8 B.out _)) (RF.out.keep (keep_alloc8 (Below.refl _ _) _)) (XAt.new _ _ _)).mono ?_; rintro e w8 ⟨rfl, hb8⟩)
  have F9 : Hid (∃ w9, w9 = w8.alloc (.cells #[.slice none 0 0, .slice none 0 0, .int .i64 0] 28) ∧ Below w7.heap.size w7 w9) := ⟨_, rfl, bnext (keep_alloc8 (Below.refl _ w7) _) (keep_alloc8 hb8 _)⟩
  obtain ⟨w9, e9, hb9⟩ := F9.out
  rw [← e9]
  clear a0 a1 a2 c0 c1 c2 e9 F9 hb8
  have HB9 : Hid (Below w7.heap.size w7 w9) := hb9
  clear hb9
  have x2 := X2.out.1.later X2.out.2 HB9.out
  have c0 := x2.1 0 _ rfl
  have c1 := x2.1 1 _ rfl
  have c2 := x2.1 2 _ rfl
  clear x2
  go_upto_region 6 with (go_at_call 11; refine (call2 (T0.out.later (keep_alloc8 (bnext B.out HB9.out) _)) ((RF.out.keep HB9.out).keep (keep_alloc8 (Below.refl _ _) _)) (XAt.new _ _ _)).mono ?_; rintro e w10 ⟨rfl, hb10⟩)
  have F11 : Hid (∃ w11, w11 = w10.alloc (.cells #[.slice none 0 0, .slice none 0 0, .int .i64 0] 28) ∧ Below w7.heap.size w7 w11) := ⟨_, rfl, bnext HB9.out (bnext (keep_alloc8 (Below.refl _ w9) _) (keep_alloc8 hb10 _))⟩
  obtain ⟨w11, e11, hb11⟩ := F11.out
  rw [← e11]
  clear c0 c1 c2 e11 F11 hb10 HB9
  have HB : Hid (Below w7.heap.size w7 w11) := hb11
  clear hb11
  have x3 := X3.out.1.later X3.out.2 HB.out
  have p0 := x3.1 0 _ rfl
  have p1 := x3.1 1 _ rfl
  have p2 := x3.1 2 _ rfl
  have pn : w11.cell? ⟨g, off + 5, none⟩ = some (.string ⟨#[102]⟩) := cell_any PN.out.1 HB.out
  have HS : Hid (∀ W, Below w11.heap.size w11 W → Calls Tryz.prog 14 #[.agg #[.slice (some ⟨g, off, none⟩) 2 c, .slice da dn dc, .int .i64 0], .agg #[.slice (some ⟨g, off, none⟩) 2 c, .slice da dn dc, .int .i64 0]] W fun e w' => e = .returned (.bool true) ∧ Below W.heap.size W w') := fun W hW => by
    have hq := PN.out.2.later (bnext HB.out hW)
    refine (same11_any hq hq).mono ?_
    rintro e w' ⟨⟨b, rfl, hb⟩, hB⟩
    obtain rfl := hb.2 rfl
    exact ⟨rfl, hB⟩
  clear x3
  go_wp2_with (go_at_call 14; refine (HS.out _ (Below.refl _ _)).mono ?_; rintro e w12 ⟨rfl, hb12⟩)
  go_ret
  exact ⟨rfl, bnext B.out (bnext HB.out hb12)⟩
end Go.Proofs.YteakbpcmafdikaaGreatDoor
