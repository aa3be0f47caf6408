/- What the code's own Read of images returns. -/
import Derived.Test.YtlpmkbdoofbmiaaImgTi
import Derived.Test.YtlpmkbdoofbmiaaScanTry
namespace Go.Proofs.Ytlpmkbdoofbmiaa
open Go.ChangeShapes Go.WideShapes Go.ChangeAt Go.RowKit
set_option linter.unusedVariables false
set_option linter.unusedSimpArgs false
set_option maxRecDepth 100000 in
set_option maxHeartbeats 2000000 in
theorem try_ob (w : World) (a : Option Addr) (n c : Nat) (f : Nat → Int) (hn : n ≤ 2000000) (hh : Head a n c) (hb : Bytes w a n f) (G : FuncId) (hG : ∀ (args : Array Value) (w : World), (callFunc G args).run Try.prog w = .ok (.enter G args) w) (cap : Array Value) (Done : World → Int → Prop)
    (hst : ∀ W W' er, Done W er → w.heap.size < W.heap.size → Apart (G1 w.heap.size) W W' → Done W' er)
    (HR : ∀ W B v, Below w.heap.size w W → w.heap.size < B → B ≤ W.heap.size → Sc B W v n f → Calls Try.prog G (#[v] ++ cap) W fun e W' => ((∃ m g, e = .returned (.tuple #[]) ∧ Sc B W' v m g ∧ Done W' (if m = 0 then 0 else 2)) ∨ (∃ er, e = failE er ∧ Done W' er)) ∧ Mid w.heap.size B W W') :
    Calls Try.prog 19 #[.slice a n c, .func (.func G) #[] cap] w fun e w' => ∃ er, e = .returned (.int .i64 er) ∧ Done w' er ∧ (w'.os = w.os ∧ w'.tape = w.tape ∧ w'.output = w.output ∧ w.heap.size ≤ w'.heap.size) := by
  have hmf : ∀ (fn : Fn) (first cap : Array Value) (w : World), (Instr.makeFunc fn first cap).run Try.prog w = .ok (.func fn first cap) w := fun _ _ _ _ => rfl
  have NW : Hid (∀ W, Below w.heap.size w W → Calls Try.prog 29 #[.slice a n c] W fun e w' => ∃ v, e = .returned v ∧ Sc W.heap.size w' v n f ∧ Below W.heap.size W w') := fun W hW => new_sc W a n c f hn hh (hb.later hW)
  have H : Hid (∀ W B v, Below w.heap.size w W → w.heap.size < B → B ≤ W.heap.size → Sc B W v n f → Calls Try.prog G (#[v] ++ cap) W fun e W' => ((∃ m g, e = .returned (.tuple #[]) ∧ Sc B W' v m g ∧ Done W' (if m = 0 then 0 else 2)) ∨ (∃ er, e = .panicked [{ v := .iface 28 (.int .i64 er), recovered := false }] ∧ Done W' er)) ∧ Mid w.heap.size B W W') := HR
  clear hb HR
  go_enter_defers Try.func19, Try.ntmps19
  have B1 : Hid (Below w.heap.size w (w.alloc (.cells #[.int .i64 0] 28))) := (Below.refl _ _).alloc (Nat.le_refl _) _
  have C1 : Hid ((w.alloc (.cells #[.int .i64 0] 28)).cell? ⟨w.heap.size, 0, none⟩ = some (.int .i64 0)) := new_cell' w _ _ 0 _ rfl
  have Z1 : Hid ((w.alloc (.cells #[.int .i64 0] 28)).frozen? ⟨w.heap.size, 0, none⟩ = false) := by show _ = _; simp [go_sem]
  have E1 : Hid (w.heap.size < (w.alloc (.cells #[.int .i64 0] 28)).heap.size) := by show _ < _; simp
  go_upto_region 1 with fail
  generalize w.alloc (.cells #[.int .i64 0] 28) = w1 at B1 C1 Z1 E1 ⊢
  go_upto_region 3 with (go_at_call 29; refine (NW.out _ B1.out).mono ?_; rintro e w2 ⟨v, rfl, hS, hb2⟩)
  go_upto_region 4 with (refine (H.out w2 w1.heap.size v (bnext B1.out hb2) E1.out hb2.size hS).mono ?_; rintro e w3 ⟨⟨m, g, rfl, hS3, hd⟩ | ⟨er, rfl, hd⟩, hM⟩)
  · have LF : Hid (Calls Try.prog 30 #[v] w3 fun e w' => e = .returned (.int .i64 m) ∧ Below w3.heap.size w3 w') := left_sc' hS3
    have HD : Hid (Done w3 (if m = 0 then 0 else 2)) := hd
    have lt1 := E1.out
    have e3 : w3.heap[w.heap.size]? = w1.heap[w.heap.size]? := (hM.block w.heap.size (Nat.le_refl _) lt1).trans (hb2.block _ lt1)
    have C3 : Hid (w3.cell? ⟨w.heap.size, 0, none⟩ = some (.int .i64 0)) := (World.cell?_of_block (a := ⟨w.heap.size, 0, none⟩) e3).trans C1.out
    have Z3 : Hid (w3.frozen? ⟨w.heap.size, 0, none⟩ = false) := (World.frozen?_of_block (a := ⟨w.heap.size, 0, none⟩) e3).trans Z1.out
    have W3 : Hid (w3.os = w.os ∧ w3.tape = w.tape ∧ w3.output = w.output ∧ w.heap.size < w3.heap.size) := ⟨hM.os.trans (hb2.os.trans B1.out.os), hM.tape.trans (hb2.tape.trans B1.out.tape), hM.output.trans (hb2.output.trans B1.out.output), Nat.lt_of_lt_of_le lt1 (Nat.le_trans hb2.size hM.size)⟩
    clear hS hS3 hd hM e3 lt1
    have c3 := C3.out
    have z3 := Z3.out
    have fin : Hid (∀ w4 er, Below w3.heap.size w3 w4 → er = (if m = 0 then 0 else 2) → Done (w4.setCell ⟨w.heap.size, 0, none⟩ (.int .i64 er)) er ∧ (w4.setCell ⟨w.heap.size, 0, none⟩ (.int .i64 er)).os = w.os ∧ (w4.setCell ⟨w.heap.size, 0, none⟩ (.int .i64 er)).tape = w.tape ∧ (w4.setCell ⟨w.heap.size, 0, none⟩ (.int .i64 er)).output = w.output ∧ w.heap.size ≤ (w4.setCell ⟨w.heap.size, 0, none⟩ (.int .i64 er)).heap.size) := fun w4 er hb he => by
      subst he
      obtain ⟨q1, q2, q3, q4⟩ := W3.out
      refine ⟨hst _ _ _ HD.out q4 (apart_set hb), hb.os.trans q1, hb.tape.trans q2, hb.output.trans q3, by have := hb.size; simp; omega⟩
    by_cases hm : m = 0
    · subst hm
      go_wp2_with (go_at_call 30; refine LF.out.mono ?_; rintro e w4 ⟨rfl, hb4⟩; have c4 := cell_later' c3 hb4; have z4 : w4.frozen? ⟨w.heap.size, 0, none⟩ = false := (hb4.frozen (p := ⟨w.heap.size, 0, none⟩) W3.out.2.2.2).trans Z3.out)
      have hF := fin.out w4 0 hb4 rfl
      have c5 : (w4.setCell ⟨w.heap.size, 0, none⟩ (.int .i64 0)).cell? ⟨w.heap.size, 0, none⟩ = some (.int .i64 0) := World.cell?_setCell_same _ _ _ c4
      generalize w4.setCell ⟨w.heap.size, 0, none⟩ (.int .i64 0) = w5 at hF c5 ⊢
      refine leaves_cons (f := 27) (args := #[.pointer (some ⟨w.heap.size, 0, none⟩)]) (by simp) (by simp [go_sem]) ?_
      refine (catch_idle ⟨w.heap.size, 0, none⟩ _).mono ?_
      rintro e u' w'' ⟨rfl, rfl, rfl⟩
      simp [Leaves, settle, results, Try.results19, go_sem, c5]
      exact hF
    · have hm' : (0 : Int) < m := by omega
      go_wp2_with (go_at_call 30; refine LF.out.mono ?_; rintro e w4 ⟨rfl, hb4⟩; have c4 := cell_later' c3 hb4; have z4 : w4.frozen? ⟨w.heap.size, 0, none⟩ = false := (hb4.frozen (p := ⟨w.heap.size, 0, none⟩) W3.out.2.2.2).trans Z3.out)
      have hF := fin.out w4 2 hb4 (by rw [if_neg hm])
      have c5 : (w4.setCell ⟨w.heap.size, 0, none⟩ (.int .i64 2)).cell? ⟨w.heap.size, 0, none⟩ = some (.int .i64 2) := World.cell?_setCell_same _ _ _ c4
      generalize w4.setCell ⟨w.heap.size, 0, none⟩ (.int .i64 2) = w5 at hF c5 ⊢
      refine leaves_cons (f := 27) (args := #[.pointer (some ⟨w.heap.size, 0, none⟩)]) (by simp) (by simp [go_sem]) ?_
      refine (catch_idle ⟨w.heap.size, 0, none⟩ _).mono ?_
      rintro e u' w'' ⟨rfl, rfl, rfl⟩
      simp [Leaves, settle, results, Try.results19, go_sem, c5]
      exact hF
  · have HD : Hid (Done w3 er) := hd
    have lt1 := E1.out
    have e3 : w3.heap[w.heap.size]? = w1.heap[w.heap.size]? := (hM.block w.heap.size (Nat.le_refl _) lt1).trans (hb2.block _ lt1)
    have C3 : Hid (w3.cell? ⟨w.heap.size, 0, none⟩ = some (.int .i64 0)) := (World.cell?_of_block (a := ⟨w.heap.size, 0, none⟩) e3).trans C1.out
    have Z3 : Hid (w3.frozen? ⟨w.heap.size, 0, none⟩ = false) := (World.frozen?_of_block (a := ⟨w.heap.size, 0, none⟩) e3).trans Z1.out
    have W3 : Hid (w3.os = w.os ∧ w3.tape = w.tape ∧ w3.output = w.output ∧ w.heap.size < w3.heap.size) := ⟨hM.os.trans (hb2.os.trans B1.out.os), hM.tape.trans (hb2.tape.trans B1.out.tape), hM.output.trans (hb2.output.trans B1.out.output), Nat.lt_of_lt_of_le lt1 (Nat.le_trans hb2.size hM.size)⟩
    obtain ⟨q1, q2, q3, q4⟩ := W3.out
    have hF : Done (w3.setCell ⟨w.heap.size, 0, none⟩ (.int .i64 er)) er ∧ (w3.setCell ⟨w.heap.size, 0, none⟩ (.int .i64 er)).os = w.os ∧ (w3.setCell ⟨w.heap.size, 0, none⟩ (.int .i64 er)).tape = w.tape ∧ (w3.setCell ⟨w.heap.size, 0, none⟩ (.int .i64 er)).output = w.output ∧ w.heap.size ≤ (w3.setCell ⟨w.heap.size, 0, none⟩ (.int .i64 er)).heap.size :=
      ⟨hst _ _ _ HD.out q4 (apart_set (Below.refl _ _)), q1, q2, q3, by simp; omega⟩
    have c5 : (w3.setCell ⟨w.heap.size, 0, none⟩ (.int .i64 er)).cell? ⟨w.heap.size, 0, none⟩ = some (.int .i64 er) := World.cell?_setCell_same _ _ _ C3.out
    refine leaves_cons (f := 27) (args := #[.pointer (some ⟨w.heap.size, 0, none⟩)]) (by simp) (by simp [go_sem]) ?_
    refine (catch_fail ⟨w.heap.size, 0, none⟩ 0 er _ C3.out Z3.out).mono ?_
    rintro e u' w'' ⟨rfl, rfl, rfl⟩
    generalize w3.setCell ⟨w.heap.size, 0, none⟩ (.int .i64 er) = w5 at hF c5 ⊢
    simp [Leaves, settle, results, Try.results19, go_sem, c5]
    exact hF
/-- What stands behind Try, in the world W, of the reader's error er: the image lies at P. -/
structure DoneI (w0 : World) (P : Nat) (l : Bs) (W : World) (er : Int) : Prop where
  res : er = (readI l).2
  low : Below w0.heap.size w0 W
  lt : P + 1 < W.heap.size
  ob : er = 0 → ∃ cs : Array Value, XAt W P cs.toList ∧ OwnI (P + 2) W (.agg cs) (readI l).1
theorem DoneI.keep {w0 : World} {P : Nat} {l : Bs} {W W' : World} {er : Int} (h : DoneI w0 P l W er) (hP : w0.heap.size ≤ P) (ha : Apart (G1 (P + 1)) W W') : DoneI w0 P l W' er := by
  refine ⟨h.res, ⟨ha.os.trans h.low.os, ha.tape.trans h.low.tape, ha.output.trans h.low.output, Nat.le_trans h.low.size ha.size, fun k hk => (ha.block k (Nat.lt_of_lt_of_le hk h.low.size) (by show ¬ k = P + 1; omega)).trans (h.low.block k hk)⟩, Nat.lt_of_lt_of_le h.lt ha.size, fun e => ?_⟩
  obtain ⟨cs, h1, h2⟩ := h.ob e
  have hl := h.lt
  exact ⟨cs, h1.apart (by omega) ha (by show ¬ P = P + 1; omega), h2.apart ha fun k k1 k2 => by have k2 : k = P + 1 := k2; omega⟩
set_option maxRecDepth 100000 in
/-- The reader that Read hands on: it stores what it took at P. -/
theorem iread_in {w0 W : World} {P B : Nat} {v : Value} {l : Bs} {c0 c1 c2 c3 c4 : Value} (hS : Sc B W v l.length (gF l)) (hby : Byt l) (hB : B ≤ W.heap.size) (hP : w0.heap.size ≤ P ∧ P + 1 < B) (hX : XAt W P [c0, c1, c2, c3, c4]) (hlow : Below w0.heap.size w0 W) :
    Calls Try.prog 20 #[v, .pointer (some ⟨P, 0, none⟩)] W fun e W' => ((∃ m g, e = .returned (.tuple #[]) ∧ Sc B W' v m g ∧ DoneI w0 P l W' (if m = 0 then 0 else 2)) ∨ (∃ er, e = failE er ∧ DoneI w0 P l W' er)) ∧ Mid (P + 1) B W W' := by
  obtain ⟨O, hO, hS⟩ := hS
  have hk : Sk O W v l := ⟨⟨gF l, hS, fun _ _ => rfl⟩, hby⟩
  have TK : Hid (Calls Try.prog 21 #[v] W (Took O W v (imgR (.good l)) fun x w' u => OwnI W.heap.size w' u x)) := tk_image hk
  obtain ⟨g, rfl, hg⟩ := hk.ptr
  have HO : Hid (∀ k, O k → B ≤ k) := hO
  have HP : Hid (w0.heap.size ≤ P ∧ P + 1 < B ∧ B ≤ W.heap.size) := ⟨hP.1, hP.2, hB⟩
  have HX := Hid.mk9 hX
  have HL : Hid (Below w0.heap.size w0 W) := hlow
  clear hS hk hO hP hB hX hlow
  go_enter Try.func20, Try.ntmps20
  go_wp2_with (go_at_call 21; refine TK.out.mono ?_; rintro e w1 ⟨⟨x, b1, u, hr, rfl, hh, hS1⟩ | ⟨x, er, hr, rfl⟩, hA1⟩; all_goals (try (have HI := Hid.mk9 hh; obtain ⟨ca, cc, da, dc, rfl, -, -, -⟩ := id hh; clear hh; have hx := HX.out.apart (by have := HP.out; omega) hA1 (fun ho => by have := HO.out _ ho; have := HP.out; omega); obtain ⟨⟨y0, y1, y2, y3, y4⟩, z0, z1, z2, z3, z4⟩ := XAt.five hx)))
  · go_end0
    have K := sets5 hx (.slice ca x.code.length cc) (.int .i64 x.entry) (.slice da x.data.length dc) (.int .i64 x.write) (.int .i64 x.more)
    generalize (((((w1.setCell ⟨P, 0, none⟩ (.slice ca x.code.length cc)).setCell ⟨P, 1, none⟩ (.int .i64 x.entry)).setCell ⟨P, 2, none⟩ (.slice da x.data.length dc)).setCell ⟨P, 3, none⟩ (.int .i64 x.write)).setCell ⟨P, 4, none⟩ (.int .i64 x.more)) = w2 at K ⊢
    have hP := HP.out
    have hP1 : ∀ k, O k → ¬ k = P := fun k ho e => by have := HO.out k ho; omega
    have S2 : Sk O w2 (.pointer (some ⟨g, 0, none⟩)) b1 := hS1.keep K.2.size fun k k1 k2 => K.2.block k k1 (hP1 k k2)
    have st := hA1.size
    have s2 := K.2.size
    have lies := (HI.out.apart K.2 (fun k k1 k2 => by have k2 : k = P := k2; omega)).less (base' := P + 2) (by omega)
    have low : Below w0.heap.size w0 w2 := ⟨K.2.os.trans (hA1.os.trans HL.out.os), K.2.tape.trans (hA1.tape.trans HL.out.tape), K.2.output.trans (hA1.output.trans HL.out.output), by have := HL.out.size; omega, fun k hk => ((K.2.block k (by have := HL.out.size; omega) (by show ¬ k = P; omega)).trans (hA1.block k (by have := HL.out.size; omega) fun ho => by have := HO.out k ho; omega)).trans (HL.out.block k hk)⟩
    obtain ⟨⟨f, hs, hf⟩, hy⟩ := S2
    refine ⟨.inl ⟨b1.length, f, rfl, ⟨O, HO.out, hs⟩, ?_⟩, ⟨K.2.os.trans hA1.os, K.2.tape.trans hA1.tape, K.2.output.trans hA1.output, by omega, fun k k1 k2 => (K.2.block k (by omega) (by show ¬ k = P; omega)).trans (hA1.block k (by omega) fun ho => by have := HO.out k ho; omega)⟩⟩
    have hr' := hr.out
    rcases b1 with _ | ⟨y, ys⟩
    · have e : readI l = (x, 0) := readI_good hr'
      exact ⟨by rw [e]; rfl, low, by omega, fun _ => ⟨_, K.1, by rw [e]; exact lies⟩⟩
    · have e : readI l = (noIm, 2) := readI_left hr' (fun h => by cases h)
      exact ⟨by rw [e]; rfl, low, by omega, fun h => by cases h⟩
  · have hP := HP.out
    have s1 := hA1.size
    have e : readI l = (noIm, er) := readI_bad hr.out
    have low : Below w0.heap.size w0 w1 := ⟨hA1.os.trans HL.out.os, hA1.tape.trans HL.out.tape, hA1.output.trans HL.out.output, by have := HL.out.size; omega, fun k hk => (hA1.block k (by have := HL.out.size; omega) fun ho => by have := HO.out k ho; omega).trans (HL.out.block k hk)⟩
    refine ⟨rfl, .inr ⟨er, rfl, ⟨by rw [e], low, by omega, fun h => ?_⟩⟩, ⟨hA1.os, hA1.tape, hA1.output, s1, fun k k1 k2 => hA1.block k (by omega) fun ho => by have := HO.out k ho; omega⟩⟩
    rcases real0 l er x hr.out with rfl | rfl <;> cases h
/-- The answer of the code's Read: an image whose lists are its own. -/
def ReadI (w : World) (l : Bs) (e : Ending) (w' : World) : Prop := (∃ u, e = .returned (.tuple #[u, .int .i64 (readI l).2]) ∧ OwnI w.heap.size w' u (readI l).1) ∧ Below w.heap.size w w'
theorem own_nil (base : Nat) (w : World) : OwnI base w (.agg #[.slice none 0 0, .int .i64 0, .slice none 0 0, .int .i64 0, .int .i64 0]) noIm := ⟨none, 0, none, 0, rfl, ⟨own_none, fun _ h => by cases h⟩, own_none, fun _ h => by cases h⟩
set_option maxRecDepth 100000 in
set_option maxHeartbeats 1000000 in
theorem iread {A : Nat → Prop} {w : World} {v : Value} {l : Bs} (h : IsBytes A w v l) (hl : l.length ≤ 2000000) : Calls Try.prog 13 #[v] w (ReadI w l) := by
  have hby := h.2
  obtain ⟨a, c, rfl, ⟨hh, hc⟩, hb, -⟩ := h.row
  have HB : Hid (Head a l.length c ∧ Bytes w a l.length (gF l)) := ⟨hh, hb⟩
  have HY : Hid (Byt l ∧ l.length ≤ 2000000) := ⟨hby, hl⟩
  clear h hh hb hc hby hl
  have hmf : ∀ (fn : Fn) (first cap : Array Value) (w : World), (Instr.makeFunc fn first cap).run Try.prog w = .ok (.func fn first cap) w := fun _ _ _ _ => rfl
  go_enter Try.func13, Try.ntmps13
  have X1 := XAt.new w #[.slice none 0 0, .int .i64 0, .slice none 0 0, .int .i64 0, .int .i64 0] 25
  have X2 := XAt.new (w.alloc (.cells #[.slice none 0 0, .int .i64 0, .slice none 0 0, .int .i64 0, .int .i64 0] 25)) #[.slice none 0 0, .int .i64 0, .slice none 0 0, .int .i64 0, .int .i64 0] 25
  have B1 := keep_alloc8 (Below.refl _ w) (.cells #[.slice none 0 0, .int .i64 0, .slice none 0 0, .int .i64 0, .int .i64 0] 25)
  have e1 : (w.alloc (.cells #[.slice none 0 0, .int .i64 0, .slice none 0 0, .int .i64 0, .int .i64 0] 25)).heap.size = w.heap.size + 1 := by simp
  go_upto_region 2 with fail
  generalize w.alloc (.cells #[.slice none 0 0, .int .i64 0, .slice none 0 0, .int .i64 0, .int .i64 0] 25) = w1 at X1 X2 B1 e1 ⊢
  have B2 := keep_alloc8 (Below.refl _ w1) (.cells #[.slice none 0 0, .int .i64 0, .slice none 0 0, .int .i64 0, .int .i64 0] 25)
  have e2 : (w1.alloc (.cells #[.slice none 0 0, .int .i64 0, .slice none 0 0, .int .i64 0, .int .i64 0] 25)).heap.size = w.heap.size + 2 := by simp [e1]
  have X1' := X1.later (by omega) B2
  rw [e1] at X2
  generalize w1.alloc (.cells #[.slice none 0 0, .int .i64 0, .slice none 0 0, .int .i64 0, .int .i64 0] 25) = w2 at X1' X2 B2 e2 ⊢
  have CALL : Hid (Calls Try.prog 19 #[.slice a l.length c, .func (.func 20) #[] #[.pointer (some ⟨w.heap.size + 1, 0, none⟩)]] w2 fun e w' => ∃ er, e = .returned (.int .i64 er) ∧ DoneI w1 (w.heap.size + 1) l w' er ∧ (w'.os = w2.os ∧ w'.tape = w2.tape ∧ w'.output = w2.output ∧ w2.heap.size ≤ w'.heap.size)) := by
    refine try_ob w2 a l.length c (gF l) HY.out.2 HB.out.1 ((HB.out.2.later B1).later B2) 20 (enters Try.func20 (by kernel_rfl) rfl) #[.pointer (some ⟨w.heap.size + 1, 0, none⟩)] (DoneI w1 (w.heap.size + 1) l) ?_ ?_
    · intro W W' er h hlt ha
      rw [e2] at ha
      exact h.keep (by omega) ha
    · intro W B v h1 h2 h3 h4
      have h := iread_in (w0 := w1) (P := w.heap.size + 1) h4 HY.out.1 h3 ⟨by omega, by omega⟩ (X2.later (by omega) h1) (bnext B2 h1)
      rw [e2]
      exact h
  have X1R : Hid (∀ W, Below w1.heap.size w1 W → XAt W w.heap.size nil5 ∧ Below w.heap.size w W) := fun W hW => ⟨X1.later (by omega) hW, bnext B1 hW⟩
  have E1 : Hid (w1.heap.size = w.heap.size + 1) := e1
  clear X1 X1' X2 B1 B2 e1 e2
  go_upto_region 3 with (go_at_call 19; refine CALL.out.mono ?_; rintro e w3 ⟨er, rfl, hD, -⟩)
  obtain ⟨x1, low⟩ := X1R.out w3 hD.low
  have HX := Hid.mk9 x1
  have HLOW : Hid (Below w.heap.size w w3) := low
  obtain ⟨⟨r0, r1, r2, r3, r4⟩, z0, z1, z2, z3, z4⟩ := XAt.five x1
  clear x1 low CALL X1R
  by_cases h0 : er = 0
  · subst h0
    obtain ⟨cs, hp, hl⟩ := hD.ob rfl
    have hr := hD.res
    have HLI := Hid.mk9 hl
    obtain ⟨ca, cc, da, dc, ecs, -, -, -⟩ := hl
    injection ecs with ecs
    subst ecs
    have HR := Hid.mk9 hr
    obtain ⟨⟨y0, y1, y2, y3, y4⟩, -⟩ := XAt.five hp
    have K := Hid.mk9 (sets5 HX.out (.slice ca (readI l).1.code.length cc) (.int .i64 (readI l).1.entry) (.slice da (readI l).1.data.length dc) (.int .i64 (readI l).1.write) (.int .i64 (readI l).1.more))
    clear hr hp hD
    go_wp2
    refine bodyPost_ret (v := .tuple #[.agg #[.slice ca (readI l).1.code.length cc, .int .i64 (readI l).1.entry, .slice da (readI l).1.data.length dc, .int .i64 (readI l).1.write, .int .i64 (readI l).1.more], .int .i64 0]) (results_img Try.results13 _ w.heap.size (by first | rfl | simp) _ (by first | rfl | simp) _ _ _ _ _ _ K.out.1) rfl ⟨⟨_, by rw [← HR.out], ?_⟩, HLOW.out.trans ?_⟩
    · exact (HLI.out.apart K.out.2 (fun k h1 h2 => by have h2 : k = w.heap.size := h2; omega)).less (by omega)
    · exact Apart.low K.out.2 (B := w.heap.size) (fun k hk => by have e : k = w.heap.size := hk; omega) (by have := HLOW.out.size; omega)
  · have hr := hD.res
    have h1 : (er != 0) = true := by simpa using h0
    have hn : (readI l).1 = noIm := (readI_kind l).2 (by rw [← hr]; exact h0)
    have HR : Hid (er = (readI l).2 ∧ (readI l).1 = noIm) := ⟨hr, hn⟩
    have K := Hid.mk9 (sets5 HX.out (.slice none 0 0) (.int .i64 0) (.slice none 0 0) (.int .i64 0) (.int .i64 0))
    clear hD hr hn
    go_wp2
    refine bodyPost_ret (v := .tuple #[.agg #[.slice none 0 0, .int .i64 0, .slice none 0 0, .int .i64 0, .int .i64 0], .int .i64 er]) (results_img Try.results13 _ w.heap.size (by first | rfl | simp) _ (by first | rfl | simp) _ _ _ _ _ _ K.out.1) rfl ⟨⟨_, by rw [← HR.out.1], ?_⟩, HLOW.out.trans ?_⟩
    · rw [HR.out.2]; exact own_nil _ _
    · exact Apart.low K.out.2 (B := w.heap.size) (fun k hk => by have e : k = w.heap.size := hk; omega) (by have := HLOW.out.size; omega)
end Go.Proofs.Ytlpmkbdoofbmiaa
