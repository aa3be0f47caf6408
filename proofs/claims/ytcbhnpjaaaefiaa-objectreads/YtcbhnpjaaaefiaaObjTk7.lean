/- What the code's own Read returns. -/
import Derived.Test.YtcbhnpjaaaefiaaObjTk6
namespace Go.Proofs.Ytcbhnpjaaaefiaa
open Go.ChangeShapes Go.WideShapes Go.ChangeAt Go.RowKit
set_option linter.unusedVariables false
set_option linter.unusedSimpArgs false
set_option maxRecDepth 100000 in
set_option maxHeartbeats 2000000 in
theorem try_ob (w : World) (a : Option Addr) (n c : Nat) (f : Nat → Int) (hn : n ≤ 2000000) (hh : Head a n c) (hb : Bytes w a n f) (G : FuncId) (hG : ∀ (args : Array Value) (w : World), (callFunc G args).run Try.prog w = .ok (.enter G args) w) (cap : Array Value) (Done : World → Int → Prop)
    (hst : ∀ W W' er, Done W er → w.heap.size < W.heap.size → Apart (G1 w.heap.size) W W' → Done W' er)
    (HR : ∀ W B v, Below w.heap.size w W → w.heap.size < B → B ≤ W.heap.size → Sc B W v n f → Calls Try.prog G (#[v] ++ cap) W fun e W' => ((∃ m g, e = .returned (.tuple #[]) ∧ Sc B W' v m g ∧ Done W' (if m = 0 then 0 else 2)) ∨ (∃ er, e = failE er ∧ Done W' er)) ∧ Mid w.heap.size B W W') :
    Calls Try.prog 32 #[.slice a n c, .func (.func G) #[] cap] w fun e w' => ∃ er, e = .returned (.int .i64 er) ∧ Done w' er ∧ (w'.os = w.os ∧ w'.tape = w.tape ∧ w'.output = w.output ∧ w.heap.size ≤ w'.heap.size) := by
  have hmf : ∀ (fn : Fn) (first cap : Array Value) (w : World), (Instr.makeFunc fn first cap).run Try.prog w = .ok (.func fn first cap) w := fun _ _ _ _ => rfl
  have NW : Hid (∀ W, Below w.heap.size w W → Calls Try.prog 64 #[.slice a n c] W fun e w' => ∃ v, e = .returned v ∧ Sc W.heap.size w' v n f ∧ Below W.heap.size W w') := fun W hW => new_sc W a n c f hn hh (hb.later hW)
  have H : Hid (∀ W B v, Below w.heap.size w W → w.heap.size < B → B ≤ W.heap.size → Sc B W v n f → Calls Try.prog G (#[v] ++ cap) W fun e W' => ((∃ m g, e = .returned (.tuple #[]) ∧ Sc B W' v m g ∧ Done W' (if m = 0 then 0 else 2)) ∨ (∃ er, e = .panicked [{ v := .iface 30 (.int .i64 er), recovered := false }] ∧ Done W' er)) ∧ Mid w.heap.size B W W') := HR
  clear hb HR
  go_enter_defers Try.func32, Try.ntmps32
  have B1 : Hid (Below w.heap.size w (w.alloc (.cells #[.int .i64 0] 30))) := (Below.refl _ _).alloc (Nat.le_refl _) _
  have C1 : Hid ((w.alloc (.cells #[.int .i64 0] 30)).cell? ⟨w.heap.size, 0, none⟩ = some (.int .i64 0)) := new_cell' w _ _ 0 _ rfl
  have Z1 : Hid ((w.alloc (.cells #[.int .i64 0] 30)).frozen? ⟨w.heap.size, 0, none⟩ = false) := by show _ = _; simp [go_sem]
  have E1 : Hid (w.heap.size < (w.alloc (.cells #[.int .i64 0] 30)).heap.size) := by show _ < _; simp
  go_upto_region 1 with fail
  generalize w.alloc (.cells #[.int .i64 0] 30) = w1 at B1 C1 Z1 E1 ⊢
  go_upto_region 3 with (go_at_call 64; refine (NW.out _ B1.out).mono ?_; rintro e w2 ⟨v, rfl, hS, hb2⟩)
  go_upto_region 4 with (refine (H.out w2 w1.heap.size v (bnext B1.out hb2) E1.out hb2.size hS).mono ?_; rintro e w3 ⟨⟨m, g, rfl, hS3, hd⟩ | ⟨er, rfl, hd⟩, hM⟩)
  · have LF : Hid (Calls Try.prog 65 #[v] w3 fun e w' => e = .returned (.int .i64 m) ∧ Below w3.heap.size w3 w') := left_sc' hS3
    have HD : Hid (Done w3 (if m = 0 then 0 else 2)) := hd
    have lt1 := E1.out
    have e3 : w3.heap[w.heap.size]? = w1.heap[w.heap.size]? := (hM.block w.heap.size (Nat.le_refl _) lt1).trans (hb2.block _ lt1)
    have C3 : Hid (w3.cell? ⟨w.heap.size, 0, none⟩ = some (.int .i64 0)) := (World.cell?_of_block (a := ⟨w.heap.size, 0, none⟩) e3).trans C1.out
    have Z3 : Hid (w3.frozen? ⟨w.heap.size, 0, none⟩ = false) := (World.frozen?_of_block (a := ⟨w.heap.size, 0, none⟩) e3).trans Z1.out
    have W3 : Hid (w3.os = w.os ∧ w3.tape = w.tape ∧ w3.output = w.output ∧ w.heap.size < w3.heap.size) := ⟨hM.os.trans (hb2.os.trans B1.out.os), hM.tape.trans (hb2.tape.trans B1.out.tape), hM.output.trans (hb2.output.trans B1.out.output), Nat.lt_of_lt_of_le lt1 (Nat.le_trans hb2.size hM.size)⟩
    clear hS hS3 hd hM e3 lt1
    have c3 := C3.out
    have z3 := Z3.out
    have fin : Hid (∀ w4 er, Below w3.heap.size w3 w4 → er = (if m = 0 then 0 else 2) → Done (w4.setCell ⟨w.heap.size, 0, none⟩ (.int .i64 er)) er ∧ (w4.setCell ⟨w.heap.size, 0, none⟩ (.int .i64 er)).os = w.os ∧ (w4.setCell ⟨w.heap.size, 0, none⟩ (.int .i64 er)).tape = w.tape ∧ (w4.setCell ⟨w.heap.size, 0, none⟩ (.int .i64 er)).output = w.output ∧ w.heap.size ≤ (w4.setCell ⟨w.heap.size, 0, none⟩ (.int .i64 er)).heap.size) := fun w4 er hb he => by
      subst he
      obtain ⟨q1, q2, q3, q4⟩ := W3.out
      refine ⟨hst _ _ _ HD.out q4 (apart_set hb), hb.os.trans q1, hb.tape.trans q2, hb.output.trans q3, by have := hb.size; simp; omega⟩
    by_cases hm : m = 0
    · subst hm
      go_wp2_with (go_at_call 65; refine LF.out.mono ?_; rintro e w4 ⟨rfl, hb4⟩; have c4 := cell_later' c3 hb4; have z4 : w4.frozen? ⟨w.heap.size, 0, none⟩ = false := (hb4.frozen (p := ⟨w.heap.size, 0, none⟩) W3.out.2.2.2).trans Z3.out)
      have hF := fin.out w4 0 hb4 rfl
      have c5 : (w4.setCell ⟨w.heap.size, 0, none⟩ (.int .i64 0)).cell? ⟨w.heap.size, 0, none⟩ = some (.int .i64 0) := World.cell?_setCell_same _ _ _ c4
      generalize w4.setCell ⟨w.heap.size, 0, none⟩ (.int .i64 0) = w5 at hF c5 ⊢
      refine leaves_cons (f := 62) (args := #[.pointer (some ⟨w.heap.size, 0, none⟩)]) (by simp) (by simp [go_sem]) ?_
      refine (catch_idle ⟨w.heap.size, 0, none⟩ _).mono ?_
      rintro e u' w'' ⟨rfl, rfl, rfl⟩
      simp [Leaves, settle, results, Try.results32, go_sem, c5]
      exact hF
    · have hm' : (0 : Int) < m := by omega
      go_wp2_with (go_at_call 65; refine LF.out.mono ?_; rintro e w4 ⟨rfl, hb4⟩; have c4 := cell_later' c3 hb4; have z4 : w4.frozen? ⟨w.heap.size, 0, none⟩ = false := (hb4.frozen (p := ⟨w.heap.size, 0, none⟩) W3.out.2.2.2).trans Z3.out)
      have hF := fin.out w4 2 hb4 (by rw [if_neg hm])
      have c5 : (w4.setCell ⟨w.heap.size, 0, none⟩ (.int .i64 2)).cell? ⟨w.heap.size, 0, none⟩ = some (.int .i64 2) := World.cell?_setCell_same _ _ _ c4
      generalize w4.setCell ⟨w.heap.size, 0, none⟩ (.int .i64 2) = w5 at hF c5 ⊢
      refine leaves_cons (f := 62) (args := #[.pointer (some ⟨w.heap.size, 0, none⟩)]) (by simp) (by simp [go_sem]) ?_
      refine (catch_idle ⟨w.heap.size, 0, none⟩ _).mono ?_
      rintro e u' w'' ⟨rfl, rfl, rfl⟩
      simp [Leaves, settle, results, Try.results32, go_sem, c5]
      exact hF
  · have HD : Hid (Done w3 er) := hd
    have lt1 := E1.out
    have e3 : w3.heap[w.heap.size]? = w1.heap[w.heap.size]? := (hM.block w.heap.size (Nat.le_refl _) lt1).trans (hb2.block _ lt1)
    have C3 : Hid (w3.cell? ⟨w.heap.size, 0, none⟩ = some (.int .i64 0)) := (World.cell?_of_block (a := ⟨w.heap.size, 0, none⟩) e3).trans C1.out
    have Z3 : Hid (w3.frozen? ⟨w.heap.size, 0, none⟩ = false) := (World.frozen?_of_block (a := ⟨w.heap.size, 0, none⟩) e3).trans Z1.out
    have W3 : Hid (w3.os = w.os ∧ w3.tape = w.tape ∧ w3.output = w.output ∧ w.heap.size < w3.heap.size) := ⟨hM.os.trans (hb2.os.trans B1.out.os), hM.tape.trans (hb2.tape.trans B1.out.tape), hM.output.trans (hb2.output.trans B1.out.output), Nat.lt_of_lt_of_le lt1 (Nat.le_trans hb2.size hM.size)⟩
    obtain ⟨q1, q2, q3, q4⟩ := W3.out
    have hF : Done (w3.setCell ⟨w.heap.size, 0, none⟩ (.int .i64 er)) er ∧ (w3.setCell ⟨w.heap.size, 0, none⟩ (.int .i64 er)).os = w.os ∧ (w3.setCell ⟨w.heap.size, 0, none⟩ (.int .i64 er)).tape = w.tape ∧ (w3.setCell ⟨w.heap.size, 0, none⟩ (.int .i64 er)).output = w.output ∧ w.heap.size ≤ (w3.setCell ⟨w.heap.size, 0, none⟩ (.int .i64 er)).heap.size :=
      ⟨hst _ _ _ HD.out q4 (apart_set (Below.refl _ _)), q1, q2, q3, by simp; omega⟩
    have c5 : (w3.setCell ⟨w.heap.size, 0, none⟩ (.int .i64 er)).cell? ⟨w.heap.size, 0, none⟩ = some (.int .i64 er) := World.cell?_setCell_same _ _ _ C3.out
    refine leaves_cons (f := 62) (args := #[.pointer (some ⟨w.heap.size, 0, none⟩)]) (by simp) (by simp [go_sem]) ?_
    refine (catch_fail ⟨w.heap.size, 0, none⟩ 0 er _ C3.out Z3.out).mono ?_
    rintro e u' w'' ⟨rfl, rfl, rfl⟩
    generalize w3.setCell ⟨w.heap.size, 0, none⟩ (.int .i64 er) = w5 at hF c5 ⊢
    simp [Leaves, settle, results, Try.results32, go_sem, c5]
    exact hF
/-- What stands behind Try, in the world W, of the reader's error er: the object lies at P. -/
structure DoneR (w0 : World) (P : Nat) (l : Bs) (W : World) (er : Int) : Prop where
  res : er = (readO l).2
  low : Below w0.heap.size w0 W
  lt : P + 1 < W.heap.size
  ob : er = 0 → ∃ vf vd vn, XAt W P [vf, vd, vn] ∧ Lies (P + 2) W vf vd vn (readO l).1
theorem DoneR.keep {w0 : World} {P : Nat} {l : Bs} {W W' : World} {er : Int} (h : DoneR w0 P l W er) (hP : w0.heap.size ≤ P) (ha : Apart (G1 (P + 1)) W W') : DoneR w0 P l W' er := by
  refine ⟨h.res, ⟨ha.os.trans h.low.os, ha.tape.trans h.low.tape, ha.output.trans h.low.output, Nat.le_trans h.low.size ha.size, fun k hk => (ha.block k (Nat.lt_of_lt_of_le hk h.low.size) (by show ¬ k = P + 1; omega)).trans (h.low.block k hk)⟩, Nat.lt_of_lt_of_le h.lt ha.size, fun e => ?_⟩
  obtain ⟨vf, vd, vn, h1, h2⟩ := h.ob e
  have hl := h.lt
  exact ⟨vf, vd, vn, h1.apart (by omega) ha (by show ¬ P = P + 1; omega), h2.keep ha.size fun k k1 k2 => ha.block k k2 (by show ¬ k = P + 1; omega)⟩
set_option maxRecDepth 100000 in
/-- The reader that Read hands on: it stores what it took at P. -/
theorem read_in {w0 W : World} {P B : Nat} {v : Value} {l : Bs} {cs : List Value} (hS : Sc B W v l.length (gF l)) (hby : Byt l) (hB : B ≤ W.heap.size) (hP : w0.heap.size ≤ P ∧ P + 1 < B) (hX : XAt W P cs) (hc : cs.length = 3) (hlow : Below w0.heap.size w0 W) :
    Calls Try.prog 33 #[v, .pointer (some ⟨P, 0, none⟩)] W fun e W' => ((∃ m g, e = .returned (.tuple #[]) ∧ Sc B W' v m g ∧ DoneR w0 P l W' (if m = 0 then 0 else 2)) ∨ (∃ er, e = failE er ∧ DoneR w0 P l W' er)) ∧ Mid (P + 1) B W W' := by
  obtain ⟨O, hO, hS⟩ := hS
  have hk : Sk O W v l := ⟨⟨gF l, hS, fun _ _ => rfl⟩, hby⟩
  have TK : Hid (Calls Try.prog 34 #[v] W (Took O W v (objR (.good l)) fun x w' u => ∃ vf vd vn, u = .agg #[vf, vd, vn] ∧ Lies W.heap.size w' vf vd vn x)) := tk_object hk
  obtain ⟨g, rfl, hg⟩ := hk.ptr
  have HO : Hid (∀ k, O k → B ≤ k) := hO
  have HP : Hid (w0.heap.size ≤ P ∧ P + 1 < B ∧ B ≤ W.heap.size) := ⟨hP.1, hP.2, hB⟩
  have HX : Hid (XAt W P cs) := hX
  obtain ⟨c0, c1, c2, rfl⟩ : ∃ a b c, cs = [a, b, c] := by
    match cs, hc with
    | [a, b, c], _ => exact ⟨a, b, c, rfl⟩
  have HL : Hid (Below w0.heap.size w0 W) := hlow
  clear hS hk hO hP hB hX hc hlow
  go_enter Try.func33, Try.ntmps33
  go_wp2_with (go_at_call 34; refine TK.out.mono ?_; rintro e w1 ⟨⟨x, b1, u, hr, rfl, ⟨vf, vd, vn, rfl, hl⟩, hS1⟩ | ⟨x, er, hr, rfl⟩, hA1⟩; all_goals (try (obtain ⟨fa, fc, rfl, -, -, -⟩ := LstA.open (id hl.f); obtain ⟨na, nc, rfl, -, -, -⟩ := LstA.open (id hl.n); obtain ⟨D, dn, dc, hD, hG, hE⟩ := id hl.d; obtain ⟨da, dcc, rfl⟩ := own_form hG.own; have HLI := Hid.mk0 hl; clear hl hD hG hE; have hx := HX.out.apart (by have := HP.out; omega) hA1 (fun ho => by have := HO.out _ ho; have := HP.out; omega); have y0 := hx.1 0 _ rfl; have y1 := hx.1 1 _ rfl; have y2 := hx.1 2 _ rfl; have z0 := hx.2 0; have z1 := hx.2 1; have z2 := hx.2 2)))
  · go_end0
    have K := sets3 hx (.slice fa x.funcs.length fc) (.slice da D.length dcc) (.slice na x.notes.length nc)
    generalize (((w1.setCell ⟨P, 0, none⟩ (.slice fa x.funcs.length fc)).setCell ⟨P, 1, none⟩ (.slice da D.length dcc)).setCell ⟨P, 2, none⟩ (.slice na x.notes.length nc)) = w2 at K ⊢
    have hP := HP.out
    have hP1 : ∀ k, O k → ¬ k = P := fun k ho e => by have := HO.out k ho; omega
    have S2 : Sk O w2 (.pointer (some ⟨g, 0, none⟩)) b1 := hS1.keep K.2.size fun k k1 k2 => K.2.block k k1 (hP1 k k2)
    have st := hA1.size
    have s2 := K.2.size
    have lies := (HLI.out.keep s2 fun k k1 k2 => K.2.block k k2 (by show ¬ k = P; omega)).less (E' := P + 2) (by omega)
    have low : Below w0.heap.size w0 w2 := ⟨K.2.os.trans (hA1.os.trans HL.out.os), K.2.tape.trans (hA1.tape.trans HL.out.tape), K.2.output.trans (hA1.output.trans HL.out.output), by have := HL.out.size; omega, fun k hk => ((K.2.block k (by have := HL.out.size; omega) (by show ¬ k = P; omega)).trans (hA1.block k (by have := HL.out.size; omega) fun ho => by have := HO.out k ho; omega)).trans (HL.out.block k hk)⟩
    obtain ⟨⟨f, hs, hf⟩, hy⟩ := S2
    refine ⟨.inl ⟨b1.length, f, rfl, ⟨O, HO.out, hs⟩, ?_⟩, ⟨K.2.os.trans hA1.os, K.2.tape.trans hA1.tape, K.2.output.trans hA1.output, by omega, fun k k1 k2 => (K.2.block k (by omega) (by show ¬ k = P; omega)).trans (hA1.block k (by omega) fun ho => by have := HO.out k ho; omega)⟩⟩
    have hr' := hr.out
    rcases b1 with _ | ⟨y, ys⟩
    · have e : readO l = (x, 0) := by unfold readO; rw [hr']
      exact ⟨by rw [e]; rfl, low, by omega, fun _ => ⟨_, _, _, K.1, by rw [e]; exact lies⟩⟩
    · have e : readO l = (noObj, 2) := by unfold readO; rw [hr']
      exact ⟨by rw [e]; rfl, low, by omega, fun h => by cases h⟩
  · have hP := HP.out
    have s1 := hA1.size
    have e : readO l = (noObj, er) := by unfold readO; rw [hr.out]
    have low : Below w0.heap.size w0 w1 := ⟨hA1.os.trans HL.out.os, hA1.tape.trans HL.out.tape, hA1.output.trans HL.out.output, by have := HL.out.size; omega, fun k hk => (hA1.block k (by have := HL.out.size; omega) fun ho => by have := HO.out k ho; omega).trans (HL.out.block k hk)⟩
    refine ⟨rfl, .inr ⟨er, rfl, ⟨by rw [e], low, by omega, fun h => ?_⟩⟩, ⟨hA1.os, hA1.tape, hA1.output, s1, fun k k1 k2 => hA1.block k (by omega) fun ho => by have := HO.out k ho; omega⟩⟩
    rcases both_obj.1 l er x hr.out with rfl | rfl <;> cases h
set_option maxRecDepth 100000 in
set_option maxHeartbeats 1000000 in
theorem read_all {A : Nat → Prop} {w : World} {v : Value} {l : Bs} (h : IsBytes A w v l) (hl : l.length ≤ 2000000) : Calls Try.prog 15 #[v] w (ReadPost w l) := by
  have hby := h.2
  obtain ⟨a, c, rfl, ⟨hh, hc⟩, hb, -⟩ := h.row
  have HB : Hid (Head a l.length c ∧ Bytes w a l.length (gF l)) := ⟨hh, hb⟩
  have HY : Hid (Byt l ∧ l.length ≤ 2000000) := ⟨hby, hl⟩
  clear h hh hb hc hby hl
  have hmf : ∀ (fn : Fn) (first cap : Array Value) (w : World), (Instr.makeFunc fn first cap).run Try.prog w = .ok (.func fn first cap) w := fun _ _ _ _ => rfl
  go_enter Try.func15, Try.ntmps15
  have X1 := XAt.new w #[.slice none 0 0, .slice none 0 0, .slice none 0 0] 26
  have X2 := XAt.new (w.alloc (.cells #[.slice none 0 0, .slice none 0 0, .slice none 0 0] 26)) #[.slice none 0 0, .slice none 0 0, .slice none 0 0] 26
  have B1 := keep_alloc8 (Below.refl _ w) (.cells #[.slice none 0 0, .slice none 0 0, .slice none 0 0] 26)
  have e1 : (w.alloc (.cells #[.slice none 0 0, .slice none 0 0, .slice none 0 0] 26)).heap.size = w.heap.size + 1 := by simp
  go_upto_region 2 with fail
  generalize w.alloc (.cells #[.slice none 0 0, .slice none 0 0, .slice none 0 0] 26) = w1 at X1 X2 B1 e1 ⊢
  have B2 := keep_alloc8 (Below.refl _ w1) (.cells #[.slice none 0 0, .slice none 0 0, .slice none 0 0] 26)
  have e2 : (w1.alloc (.cells #[.slice none 0 0, .slice none 0 0, .slice none 0 0] 26)).heap.size = w.heap.size + 2 := by simp [e1]
  have X1' := X1.later (by omega) B2
  rw [e1] at X2
  generalize w1.alloc (.cells #[.slice none 0 0, .slice none 0 0, .slice none 0 0] 26) = w2 at X1' X2 B2 e2 ⊢
  have CALL : Hid (Calls Try.prog 32 #[.slice a l.length c, .func (.func 33) #[] #[.pointer (some ⟨w.heap.size + 1, 0, none⟩)]] w2 fun e w' => ∃ er, e = .returned (.int .i64 er) ∧ DoneR w1 (w.heap.size + 1) l w' er ∧ (w'.os = w2.os ∧ w'.tape = w2.tape ∧ w'.output = w2.output ∧ w2.heap.size ≤ w'.heap.size)) := by
    refine try_ob w2 a l.length c (gF l) HY.out.2 HB.out.1 ((HB.out.2.later B1).later B2) 33 (enters Try.func33 (by kernel_rfl) rfl) #[.pointer (some ⟨w.heap.size + 1, 0, none⟩)] (DoneR w1 (w.heap.size + 1) l) ?_ ?_
    · intro W W' er h hlt ha
      rw [e2] at ha
      exact h.keep (by omega) ha
    · intro W B v h1 h2 h3 h4
      have h := read_in (w0 := w1) (P := w.heap.size + 1) h4 HY.out.1 h3 ⟨by omega, by omega⟩ (X2.later (by omega) h1) rfl (bnext B2 h1)
      rw [e2]
      exact h
  have X1R : Hid (∀ W, Below w1.heap.size w1 W → XAt W w.heap.size [.slice none 0 0, .slice none 0 0, .slice none 0 0] ∧ Below w.heap.size w W) := fun W hW => ⟨X1.later (by omega) hW, bnext B1 hW⟩
  have E1 : Hid (w1.heap.size = w.heap.size + 1) := e1
  clear X1 X1' X2 B1 B2 e1 e2
  go_upto_region 3 with (go_at_call 32; refine CALL.out.mono ?_; rintro e w3 ⟨er, rfl, hD, -⟩)
  obtain ⟨x1, low⟩ := X1R.out w3 hD.low
  have HD : Hid (DoneR w1 (w.heap.size + 1) l w3 er) := hD
  have HX : Hid (XAt w3 w.heap.size [.slice none 0 0, .slice none 0 0, .slice none 0 0]) := x1
  have HLOW : Hid (Below w.heap.size w w3) := low
  have r0 := x1.1 0 _ rfl
  have r1 := x1.1 1 _ rfl
  have r2 := x1.1 2 _ rfl
  have z0 := x1.2 0
  have z1 := x1.2 1
  have z2 := x1.2 2
  clear x1 low CALL X1R
  by_cases h0 : er = 0
  · subst h0
    obtain ⟨vf, vd, vn, hp, hl⟩ := hD.ob rfl
    have hr := hD.res
    clear hD
    obtain ⟨fa, fc, rfl, -, -, -⟩ := LstA.open (id hl.f)
    obtain ⟨na, nc, rfl, -, -, -⟩ := LstA.open (id hl.n)
    obtain ⟨D, dn, dc, hD, hG, hE⟩ := id hl.d
    obtain ⟨da, dcc, rfl⟩ := own_form hG.own
    have HLI := Hid.mk0 hl
    have HR := Hid.mk0 hr
    have y0 := hp.1 0 _ rfl
    have y1 := hp.1 1 _ rfl
    have y2 := hp.1 2 _ rfl
    clear hl hD hG hE hr hp
    go_wp2
    have K := sets3 HX.out (.slice fa (readO l).1.funcs.length fc) (.slice da D.length dcc) (.slice na (readO l).1.notes.length nc)
    have s5 := K.2.size
    have le := HLI.out.keep s5 fun k k1 k2 => K.2.block k k2 (by show ¬ k = w.heap.size; omega)
    refine bodyPost_ret (v := .tuple #[.agg #[.slice fa (readO l).1.funcs.length fc, .slice da D.length dcc, .slice na (readO l).1.notes.length nc], .int .i64 0]) (results_obj Try.results15 _ w.heap.size (by first | rfl | simp) _ (by first | rfl | simp) _ _ _ _ K.1) rfl ⟨⟨_, by rw [← HR.out], (le.less (E' := w.heap.size) (by omega)).obj, le.loose⟩, HLOW.out.trans ?_⟩
    exact Apart.low K.2 (B := w.heap.size) (fun k hk => by have e : k = w.heap.size := hk; omega) (by have := HLOW.out.size; omega)
  · have hr := hD.res
    have h1 : (er != 0) = true := by simpa using h0
    have hn : (readO l).1 = noObj := (read_kind l).2 (by rw [← hr]; exact h0)
    have HR : Hid (er = (readO l).2 ∧ (readO l).1 = noObj) := ⟨hr, hn⟩
    clear hD hr hn
    go_wp2
    have K := sets3 HX.out (.slice none 0 0) (.slice none 0 0) (.slice none 0 0)
    refine bodyPost_ret (v := .tuple #[.agg #[.slice none 0 0, .slice none 0 0, .slice none 0 0], .int .i64 er]) (results_obj Try.results15 _ w.heap.size (by first | rfl | simp) _ (by first | rfl | simp) _ _ _ _ K.1) rfl ⟨⟨_, by rw [← HR.out.1], by rw [HR.out.2]; exact nil_obj9 _ _, ?_⟩, HLOW.out.trans ?_⟩
    · intro uf ud un e bb off m cc e2 i hi
      simp only [Value.agg.injEq, Array.mk.injEq, List.cons.injEq, and_true] at e
      rw [← e.2.1] at e2
      cases e2
    · exact Apart.low K.2 (B := w.heap.size) (fun k hk => by have e : k = w.heap.size := hk; omega) (by have := HLOW.out.size; omega)
end Go.Proofs.Ytcbhnpjaaaefiaa
