/- What the document's own Read returns. -/
import Derived.Test.YtcbhnpjaaaefiaaObjGr
import Derived.Test.YtcbhnpjaaaefiaaObjSpec
import Derived.Deep.CutBlock
import Derived.Deep.LoopGhost
import Derived.Deep.RegionHeld3
import Derived.Deep.RegionLaw
import Derived.Deep.MidRow
namespace Go.Proofs.Ytcbhnpjaaaefiaa
open Go.ChangeShapes Go.WideShapes Go.ChangeAt Go.RowKit
set_option linter.unusedVariables false
set_option linter.unusedSimpArgs false
theorem Rd.fin {B Z : Nat} {w : World} {g : Nat} {b : Bs} (h : Rd B Z w g (.good b)) : ∃ i : Nat, w.cell? ⟨g, 1, none⟩ = some (.int .i64 i) ∧ w.cell? ⟨g, 2, none⟩ = some (.int .i64 0) ∧ (i ≤ Z ∧ b.length = Z - i) ∧ w.frozen? ⟨g, 2, none⟩ = false := by
  obtain ⟨a, c, i, F, er, ⟨h0, h1, h2⟩, ⟨z1, z2⟩, _, _, hi, hs⟩ := h
  obtain ⟨rfl, hl, _⟩ := hs
  exact ⟨i, h1, h2, ⟨hi.1, hl⟩, z2⟩
theorem head_dec {l : Bs} (h : Byt l) : (textL l = ⟨#[83, 80, 76, 49]⟩) ↔ l = splL := by
  have e : (⟨#[83, 80, 76, 49]⟩ : ByteArray) = textL splL := by decide +kernel
  rw [e]
  refine ⟨fun q => ?_, fun q => by rw [q]⟩
  rw [← bytes_textL l h, q]; decide +kernel
theorem text_spl (t : ByteArray) : (t.toList == [83, 80, 76, 49]) = true ↔ t = ⟨#[83, 80, 76, 49]⟩ := by
  have h := str_beq t ⟨#[83, 80, 76, 49]⟩
  rw [ByteArray.toList_eq ⟨#[83, 80, 76, 49]⟩] at h
  exact h
def nil3 : List Value := [.slice none 0 0, .slice none 0 0, .slice none 0 0]
def rest1 (r : List FuncM × St) : ObjM × St := bindR (listR 64 dataR) (fun d => bindR (listR 64 noteR) fun n => pureR ⟨r.1, d, n⟩) r.2
def rest2 (F : List FuncM) (r : List DataM × St) : ObjM × St := bindR (listR 64 noteR) (fun n => pureR ⟨F, r.1, n⟩) r.2
def rest3 (F : List FuncM) (D : List DataM) (r : List NoteM × St) : ObjM × St := (⟨F, D, r.1⟩, r.2)
theorem objR_1 (l : Bs) : objR (.good l) = rest1 (timesR funcR (countR 64 (headR (.good l)).2).1.toNat (countR 64 (headR (.good l)).2).2) := rfl
theorem rest_2 (F : List FuncM) (s : St) : rest1 (F, s) = rest2 F (timesR dataR (countR 64 s).1.toNat (countR 64 s).2) := rfl
theorem rest_3 (F : List FuncM) (D : List DataM) (s : St) : rest2 F (D, s) = rest3 F D (timesR noteR (countR 64 s).1.toNat (countR 64 s).2) := rfl
/-- The result is empty yet. -/
def KR (R : Nat) (W : World) : Prop := XAt W R nil3 ∧ R < W.heap.size
theorem KR.stable {R g X : Nat} (h1 : R ≠ g) (h2 : R ≠ X) : Stable g X (KR R) := stable_xat h1 h2
theorem KR.under {R g O b : Nat} (h1 : R ≠ g) (h2 : R ≠ O) (h3 : R < b) : Under g O b (KR R) := fun W W' k q1 q2 => ⟨k.1.keep (q2 R k.2 h3 h1 h2), Nat.lt_of_lt_of_le k.2 q1⟩
theorem Hid.mkR {P : Prop} (h : P) : Hid P := h
theorem infoFunc : (Try.prog.info? 49).map (fun i => (i.zero, i.size, i.bytes)) = some (some (.agg #[.string ⟨#[]⟩, .int .i64 0, .slice none 0 0, .slice none 0 0]), 4, 72) := by kernel_rfl
theorem infoU32 : (Try.prog.info? 61).map (fun i => (i.zero, i.size, i.bytes)) = some (some (.int .u32 0), 1, 4) := by kernel_rfl
def tailF (nm : ByteArray) (bd : Int) (r : List Int × St) : FuncM × St := (⟨nm, bd, r.1, (listR 64 relR r.2).1⟩, (listR 64 relR r.2).2)
theorem funcR_1 (b : Bs) : funcR (.good b) = tailF (nameR (.good b)).1 (numR 1 (nameR (.good b)).2).1 (timesR (numR 4) (countR 2000 (mustR (decide (0 < (numR 1 (nameR (.good b)).2).1)) (numR 1 (nameR (.good b)).2).2).2).1.toNat (countR 2000 (mustR (decide (0 < (numR 1 (nameR (.good b)).2).1)) (numR 1 (nameR (.good b)).2).2).2).2) := rfl
theorem infoData : (Try.prog.info? 44).map (fun i => (i.zero, i.size, i.bytes)) = some (some (.agg #[.string ⟨#[]⟩, .int .i64 0, .int .i64 0, .bool false, .int .i64 0, .slice none 0 0, .slice none 0 0]), 7, 96) := by kernel_rfl
theorem infoNote : (Try.prog.info? 46).map (fun i => (i.zero, i.size, i.bytes)) = some (some (.agg #[.string ⟨#[]⟩, .int .i64 0]), 2, 24) := by kernel_rfl
def dT (nm : ByteArray) (bd al fx sz : Int) (r : Bs × St) : DataM × St := (⟨nm, bd, al, decide (fx = 1), sz, r.1, (listR 64 relR r.2).1⟩, (listR 64 relR r.2).2)
def d3 (nm : ByteArray) (bd al fx : Int) (r : Int × St) : DataM × St := dT nm bd al fx r.1 (takeR (countR 4096 r.2).1.toNat (countR 4096 r.2).2)
def d2 (nm : ByteArray) (bd al : Int) (r : Int × St) : DataM × St := d3 nm bd al r.1 (numR 2 (mustR (decide (r.1 ≤ 1)) r.2).2)
def d1 (nm : ByteArray) (bd : Int) (r : Int × St) : DataM × St := d2 nm bd r.1 (numR 1 r.2)
def d0 (nm : ByteArray) (r : Int × St) : DataM × St := d1 nm r.1 (numR 1 (mustR (decide (0 < r.1)) r.2).2)
def dN (r : ByteArray × St) : DataM × St := d0 r.1 (numR 1 r.2)
theorem dataR_1 (b : Bs) : dataR (.good b) = dN (nameR (.good b)) := rfl
def nN (r : ByteArray × St) : NoteM × St := (⟨r.1, (numR 1 r.2).1⟩, (numR 1 r.2).2)
theorem noteR_1 (b : Bs) : noteR (.good b) = nN (nameR (.good b)) := rfl
theorem times_bad' {α : Type} (f : Rdr α) (n : Nat) (e : Int) (l : List α) : (l ++ (timesR f n (.bad e)).1, (timesR f n (.bad e)).2) = (l, .bad e) := by rw [times_bad, List.append_nil]
theorem times_nil {α : Type} (f : Rdr α) (s : St) (l : List α) : (l ++ (timesR f 0 s).1, (timesR f 0 s).2) = (l, s) := by show (l ++ [], s) = _; rw [List.append_nil]
theorem times_next {α : Type} {f : Rdr α} {j : Nat} {b : Bs} {t : St} {x : α} {l : List α} {R : List α × St} (h : R = (l ++ (timesR f (j + 1) (.good b)).1, (timesR f (j + 1) (.good b)).2)) (hx : f (.good b) = (x, t)) : R = ((l ++ [x]) ++ (timesR f j t).1, (timesR f j t).2) := by
  rw [h, times_good, hx, List.append_assoc]; rfl
theorem results_obj {fn : Func} {p q : Tmp} (h : fn.results = #[.cell p 26, .tmp q]) (tmps : Array Value) (g : Nat) (hp : tmps.getD p undef = .pointer (some ⟨g, 0, none⟩)) (x : Value) (hq : tmps.getD q undef = x) (W : World) (a b c : Value) (hA : XAt W g [a, b, c]) :
    (results fn tmps).run Try.prog W = .ok (.tuple #[.agg #[a, b, c], x]) W := by
  have hp' : tmps[p]?.getD undef = .pointer (some ⟨g, 0, none⟩) := by simpa using hp
  have hq' : tmps[q]?.getD undef = x := by simpa using hq
  have e := run_loadVar_mid (P := Try.prog) W g 0 26 [a, b, c] _ (fun j v hv => by rw [Nat.zero_add]; exact hA.1 j v hv) Try.underlying26 rfl (by kernel_rfl)
  simp [results, h, hp', hq', asAddr, e]
theorem set3 {W : World} {R : Nat} (h : XAt W R nil3) (a b c : Value) : XAt (((W.setCell ⟨R, 0, none⟩ a).setCell ⟨R, 1, none⟩ b).setCell ⟨R, 2, none⟩ c) R [a, b, c] :=
  ((h.set 0 (by simp [nil3]) a).set 1 (by simp [nil3]) b).set 2 (by simp [nil3]) c
theorem low3 {B R : Nat} {W0 W : World} (h : Below B W0 W) (hR : B ≤ R) (a b c : Value) : Below B W0 (((W.setCell ⟨R, 0, none⟩ a).setCell ⟨R, 1, none⟩ b).setCell ⟨R, 2, none⟩ c) :=
  ((h.trans (low_set a hR)).trans (low_set b hR)).trans (low_set c hR)
theorem nil_obj9 (A : Nat → Prop) (w : World) : IsObj A w (.agg #[.slice none 0 0, .slice none 0 0, .slice none 0 0]) noObj := ⟨_, _, _, rfl, LstA.nil, LstA.nil, LstA.nil⟩
theorem fresh3 {W : World} {R O : Nat} {u : Value} {p : ObjM} {a b c : Value} (h : IsObj (fun k => O < k ∧ k < W.heap.size) W u p) (hR : R < O) : IsObj (Fresh R (((W.setCell ⟨R, 0, none⟩ a).setCell ⟨R, 1, none⟩ b).setCell ⟨R, 2, none⟩ c)) (((W.setCell ⟨R, 0, none⟩ a).setCell ⟨R, 1, none⟩ b).setCell ⟨R, 2, none⟩ c) u p := by
  refine IsObj.wide (h.keep fun k hA hk => ?_) fun k hA => ⟨by omega, by simpa using hA.2⟩
  have n : k ≠ R := by omega
  exact ((Below.heap_setCell _ _ _ _ n).trans (Below.heap_setCell _ _ _ _ n)).trans (Below.heap_setCell _ _ _ _ n)
theorem start9 (w : World) (a : Option Addr) (c : Nat) (l : Bs) (HB : Head a l.length c ∧ Bytes w a l.length (gF l)) (hl : l.length ≤ 20000) (t t' t'' : TypeId) :
    Lq (w.heap.size + 1 + 1) l.length w (w.heap.size + 1) (w.heap.size + 1 + 1) (KR w.heap.size) (.good l) nil3 (((w.alloc (.cells #[.slice none 0 0, .slice none 0 0, .slice none 0 0] t)).alloc (.cells #[.slice a l.length c, .int .i64 0, .int .i64 0] t')).alloc (.cells #[.slice none 0 0, .slice none 0 0, .slice none 0 0] t'')) := by
  have b1 := keep_alloc8 (Below.refl _ w) (.cells #[.slice none 0 0, .slice none 0 0, .slice none 0 0] t)
  have x1 := XAt.new w #[.slice none 0 0, .slice none 0 0, .slice none 0 0] t
  have e1 : (w.alloc (.cells #[.slice none 0 0, .slice none 0 0, .slice none 0 0] t)).heap.size = w.heap.size + 1 := by simp
  generalize w.alloc (.cells #[.slice none 0 0, .slice none 0 0, .slice none 0 0] t) = w1 at *
  have b2 := keep_alloc8 (Below.refl _ w1) (.cells #[.slice a l.length c, .int .i64 0, .int .i64 0] t')
  have x2 := XAt.new w1 #[.slice a l.length c, .int .i64 0, .int .i64 0] t'
  have e2 : (w1.alloc (.cells #[.slice a l.length c, .int .i64 0, .int .i64 0] t')).heap.size = w.heap.size + 1 + 1 := by simp [e1]
  rw [e1] at x2
  generalize w1.alloc (.cells #[.slice a l.length c, .int .i64 0, .int .i64 0] t') = w2 at *
  have b3 := keep_alloc8 (Below.refl _ w2) (.cells #[.slice none 0 0, .slice none 0 0, .slice none 0 0] t'')
  have x3 := XAt.new w2 #[.slice none 0 0, .slice none 0 0, .slice none 0 0] t''
  have e3 : (w2.alloc (.cells #[.slice none 0 0, .slice none 0 0, .slice none 0 0] t'')).heap.size = w.heap.size + 1 + 1 + 1 := by simp [e2]
  rw [e2] at x3
  generalize w2.alloc (.cells #[.slice none 0 0, .slice none 0 0, .slice none 0 0] t'') = w3 at *
  have r2 : Rd (w.heap.size + 1 + 1) l.length w2 (w.heap.size + 1) (.good l) := by
    refine ⟨a, c, 0, gF l, 0, ⟨x2.1 0 _ rfl, x2.1 1 _ rfl, x2.1 2 _ rfl⟩, ⟨x2.2 1, x2.2 2⟩, ⟨HB.1, (HB.2.later b1).later b2⟩, ⟨fun x e hn => ?_, by omega, by omega⟩, ⟨Nat.zero_le _, hl⟩, rfl, by omega, fun j _ => rfl⟩
    rcases HB.2.2 with h0 | ⟨b, off, e', hc⟩
    · exact absurd h0 hn
    · rw [e'] at e; cases e
      have := World.block_lt_of_cell? w ⟨b, off + 0, none⟩ (hc 0 (by omega))
      have h2 : b < w.heap.size := this
      exact ⟨by show b ≠ _; omega, by show b < _; omega⟩
  refine ⟨r2.later b3, x3, ⟨(x1.later (by omega) b2).later (by omega) b3, by omega⟩, bnext b1 (bnext b2 b3), by omega, ⟨Nat.le_refl _, by omega, by omega⟩⟩
set_option maxRecDepth 100000 in
set_option maxHeartbeats 4000000 in
theorem rread9 {A : Nat → Prop} {w : World} {v : Value} {l : Bs} (h : IsBytes A w v l) (hl : l.length ≤ 20000) :
    Calls Try.prog 16 #[v] w fun e w' => (∃ u, e = .returned (.tuple #[u, .int .i64 (readO l).2]) ∧ IsObj (Fresh w.heap.size w') w' u (readO l).1) ∧ Below w.heap.size w w' := by
  have hby := h.2
  obtain ⟨a, c, rfl, ⟨hh, hc⟩, hb, -⟩ := h.row
  have HB : Hid (Head a l.length c ∧ Bytes w a l.length (gF l)) := ⟨hh, hb⟩
  have HY : Hid (Byt l) := hby
  have HL : Hid (l.length ≤ 20000) := hl
  clear hh hb hc h hby
  go_enter Try.func16, Try.ntmps16
  go_upto_region 3 with fail
  have L0 := start9 w a c l HB.out HL.out 26 69 26
  obtain ⟨g, eg⟩ : ∃ g, w.heap.size + 1 = g := ⟨_, rfl⟩
  rw [eg] at L0 ⊢
  obtain ⟨O, eO⟩ : ∃ O, g + 1 = O := ⟨_, rfl⟩
  rw [eO] at L0 ⊢
  have HG : Hid (w.heap.size + 1 = g ∧ g + 1 = O) := ⟨eg, eO⟩
  have SR : Hid (∀ X, w.heap.size ≠ X → Stable g X (KR w.heap.size)) := fun X hX => KR.stable (by have := HG.out; omega) hX
  have SO : Hid (Stable g O (KR w.heap.size)) := SR.out O (by have := HG.out; omega)
  clear eg eO
  generalize ((w.alloc (.cells #[.slice none 0 0, .slice none 0 0, .slice none 0 0] 26)).alloc (.cells #[.slice a l.length c, .int .i64 0, .int .i64 0] 69)).alloc (.cells #[.slice none 0 0, .slice none 0 0, .slice none 0 0] 26) = w3 at L0 ⊢
  obtain ⟨Z, eZ⟩ : ∃ Z, l.length = Z := ⟨_, rfl⟩
  rw [eZ] at L0 ⊢
  have HZ : Hid (l.length = Z) := eZ
  have HEQ : Hid (objR (.good l) = rest1 (timesR funcR (countR 64 (headR (.good l)).2).1.toNat (countR 64 (headR (.good l)).2).2)) := objR_1 l
  have TK : Hid (Calls Try.prog 36 #[.pointer (some ⟨g, 0, none⟩), .int .i64 4] w3 fun e w' => ∃ a c, e = .returned (.slice a 4 c) ∧ (Head a 4 c ∧ Bytes w' a 4 (gF (takeR 4 (.good l)).1)) ∧ (∀ x, a = some x → 4 ≠ 0 → x.block ≠ g) ∧ Rd O Z w' g (takeR 4 (.good l)).2 ∧ Apart (G1 g) w3 w') := rd_take L0.rd 4 (by omega)
  have hy4 : Byt (takeR 4 (.good l)).1 := by
    unfold takeR; dsimp only; split
    · exact fun x hx => HY.out x (List.mem_of_mem_take hx)
    · intro x hx; simp at hx; omega
  have CV : Hid (∀ W a c, Bytes W a 4 (gF (takeR 4 (.good l)).1) → (convert 29 9 (.slice a 4 c)).run Try.prog W = .ok (.string (textL (takeR 4 (.good l)).1)) W) := fun W a c hb => by
    have h := text_conv W a 4 c _ hb
    rwa [← (show textL (takeR 4 (.good l)).1 = textF 4 (gF (takeR 4 (.good l)).1) by rw [textL_gF, take_len])] at h
  have MU : Hid (∀ W b, Rd O Z W g (takeR 4 (.good l)).2 → Calls Try.prog 35 #[.pointer (some ⟨g, 0, none⟩), .bool b] W fun e w' => e = .returned (.tuple #[]) ∧ Rd O Z w' g (mustR b (takeR 4 (.good l)).2).2 ∧ Apart (G1 g) W w') := fun W b hW => rd_must hW b
  have eh : (mustR ((textL (takeR 4 (.good l)).1).toList == [83, 80, 76, 49]) (takeR 4 (.good l)).2).2 = (headR (.good l)).2 := by
    have : (headR (.good l)).2 = (mustR (decide ((takeR 4 (.good l)).1 = splL)) (takeR 4 (.good l)).2).2 := rfl
    rw [this]
    congr 2
    have k := text_spl (textL (takeR 4 (.good l)).1)
    have := (head_dec hy4).symm.trans k.symm
    by_cases q : (takeR 4 (.good l)).1 = splL
    · rw [decide_eq_true q]; exact this.mp q
    · rw [decide_eq_false q]
      refine Bool.eq_false_iff.mpr fun q' => q (this.mpr q')
  have EH : Hid ((mustR ((textL (takeR 4 (.good l)).1).toList == [83, 80, 76, 49]) (takeR 4 (.good l)).2).2 = (headR (.good l)).2) := eh
  clear hy4 eh
  generalize (takeR 4 (.good l)).1 = tk at *
  generalize (takeR 4 (.good l)).2 = s1 at *
  generalize textL tk = tx at *
  generalize gF tk = tf at *
  go_upto_region 4 with (first
    | (go_at_call 36; refine TK.out.mono ?_; rintro e w4 ⟨a4, c4, rfl, ⟨hh4, hb4⟩, -, hr4, hA4⟩; have cv := CV.out w4 a4 c4 hb4; have L4 := L0.call SO.out hr4 hA4)
    | (go_at_call 35; refine (MU.out w4 _ hr4).mono ?_; rintro e w5 ⟨rfl, hr5, hA5⟩; rw [EH.out] at hr5; have L5 := L4.call SO.out hr5 hA5))
  clear cv hr4 hA4 hr5 hA5 L4 L0 hh4 hb4 EH MU CV TK
  generalize (headR (.good l)).2 = s2 at *
  have CT : Hid (Calls Try.prog 37 #[.pointer (some ⟨g, 0, none⟩), .int .i64 64] w5 fun e w' => e = .returned (.int .i64 (countR 64 s2).1) ∧ Rd O Z w' g (countR 64 s2).2 ∧ Apart (G1 g) w5 w') := rd_count L5.rd 64 (by omega)
  have bd := countR_bd (m := 64) L5.rd.good_byt
  obtain ⟨N, eN⟩ := Int.eq_ofNat_of_zero_le bd.1
  rw [eN] at CT bd
  have HEQ1 : Hid (objR (.good l) = rest1 (timesR funcR N (countR 64 s2).2)) := by have h := HEQ.out; rw [eN, Int.toNat_natCast] at h; exact h
  have HN : Hid (N ≤ 65535) := by have := bd.2; unfold Hid; omega
  clear eN bd HEQ
  generalize (countR 64 s2).2 = s3 at *
  go_upto_region 5 with (go_at_call 37; refine CT.out.mono ?_; rintro e w6 ⟨rfl, hr6, hA6⟩; have L6 := L5.call SO.out hr6 hA6)
  clear hr6 hA6 L5 CT
  have HU : Hid (Under g O (O + 1) (KR w.heap.size)) := KR.under (by have := HG.out; omega) (by have := HG.out; omega) (by have := HG.out; omega)
  have L7 : Lq O Z w g O (fun W => KR w.heap.size W ∧ Gr FE fxC 49 4 (O + 1) (O + 1) (.slice none 0 0) [] W) s3 [.slice none 0 0, .slice none 0 0, .slice none 0 0] w6 := ⟨L6.rd, L6.xa, ⟨L6.k, Gr.nil (by have := L6.lt; omega)⟩, L6.low, L6.lt, L6.hx⟩
  go_upto_block 0 with fail
  go_cut [7, 8, 9, 10] from 28 to 82 (fun p1 p2 p3 p4 wx => ∃ (L : List FX) (v : Value) (n : Nat) (s4 : St), timesR funcR N s3 = (L.map Prod.fst, s4) ∧ L.length ≤ 65535 ∧ Lq O Z w g O (fun W => KR w.heap.size W ∧ Gr FE fxC 49 4 (O + 1) n v L W) s4 [v, .slice none 0 0, .slice none 0 0] wx)
  case first =>
    clear HEQ1 L6
    go_wp2_with fail
    go_loopg [7] N (fun gk p wr => ∃ (k : Nat) (L : List FX) (v : Value) (n : Nat) (t : St), k + gk = N ∧ p = .int .i64 k ∧ L.length = k ∧ Lq O Z w g O (fun W => KR w.heap.size W ∧ Gr FE fxC 49 4 (O + 1) n v L W) t [v, .slice none 0 0, .slice none 0 0] wr ∧ timesR funcR N s3 = (L.map Prod.fst ++ (timesR funcR gk t).1, (timesR funcR gk t).2))
    case atStart => exact ⟨0, [], .slice none 0 0, O + 1, s3, by omega, rfl, rfl, L7, rfl⟩
    case round =>
      obtain ⟨k, L, v, n, t, hk, rfl, hL, hq, htm⟩ := hrel
      have HQ : Hid (Lq O Z w g O (fun W => KR w.heap.size W ∧ Gr FE fxC 49 4 (O + 1) n v L W) t [v, .slice none 0 0, .slice none 0 0] wr) := hq
      have HTM : Hid (timesR funcR N s3 = (L.map Prod.fst ++ (timesR funcR gk t).1, (timesR funcR gk t).2)) := htm
      have HL2 : Hid (L.length = k ∧ N ≤ 65535) := ⟨hL, HN.out⟩
      clear htm hL L7
      rcases gk with _ | j
      · obtain rfl : k = N := by omega
        clear hq
        go_wp2
        go_meet
        exact ⟨L, v, n, t, by rw [HTM.out, times_nil], by have := HL2.out; omega, HQ.out⟩
      · have hlt : (k : Int) < N := by omega
        rcases hq.rd.code with ⟨b, rfl, hc⟩ | ⟨e, rfl, hc, ne⟩
        rotate_left
        · clear hq
          go_wp2
          go_meet
          exact ⟨L, v, n, .bad e, by rw [HTM.out, times_bad'], by have := HL2.out; omega, HQ.out⟩
        · obtain ⟨a0, c0, rfl⟩ := own_form hq.k.2.own
          clear hq
          obtain ⟨K1, OUT, UK, LX, HX⟩ := HQ.out.enter FE.ek HU.out (Nat.lt_succ_self O) #[.string ⟨#[]⟩, .int .i64 0, .slice none 0 0, .slice none 0 0] 49
          go_upto_region 9 with fail
          generalize wr.alloc (.cells #[.string ⟨#[]⟩, .int .i64 0, .slice none 0 0, .slice none 0 0] 49) = w7 at LX ⊢
          generalize wr.heap.size = X at UK LX HX ⊢
          clear hc
          have HOUT : Hid (∀ V, K1 V → (KR w.heap.size V ∧ Gr FE fxC 49 4 (O + 1) n (.slice a0 L.length c0) L V) ∧ XAt V O [.slice a0 L.length c0, .slice none 0 0, .slice none 0 0] ∧ O < V.heap.size) := OUT
          have HUK : Hid (Under g X (X + 1) K1) := UK
          have SK : Hid (Stable g X K1) := UK.stable (.inl rfl)
          have HXX : Hid (n ≤ X ∧ O < X ∧ g < O ∧ O + 1 ≤ n) := HX
          clear OUT UK HX HQ
          obtain ⟨nm, A1⟩ : ∃ x, (nameR (.good b)).1 = x := ⟨_, rfl⟩
          obtain ⟨t1, T1⟩ : ∃ x, (nameR (.good b)).2 = x := ⟨_, rfl⟩
          obtain ⟨bd, A2⟩ : ∃ x, (numR 1 t1).1 = x := ⟨_, rfl⟩
          obtain ⟨t2, T2⟩ : ∃ x, (numR 1 t1).2 = x := ⟨_, rfl⟩
          have HF : Hid (funcR (.good b) = tailF nm bd (timesR (numR 4) (countR 2000 (mustR (decide (0 < bd)) t2).2).1.toNat (countR 2000 (mustR (decide (0 < bd)) t2).2).2)) := by rw [← A1, ← A2, ← T2, ← T1]; exact funcR_1 b
          have C1 : Hid (Calls Try.prog 38 #[.pointer (some ⟨g, 0, none⟩)] w7 fun e w' => e = .returned (.string nm) ∧ Rd O Z w' g t1 ∧ Apart (G1 g) w7 w') := by rw [← A1, ← T1]; exact rd_name LX.rd
          have S1 : Hid (nm.size ≤ 255) := by rw [← A1]; exact nameR_size LX.rd.good_byt
          have C2 : Hid (∀ W, Rd O Z W g t1 → Calls Try.prog 39 #[.pointer (some ⟨g, 0, none⟩), .int .i64 1] W fun e w' => e = .returned (.int .i64 bd) ∧ Rd O Z w' g t2 ∧ Apart (G1 g) W w') := fun W h => by rw [← A2, ← T2]; exact rd_num h 1 (by omega) (by omega)
          have C3 : Hid (∀ W bb, Rd O Z W g t2 → Calls Try.prog 35 #[.pointer (some ⟨g, 0, none⟩), .bool bb] W fun e w' => e = .returned (.tuple #[]) ∧ Rd O Z w' g (mustR bb t2).2 ∧ Apart (G1 g) W w') := fun W bb h => rd_must h bb
          clear A1 T1 A2 T2
          go_upto_region 10 with (go_at_call 38; refine C1.out.mono ?_; rintro e w8 ⟨rfl, hR, hA⟩; have L1 := LX.call SK.out hR hA; have xx := L1.xa.1 0 _ rfl; have zz := L1.xa.2 0)
          have L1' := L1.set SK.out 0 (by simp) (.string nm)
          clear xx zz hR hA L1 LX C1
          generalize w8.setCell ⟨X, 0, none⟩ (.string nm) = w8' at L1' ⊢
          go_upto_region 11 with (go_at_call 39; refine (C2.out _ L1'.rd).mono ?_; rintro e w9 ⟨rfl, hR, hA⟩; have L2 := L1'.call SK.out hR hA; have xx := L2.xa.1 1 _ rfl; have zz := L2.xa.2 1)
          have L2' := L2.set SK.out 1 (by simp) (.int .i64 bd)
          clear xx zz hR hA L1' L2 C2
          generalize w9.setCell ⟨X, 1, none⟩ (.int .i64 bd) = w9' at L2' ⊢
          have xx := L2'.xa.1 1 _ rfl
          go_upto_region 12 with (go_at_call 35; refine (C3.out _ (decide (0 < bd)) L2'.rd).mono ?_; rintro e w10 ⟨rfl, hR, hA⟩; have L3 := L2'.call SK.out hR hA)
          clear xx hR hA L2' C3
          generalize (mustR (decide (0 < bd)) t2).2 = t3 at L3 HF
          have CT : Hid (Calls Try.prog 37 #[.pointer (some ⟨g, 0, none⟩), .int .i64 2000] w10 fun e w' => e = .returned (.int .i64 (countR 2000 t3).1) ∧ Rd O Z w' g (countR 2000 t3).2 ∧ Apart (G1 g) w10 w') := rd_count L3.rd 2000 (by omega)
          have bd2 := countR_bd (m := 2000) L3.rd.good_byt
          obtain ⟨M, eM⟩ := Int.eq_ofNat_of_zero_le bd2.1
          rw [eM] at CT bd2 HF
          rw [Int.toNat_natCast] at HF
          have HM : Hid (M ≤ 65535) := by have := bd2.2; unfold Hid; omega
          clear eM bd2
          generalize (countR 2000 t3).2 = t4 at *
          go_upto_region 13 with (go_at_call 37; refine CT.out.mono ?_; rintro e w11 ⟨rfl, hR, hA⟩; have L4 := L3.call SK.out hR hA)
          clear hR hA L3 CT
          have L5 : Lq O Z w g X (fun W => K1 W ∧ Gr UE uC 61 1 (X + 1) (X + 1) (.slice none 0 0) [] W) t4 [.string nm, .int .i64 bd, .slice none 0 0, .slice none 0 0] w11 := ⟨L4.rd, L4.xa, ⟨L4.k, Gr.nil (by have := L4.lt; omega)⟩, L4.low, L4.lt, L4.hx⟩
          go_upto_block 2 with fail
          go_cut [10] from 54 to 73 (fun p wx => ∃ (ws : List Int) (v2 : Value) (n2 : Nat) (t5 : St), timesR (numR 4) M t4 = (ws, t5) ∧ Lq O Z w g X (fun W => K1 W ∧ Gr UE uC 61 1 (X + 1) n2 v2 ws W) t5 [.string nm, .int .i64 bd, v2, .slice none 0 0] wx)
          case first =>
            clear L4 HF HTM HL2 S1
            go_wp2_with fail
            go_loopg [10] M (fun gi p wr => ∃ (i : Nat) (ws : List Int) (v2 : Value) (n2 : Nat) (t : St), i + gi = M ∧ p = .int .i64 i ∧ ws.length = i ∧ Lq O Z w g X (fun W => K1 W ∧ Gr UE uC 61 1 (X + 1) n2 v2 ws W) t [.string nm, .int .i64 bd, v2, .slice none 0 0] wr ∧ timesR (numR 4) M t4 = (ws ++ (timesR (numR 4) gi t).1, (timesR (numR 4) gi t).2))
            case atStart => exact ⟨0, [], .slice none 0 0, X + 1, t4, by omega, rfl, rfl, L5, rfl⟩
            case round =>
              obtain ⟨i, ws, v2, n2, t, hi, rfl, hws, hq, htm⟩ := hrel
              have HQ : Hid (Lq O Z w g X (fun W => K1 W ∧ Gr UE uC 61 1 (X + 1) n2 v2 ws W) t [.string nm, .int .i64 bd, v2, .slice none 0 0] wr) := hq
              have HTM : Hid (timesR (numR 4) M t4 = (ws ++ (timesR (numR 4) gk t).1, (timesR (numR 4) gk t).2)) := htm
              have HW2 : Hid (ws.length = i) := hws
              clear htm hws L5
              rcases gk with _ | gj
              · obtain rfl : i = M := by omega
                clear hq
                go_wp2
                go_meet
                exact ⟨ws, v2, n2, t, by rw [HTM.out, times_nil], HQ.out⟩
              · have hlt2 : (i : Int) < M := by omega
                rcases hq.rd.code with ⟨b2, rfl, hc⟩ | ⟨e, rfl, hc, ne⟩
                rotate_left
                · clear hq
                  go_wp2
                  go_meet
                  exact ⟨ws, v2, n2, .bad e, by rw [HTM.out, times_bad'], HQ.out⟩
                · obtain ⟨a2, c2, rfl⟩ := own_form hq.k.2.own
                  have bx := numR_bd (n := 4) hq.rd.good_byt
                  rw [p256_4] at bx
                  clear hq
                  obtain ⟨x, eX⟩ : ∃ x, (numR 4 (.good b2)).1 = x := ⟨_, rfl⟩
                  obtain ⟨t', eT⟩ : ∃ x, (numR 4 (.good b2)).2 = x := ⟨_, rfl⟩
                  rw [eX] at bx
                  have HWX : Hid (IntKind.u32.wrap x = x) := by unfold Hid; simp [IntKind.wrap, IntKind.bits, IntKind.signed]; omega
                  have HX2 : Hid (numR 4 (.good b2) = (x, t')) := by rw [← eX, ← eT]; exact Hid.mkR rfl
                  have HBX : Hid (0 ≤ x ∧ x < 4294967296) := bx
                  have SK2 : Hid (Stable g X (fun W => K1 W ∧ Gr UE uC 61 1 (X + 1) n2 (.slice a2 ws.length c2) ws W)) := Stable.and SK.out (stable_gr UE.ek (by have := HXX.out; omega) (.inr (by omega)))
                  have CN : Hid (∀ W, Below wr.heap.size wr W → Calls Try.prog 39 #[.pointer (some ⟨g, 0, none⟩), .int .i64 4] W fun e w' => e = .returned (.int .i64 x) ∧ Lq O Z w g X (fun W => K1 W ∧ Gr UE uC 61 1 (X + 1) n2 (.slice a2 ws.length c2) ws W) t' [.string nm, .int .i64 bd, .slice a2 ws.length c2, .slice none 0 0] w') := fun W hW => by
                    have l := HQ.out.later SK2.out hW
                    refine (rd_num l.rd 4 (by omega) (by omega)).mono fun e w' h => ?_
                    rw [eX, eT] at h
                    exact ⟨h.1, l.call SK2.out h.2.1 h.2.2⟩
                  have hx0 := HQ.out.xa.1 2 _ rfl
                  obtain ⟨i1, hi0, hz0, hz1, hz2⟩ := info_parts infoU32
                  clear bx eX eT
                  go_upto_region 16 with fail
                  clear hc
                  go_region_law (first
                    | (refine step_append_one _ (by rfl) (.tmp 67) (.tmp 71) 47 (by rfl) (X + 1) 61 i1 _ 1 4 Try.underlying47 hi0 hz0 hz1 hz2 rfl (by decide) (.slice a2 ws.length c2) ws.length (ws.flatMap uC) (by rfl) LD.k.2.own ⟨w12.heap.size, 0, none⟩ 1 (uC (IntKind.u32.wrap x)) (by rfl) (by rfl) (fun j u hu => news_new w12 #[.int .u32 (IntKind.u32.wrap x)] 61 (uC (IntKind.u32.wrap x)) rfl _ rfl j u hu) (by intro u hu; simp [uC] at hu; subst hu; rfl) (by have := HW2.out; have := HM.out; unfold maxLen; omega) (by have := HW2.out; have := HM.out; omega) (by have := LD.lt; omega) ?_; intro a13 c13 w13 own13 grow13 wh13; rw [HWX.out] at own13; have hXA : XAt w13 X [.string nm, .int .i64 bd, .slice a2 ws.length c2, .slice none 0 0] := LD.xa.keep (grow13.block X LD.lt fun e => by have := (own_oct LD.k.2.own X e.symm).1; omega); have hx13 := hXA.1 2 _ rfl; have zz13 := hXA.2 2)
                    | (go_simp; go_at_call 39; refine (CN.out _ (by repeat' (first | exact Below.refl _ _ | refine keep_drew8 ?_ | refine keep_alloc8 ?_ _))).mono ?_; rintro e w12 ⟨rfl, LC⟩; have LD := LC.later SK2.out (keep_alloc8 (Below.refl _ w12) (.cells #[.int .u32 (IntKind.u32.wrap x)] 61)); have hxC := LC.xa.1 2 _ rfl; have hxD := LD.xa.1 2 _ rfl)
                    | fail)
                  all_goals
                    have hM9 : (M : Int) ≤ 65535 := by have := HM.out; omega
                    go_wp2
                    go_roundg gj
                    case measure => omega
                    case rel => exact ⟨i + 1, ws ++ [x], _, _, t', by omega, by go_num, by rw [List.length_append, HW2.out]; rfl, LD.more UE.ek ⟨LD.hx.1, LD.hx.2.2, by omega, by have := HXX.out; omega⟩ HUK.out LD.k.1 LD.k.2 ⟨LD.xa, LD.lt⟩ (x := x) (A := fun _ => False) HBX.out (fun k hk => hk.elim) own13 grow13 wh13 2 (by simp), times_next HTM.out HX2.out⟩
          case rest =>
            obtain ⟨ws, v2, n2, t5, etm, L6⟩ := hcut
            obtain ⟨a2, c2, rfl⟩ := own_form L6.k.2.own
            have HF2 : Hid (funcR (.good b) = tailF nm bd (ws, t5)) := by rw [← etm]; exact HF.out
            have SK2 : Hid (Stable g X (fun W => K1 W ∧ Gr UE uC 61 1 (X + 1) n2 (.slice a2 ws.length c2) ws W)) := Stable.and SK.out (stable_gr UE.ek (by have := HXX.out; omega) (.inr (by omega)))
            have HWC : Hid (X < wc.heap.size) := L6.lt
            clear L5 L4 etm HF
            obtain ⟨rl, eR⟩ : ∃ x, (listR 64 relR t5).1 = x := ⟨_, rfl⟩
            obtain ⟨t6, eT⟩ : ∃ x, (listR 64 relR t5).2 = x := ⟨_, rfl⟩
            have HF3 : Hid (funcR (.good b) = (⟨nm, bd, ws, rl⟩, t6)) := by rw [← eR, ← eT]; exact HF2.out
            have RL : Hid (Calls Try.prog 40 #[.pointer (some ⟨g, 0, none⟩)] wc fun e w' => ∃ v, e = .returned v ∧ IsRels (fun k => wc.heap.size ≤ k ∧ k < w'.heap.size) w' v rl ∧ Rd O Z w' g t6 ∧ Apart (G1 g) wc w') := by rw [← eR, ← eT]; exact rd_rels L6.rd
            clear eR eT HF2
            go_upto_region 18 with (go_at_call 40; go_must (refine RL.out.mono ?_); go_must (rintro e w13 ⟨vr, rfl, hrl, hR, hA⟩); obtain ⟨ra, rc, rfl, -, -, -⟩ := LstA.open (id hrl); have L7 := L6.call SK2.out hR hA; have xx := L7.xa.1 3 _ rfl; have zz := L7.xa.2 3)
            have L8 := L7.set SK2.out 3 (by simp) (.slice ra rl.length rc)
            have hrl8 : IsRels (fun k => wc.heap.size ≤ k ∧ k < w13.heap.size) (w13.setCell ⟨X, 3, none⟩ (.slice ra rl.length rc)) (.slice ra rl.length rc) rl := hrl.keep fun k hk _ => Below.heap_setCell _ _ _ _ (by have := HWC.out; simp; omega)
            have hsz : (w13.setCell ⟨X, 3, none⟩ (.slice ra rl.length rc)).heap.size = w13.heap.size := by simp
            rw [← hsz] at hrl8
            clear xx zz hR hA L6 L7 RL hrl hsz
            generalize w13.setCell ⟨X, 3, none⟩ (.slice ra rl.length rc) = w14 at L8 hrl8 ⊢
            have HFE : Hid (FE (fun k => X + 1 ≤ k ∧ k < w14.heap.size) w14 (⟨nm, bd, ws, rl⟩, .slice a2 ws.length c2, .slice ra rl.length rc)) := ⟨L8.k.2.words, hrl8.wide (fun k hk => ⟨by have := HWC.out; omega, hk.2⟩), by have := S1.out; show nm.size ≤ maxLen; unfold maxLen; omega⟩
            have hone : ∀ u ∈ fxC (⟨nm, bd, ws, rl⟩, .slice a2 ws.length c2, .slice ra rl.length rc), u.oneCell' = true := by
              intro u hu
              have e1 := words_one HFE.out.1
              have e2 := lst_one HFE.out.2.1
              simp [fxC] at hu
              rcases hu with rfl | rfl | rfl | rfl
              · rfl
              · rfl
              · exact e1
              · exact e2
            have L9 := L8.later SK2.out (keep_alloc8 (Below.refl _ w14) (.cells #[.string nm, .int .i64 bd, .slice a2 ws.length c2, .slice ra rl.length rc] 49))
            have hO := HOUT.out _ L8.k.1
            have o0 := hO.2.1.1 0 _ rfl
            have x0 := L8.xa.1 0 _ rfl
            have x1 := L8.xa.1 1 _ rfl
            have x2 := L8.xa.1 2 _ rfl
            have x3 := L8.xa.1 3 _ rfl
            have L10 : Hid (Lq O Z w g X (fun W => K1 W ∧ Gr UE uC 61 1 (X + 1) n2 (.slice a2 ws.length c2) ws W) t6 [.string nm, .int .i64 bd, .slice a2 ws.length c2, .slice ra rl.length rc] (w14.alloc (.cells #[.string nm, .int .i64 bd, .slice a2 ws.length c2, .slice ra rl.length rc] 49))) := L9
            have HO9 : Hid ((KR w.heap.size (w14.alloc (.cells #[.string nm, .int .i64 bd, .slice a2 ws.length c2, .slice ra rl.length rc] 49)) ∧ Gr FE fxC 49 4 (O + 1) n (.slice a0 L.length c0) L (w14.alloc (.cells #[.string nm, .int .i64 bd, .slice a2 ws.length c2, .slice ra rl.length rc] 49))) ∧ XAt (w14.alloc (.cells #[.string nm, .int .i64 bd, .slice a2 ws.length c2, .slice ra rl.length rc] 49)) O [.slice a0 L.length c0, .slice none 0 0, .slice none 0 0] ∧ O < (w14.alloc (.cells #[.string nm, .int .i64 bd, .slice a2 ws.length c2, .slice ra rl.length rc] 49)).heap.size) := HOUT.out _ L9.k.1
            obtain ⟨i2, hi0, hz0, hz1, hz2⟩ := info_parts infoFunc
            clear L9 L8 hO
            have hN9 : (N : Int) ≤ 65535 := by have := HL2.out.2; omega
            go_wp2_with (at_builtin; refine wpList_append_one _ rfl (.tmp 78) (.tmp 80) 22 rfl (O + 1) 49 i2 _ 4 72 Try.underlying22 hi0 hz0 hz1 hz2 rfl (by decide) (.slice a0 L.length c0) L.length (L.flatMap fxC) rfl HO9.out.1.2.own ⟨w14.heap.size, 0, none⟩ 1 (fxC (⟨nm, bd, ws, rl⟩, .slice a2 ws.length c2, .slice ra rl.length rc)) rfl rfl (fun j u hu => news_new w14 #[.string nm, .int .i64 bd, .slice a2 ws.length c2, .slice ra rl.length rc] 49 (fxC (⟨nm, bd, ws, rl⟩, .slice a2 ws.length c2, .slice ra rl.length rc)) rfl _ rfl j u hu) hone (by have := HL2.out; unfold maxLen; omega) (by have := HL2.out; omega) (by have := HO9.out.2.2; omega) ?_; intro a9 c9 w15 own9 grow9 wh9; have hXO : XAt w15 O [.slice a0 L.length c0, .slice none 0 0, .slice none 0 0] := HO9.out.2.1.keep (grow9.block O HO9.out.2.2 fun e => by have := (own_oct HO9.out.1.2.own O e.symm).1; omega); have oo := hXO.1 0 _ rfl; have zo := hXO.2 0)
            go_roundg j
            case measure => omega
            case rel => exact ⟨k + 1, L ++ [(⟨nm, bd, ws, rl⟩, .slice a2 ws.length c2, .slice ra rl.length rc)], _, _, t6, by omega, by go_num, by rw [List.length_append, HL2.out.1]; rfl, L10.out.more FE.ek ⟨Nat.le_refl _, by have := HXX.out; have := HG.out; omega, by omega, by have := HXX.out; omega⟩ HU.out HO9.out.1.1 HO9.out.1.2 HO9.out.2 (A := fun k => X + 1 ≤ k ∧ k < w14.heap.size) (FE.ek.keep _ _ _ _ HFE.out (Stay.of_below (keep_alloc8 (Below.refl _ w14) _))) (fun k hk => ⟨by have := HXX.out; omega, by have := (keep_alloc8 (Below.refl _ w14) (.cells #[.string nm, .int .i64 bd, .slice a2 ws.length c2, .slice ra rl.length rc] 49)).size; omega⟩) own9 grow9 wh9 0 (by simp), by rw [List.map_append]; exact times_next HTM.out HF3.out⟩
  case rest =>
    obtain ⟨L, v, n, s4, e1, n1, L8⟩ := hcut
    have HEQ2 : Hid (objR (.good l) = rest2 (L.map Prod.fst) (timesR dataR (countR 64 s4).1.toNat (countR 64 s4).2)) := by rw [← rest_2, ← e1]; exact HEQ1.out
    obtain ⟨a0, c0, rfl⟩ := own_form L8.k.2.own
    have HUA : Hid (∀ b', n ≤ b' → Under g O b' (fun W => KR w.heap.size W ∧ Gr FE fxC 49 4 (O + 1) n (.slice a0 L.length c0) L W)) := fun b' hb => Under.and (HU.out.more (by have := L8.k.2.le; omega)) (under_gr FE.ek (by have := HG.out; omega) (Nat.lt_succ_self O) hb)
    clear L7 L6 HEQ1 e1 HN n1
    obtain ⟨K2, hK2⟩ : ∃ K : World → Prop, ∀ V, K V ↔ (KR w.heap.size V ∧ Gr FE fxC 49 4 (O + 1) n (.slice a0 L.length c0) L V) := ⟨_, fun V => Iff.rfl⟩
    have HK2 : Hid (∀ V, K2 V ↔ (KR w.heap.size V ∧ Gr FE fxC 49 4 (O + 1) n (.slice a0 L.length c0) L V)) := hK2
    have HUB : Hid (∀ b', n ≤ b' → Under g O b' K2) := fun b' hb W W' k q1 q2 => (HK2.out _).mpr (HUA.out b' hb W W' ((HK2.out _).mp k) q1 q2)
    have L9 : Lq O Z w g O K2 s4 [.slice a0 L.length c0, .slice none 0 0, .slice none 0 0] wc := ⟨L8.rd, L8.xa, (HK2.out _).mpr L8.k, L8.low, L8.lt, L8.hx⟩
    have hnw : n ≤ wc.heap.size := L8.k.2.le.2
    clear L8 HUA hK2
    obtain ⟨N2, s5, eN, eS, hN2, CT⟩ := lq_count L9 ((HUB.out n (Nat.le_refl _)).stable (.inl rfl)) 64 (by omega)
    have HCT : Hid (Calls Try.prog 37 #[.pointer (some ⟨g, 0, none⟩), .int .i64 64] wc fun e w' => e = .returned (.int .i64 N2) ∧ Lq O Z w g O K2 s5 [.slice a0 L.length c0, .slice none 0 0, .slice none 0 0] w') := CT
    rw [eN, eS, Int.toNat_natCast] at HEQ2
    have HN2 : Hid (N2 ≤ 65535) := hN2
    clear CT eN eS hN2
    go_upto_region 20 with (go_at_call 37; refine HCT.out.mono ?_; rintro e w7 ⟨rfl, L10⟩)
    have hle := L10.low
    obtain ⟨b2, eb2⟩ : ∃ b2, w7.heap.size = b2 := ⟨_, rfl⟩
    have HB2 : Hid (n ≤ b2 ∧ O < b2) := by
      have h1 := (HK2.out _).mp L10.k
      have h2 := h1.2.le.2
      have h3 := L10.lt
      unfold Hid; omega
    have HU2 : Hid (Under g O b2 K2) := HUB.out b2 HB2.out.1
    have L11 : Lq O Z w g O (fun W => K2 W ∧ Gr DE dxC 44 7 b2 b2 (.slice none 0 0) [] W) s5 [.slice a0 L.length c0, .slice none 0 0, .slice none 0 0] w7 := ⟨L10.rd, L10.xa, ⟨L10.k, Gr.nil (by omega)⟩, L10.low, L10.lt, L10.hx⟩
    clear L10 L9 HCT hle hnw eb2 HUB
    go_upto_block 4 with fail
    go_cut [11, 12, 13, 14] from 85 to 140 (fun p1 p2 p3 p4 wx => ∃ (D : List DX) (v : Value) (n : Nat) (s6 : St), timesR dataR N2 s5 = (D.map Prod.fst, s6) ∧ Lq O Z w g O (fun W => K2 W ∧ Gr DE dxC 44 7 b2 n v D W) s6 [.slice a0 L.length c0, v, .slice none 0 0] wx)
    case first =>
      clear HEQ2
      go_wp2_with fail
      go_loopg [11] N2 (fun gk p wr => ∃ (k : Nat) (D : List DX) (v : Value) (n : Nat) (t : St), k + gk = N2 ∧ p = .int .i64 k ∧ D.length = k ∧ Lq O Z w g O (fun W => K2 W ∧ Gr DE dxC 44 7 b2 n v D W) t [.slice a0 L.length c0, v, .slice none 0 0] wr ∧ timesR dataR N2 s5 = (D.map Prod.fst ++ (timesR dataR gk t).1, (timesR dataR gk t).2))
      case atStart => exact ⟨0, [], .slice none 0 0, b2, s5, by omega, rfl, rfl, L11, rfl⟩
      case round =>
        obtain ⟨k, D, v, n', t, hk, rfl, hL, hq, htm⟩ := hrel
        have HQ : Hid (Lq O Z w g O (fun W => K2 W ∧ Gr DE dxC 44 7 b2 n' v D W) t [.slice a0 L.length c0, v, .slice none 0 0] wr) := hq
        have HTM : Hid (timesR dataR N2 s5 = (D.map Prod.fst ++ (timesR dataR gk t).1, (timesR dataR gk t).2)) := htm
        have HL2 : Hid (D.length = k ∧ N2 ≤ 65535) := ⟨hL, HN2.out⟩
        clear htm hL L11
        rcases gk with _ | j
        · obtain rfl : k = N2 := by omega
          clear hq
          go_wp2
          go_meet
          exact ⟨D, v, n', t, by rw [HTM.out, times_nil], HQ.out⟩
        · have hlt : (k : Int) < N2 := by omega
          rcases hq.rd.code with ⟨b, rfl, hc⟩ | ⟨e, rfl, hc, ne⟩
          rotate_left
          · clear hq
            go_wp2
            go_meet
            exact ⟨D, v, n', .bad e, by rw [HTM.out, times_bad'], HQ.out⟩
          · obtain ⟨a9, c9, rfl⟩ := own_form hq.k.2.own
            clear hq
            obtain ⟨K1, OUT, UK, LX, HX⟩ := HQ.out.enter DE.ek HU2.out HB2.out.2 #[.string ⟨#[]⟩, .int .i64 0, .int .i64 0, .bool false, .int .i64 0, .slice none 0 0, .slice none 0 0] 44
            go_upto_region 24 with fail
            generalize wr.alloc (.cells #[.string ⟨#[]⟩, .int .i64 0, .int .i64 0, .bool false, .int .i64 0, .slice none 0 0, .slice none 0 0] 44) = w8 at LX ⊢
            generalize wr.heap.size = X at UK LX HX ⊢
            clear hc
            have HOUT : Hid (∀ V, K1 V → (K2 V ∧ Gr DE dxC 44 7 b2 n' (.slice a9 D.length c9) D V) ∧ XAt V O [.slice a0 L.length c0, .slice a9 D.length c9, .slice none 0 0] ∧ O < V.heap.size) := OUT
            have HUK : Hid (Under g X (X + 1) K1) := UK
            have SK : Hid (Stable g X K1) := UK.stable (.inl rfl)
            have HXX : Hid (n' ≤ X ∧ O < X ∧ g < O ∧ b2 ≤ n') := HX
            clear OUT UK HX HQ
            have HF : Hid (dataR (.good b) = dN (nameR (.good b))) := dataR_1 b
            have hs1 := nameR_size LX.rd.good_byt
            obtain ⟨⟨nm, t1⟩, E1⟩ : ∃ r, nameR (.good b) = r := ⟨_, rfl⟩
            rw [E1] at HF hs1
            have S1 : Hid (nm.size ≤ 255) := hs1
            clear hs1
            go_upto_region 25 with (go_at_call 38; refine (lq_name LX SK.out E1).mono ?_; rintro e w9 ⟨rfl, L1⟩; have xx := L1.xa.1 0 _ rfl; have zz := L1.xa.2 0)
            have M1 := L1.set SK.out 0 (by simp) (.string nm)
            clear xx zz L1 LX E1
            generalize w9.setCell ⟨X, 0, none⟩ (.string nm) = w10 at M1 ⊢
            obtain ⟨⟨bd, t2⟩, E2⟩ : ∃ r, numR 1 t1 = r := ⟨_, rfl⟩
            change Hid (_ = d0 nm (numR 1 t1)) at HF
            rw [E2] at HF
            go_upto_region 26 with (go_at_call 39; refine (lq_num M1 SK.out 1 (by omega) (by omega) E2).mono ?_; rintro e w11 ⟨rfl, L2⟩; have xx := L2.xa.1 1 _ rfl; have zz := L2.xa.2 1)
            have M2 := L2.set SK.out 1 (by simp) (.int .i64 bd)
            clear xx zz L2 M1 E2
            generalize w11.setCell ⟨X, 1, none⟩ (.int .i64 bd) = w12 at M2 ⊢
            have xx := M2.xa.1 1 _ rfl
            go_upto_region 27 with (go_at_call 35; refine (lq_must M2 SK.out (decide (0 < bd))).mono ?_; rintro e w13 ⟨rfl, L3⟩)
            change Hid (_ = d1 nm bd (numR 1 (mustR (decide (0 < bd)) t2).2)) at HF
            generalize (mustR (decide (0 < bd)) t2).2 = t3 at L3 HF
            clear xx M2
            obtain ⟨⟨al, t4⟩, E4⟩ : ∃ r, numR 1 t3 = r := ⟨_, rfl⟩
            rw [E4] at HF
            go_upto_region 28 with (go_at_call 39; refine (lq_num L3 SK.out 1 (by omega) (by omega) E4).mono ?_; rintro e w14 ⟨rfl, L4⟩; have xx := L4.xa.1 2 _ rfl; have zz := L4.xa.2 2)
            have M4 := L4.set SK.out 2 (by simp) (.int .i64 al)
            clear xx zz L3 L4 E4
            generalize w14.setCell ⟨X, 2, none⟩ (.int .i64 al) = w15 at M4 ⊢
            obtain ⟨⟨fx, t5⟩, E5⟩ : ∃ r, numR 1 t4 = r := ⟨_, rfl⟩
            change Hid (_ = d2 nm bd al (numR 1 t4)) at HF
            rw [E5] at HF
            go_upto_region 29 with (go_at_call 39; refine (lq_num M4 SK.out 1 (by omega) (by omega) E5).mono ?_; rintro e w16 ⟨rfl, L5⟩)
            clear M4 E5
            go_upto_region 30 with (go_at_call 35; refine (lq_must L5 SK.out (decide (fx ≤ 1))).mono ?_; rintro e w17 ⟨rfl, L6⟩)
            change Hid (_ = d3 nm bd al fx (numR 2 (mustR (decide (fx ≤ 1)) t5).2)) at HF
            generalize (mustR (decide (fx ≤ 1)) t5).2 = t6 at L6 HF
            clear L5
            have xx := L6.xa.1 3 _ rfl
            have zz := L6.xa.2 3
            go_upto_region 31 with fail
            have M6 := L6.set SK.out 3 (by simp) (.bool (fx == 1))
            clear xx zz L6
            generalize w17.setCell ⟨X, 3, none⟩ (.bool (fx == 1)) = w18 at M6 ⊢
            obtain ⟨⟨sz, t7⟩, E7⟩ : ∃ r, numR 2 t6 = r := ⟨_, rfl⟩
            rw [E7] at HF
            go_upto_region 32 with (go_at_call 39; refine (lq_num M6 SK.out 2 (by omega) (by omega) E7).mono ?_; rintro e w19 ⟨rfl, L7⟩; have xx := L7.xa.1 4 _ rfl; have zz := L7.xa.2 4)
            have M7 := L7.set SK.out 4 (by simp) (.int .i64 sz)
            clear xx zz L7 M6 E7
            generalize w19.setCell ⟨X, 4, none⟩ (.int .i64 sz) = w19' at M7 ⊢
            change Hid (_ = dT nm bd al fx sz (takeR (countR 4096 t7).1.toNat (countR 4096 t7).2)) at HF
            obtain ⟨M, t8, eM, eS, hM, CT⟩ := lq_count M7 SK.out 4096 (by omega)
            rw [eM, eS, Int.toNat_natCast] at HF
            clear eM eS
            go_upto_region 33 with (go_at_call 37; refine CT.mono ?_; rintro e w20 ⟨rfl, L8⟩)
            clear CT M7
            obtain ⟨⟨bs, t9⟩, E9⟩ : ∃ r, takeR M t8 = r := ⟨_, rfl⟩
            rw [E9] at HF
            have hbl : bs.length = M := by have := take_len M t8; rw [E9] at this; exact this
            have hby : Byt bs := by have := take_byt (n := M) L8.rd.good_byt; rw [E9] at this; exact this
            have HBB : Hid (bs.length = M ∧ Byt bs) := ⟨hbl, hby⟩
            have HE9 : Hid (takeR M t8 = (bs, t9)) := E9
            have HP : Hid (X < w20.heap.size ∧ g < w20.heap.size ∧ M ≤ 65535) := ⟨L8.lt, L8.rd.lt, hM⟩
            have LA := L8.later SK.out (keep_alloc8 (Below.refl _ w20) (.cells #[] 5))
            have HOW : Hid ((w20.alloc (.cells #[] 5)).ownsRow w20.heap.size 5 1 (.slice (some ⟨w20.heap.size, 0, none⟩) 0 0) 0 []) := World.ownsRow_made w20 #[] 0 (Nat.le_refl _) (Nat.zero_le _) rfl
            obtain ⟨i3, hi0, hz0, hz1, hz2⟩ := info_parts slB
            clear hbl hby E9 hM
            go_upto_region 34 with (first
              | (go_at_call 36; refine (lq_take LA SK.out M HP.out.2.2 HE9.out).mono ?_; rintro e w21 ⟨a4, c4, rfl, hb4, LB, hA⟩; have ho21 := own_apart HOW.out hA (fun k hk e => by have h1 := HP.out.2.1; have h2 : k = g := e; omega); have hs21 : w20.heap.size ≤ w21.heap.size := Nat.le_trans (keep_alloc8 (Below.refl _ w20) (.cells #[] 5)).size hA.size)
              | (at_builtin; refine wpList_append_all _ rfl (.tmp 126) (.tmp 129) 29 rfl w20.heap.size 5 i3 _ 1 1 Try.underlying29 hi0 hz0 hz1 hz2 rfl (by decide) (.slice (some ⟨w20.heap.size, 0, none⟩) 0 0) 0 [] rfl ho21 a4 M c4 (cellsK .u8 M (gF bs)) rfl (by rw [cellsK_len, Nat.mul_one]) (head_nil hb4.1) (bytes_cells hb4.2) (cellsK_one _ _ _) (by have := HP.out.2.2; unfold maxLen; omega) (by have := HP.out.2.2; omega) hs21 ?_; intro a5 c5 w22 own22 grow22; rw [Nat.zero_add, List.nil_append] at own22; rw [Nat.zero_add]; have LC := LB.grown HUK.out grow22 (fun q hq => by have h1 : w20.heap.size = q := Option.some.inj hq; have h2 := HP.out.1; omega); have xx := LC.xa.1 5 _ rfl; have zz := LC.xa.2 5))
            have hbs := own_bytes9 own22 HBB.out.1 HBB.out.2
            have MC := LC.set SK.out 5 (by simp) (.slice a5 M c5)
            have hb23 : IsBytes (fun k => w20.heap.size ≤ k ∧ k < w22.heap.size) (w22.setCell ⟨X, 5, none⟩ (.slice a5 M c5)) (.slice a5 M c5) bs := hbs.keep fun k hk _ => Below.heap_setCell _ _ _ _ (by have := HP.out.1; have := hk.1; simp; omega)
            have hs23 : (w22.setCell ⟨X, 5, none⟩ (.slice a5 M c5)).heap.size = w22.heap.size := by simp
            obtain ⟨P, eP⟩ : ∃ P, w20.heap.size = P := ⟨_, rfl⟩
            obtain ⟨P2, eP2⟩ : ∃ P, w22.heap.size = P := ⟨_, rfl⟩
            rw [eP, eP2] at hb23
            rw [eP2] at hs23
            rw [eP] at HP
            have SK3 : Hid (Stable g X (fun W => K1 W ∧ IsBytes (fun k => P ≤ k ∧ k < P2) W (.slice a5 M c5) bs)) := Stable.and SK.out (stable_bytes HP.out.2.1 HP.out.1)
            have M5 : Lq O Z w g X (fun W => K1 W ∧ IsBytes (fun k => P ≤ k ∧ k < P2) W (.slice a5 M c5) bs) t9 [.string nm, .int .i64 bd, .int .i64 al, .bool (fx == 1), .int .i64 sz, .slice a5 M c5, .slice none 0 0] (w22.setCell ⟨X, 5, none⟩ (.slice a5 M c5)) := ⟨MC.rd, MC.xa, ⟨MC.k, hb23⟩, MC.low, MC.lt, MC.hx⟩
            clear xx zz hbs hb23 LC LB LA L8 hA ho21 hs21 own22 grow22 HOW HE9 MC eP eP2 hb4
            generalize w22.setCell ⟨X, 5, none⟩ (.slice a5 M c5) = w23 at M5 hs23 ⊢
            have HS23 : Hid (w23.heap.size = P2) := hs23
            clear hs23
            obtain ⟨⟨rl, t10⟩, E10⟩ : ∃ r, listR 64 relR t9 = r := ⟨_, rfl⟩
            change Hid (_ = (DataM.mk nm bd al (decide (fx = 1)) sz bs (listR 64 relR t9).1, (listR 64 relR t9).2)) at HF
            rw [E10] at HF
            have HW23 : Hid (X < w23.heap.size) := M5.lt
            go_upto_region 35 with (go_at_call 40; refine (lq_rels M5 SK3.out E10).mono ?_; rintro e w24 ⟨ra, rc, rfl, hrl, LD, hz24⟩; have xx := LD.xa.1 6 _ rfl; have zz := LD.xa.2 6)
            have MD := LD.set SK3.out 6 (by simp) (.slice ra rl.length rc)
            have hrl8 : IsRels (fun k => w23.heap.size ≤ k ∧ k < w24.heap.size) (w24.setCell ⟨X, 6, none⟩ (.slice ra rl.length rc)) (.slice ra rl.length rc) rl := hrl.keep fun k hk _ => Below.heap_setCell _ _ _ _ (by have := HW23.out; have := hk.1; simp; omega)
            have hsz : (w24.setCell ⟨X, 6, none⟩ (.slice ra rl.length rc)).heap.size = w24.heap.size := by simp
            rw [← hsz] at hrl8 hz24
            clear xx zz LD hrl hsz M5 E10
            generalize w24.setCell ⟨X, 6, none⟩ (.slice ra rl.length rc) = w25 at MD hrl8 hz24 ⊢
            have HDE : Hid (DE (fun k => X + 1 ≤ k ∧ k < w25.heap.size) w25 (⟨nm, bd, al, decide (fx = 1), sz, bs, rl⟩, .slice a5 M c5, .slice ra rl.length rc)) := ⟨MD.k.2.wide (fun k hk => ⟨by have := HP.out.1; omega, by have := HS23.out; omega⟩), hrl8.wide (fun k hk => ⟨by have := HW23.out; omega, hk.2⟩), by have := S1.out; show nm.size ≤ maxLen; unfold maxLen; omega⟩
            have hone : ∀ u ∈ dxC (⟨nm, bd, al, decide (fx = 1), sz, bs, rl⟩, .slice a5 M c5, .slice ra rl.length rc), u.oneCell' = true := by
              intro u hu
              simp [dxC] at hu
              rcases hu with rfl | rfl | rfl | rfl | rfl | rfl | rfl <;> rfl
            have L9 := MD.later SK3.out (keep_alloc8 (Below.refl _ w25) (.cells #[.string nm, .int .i64 bd, .int .i64 al, .bool (fx == 1), .int .i64 sz, .slice a5 M c5, .slice ra rl.length rc] 44))
            have hO := HOUT.out _ MD.k.1
            have o0 := hO.2.1.1 1 _ rfl
            have x0 := MD.xa.1 0 _ rfl
            have x1 := MD.xa.1 1 _ rfl
            have x2 := MD.xa.1 2 _ rfl
            have x3 := MD.xa.1 3 _ rfl
            have x4 := MD.xa.1 4 _ rfl
            have x5 := MD.xa.1 5 _ rfl
            have x6 := MD.xa.1 6 _ rfl
            have L10 : Hid (Lq O Z w g X (fun W => K1 W ∧ IsBytes (fun k => P ≤ k ∧ k < P2) W (.slice a5 M c5) bs) t10 [.string nm, .int .i64 bd, .int .i64 al, .bool (fx == 1), .int .i64 sz, .slice a5 M c5, .slice ra rl.length rc] (w25.alloc (.cells #[.string nm, .int .i64 bd, .int .i64 al, .bool (fx == 1), .int .i64 sz, .slice a5 M c5, .slice ra rl.length rc] 44))) := L9
            have HO9 : Hid ((K2 (w25.alloc (.cells #[.string nm, .int .i64 bd, .int .i64 al, .bool (fx == 1), .int .i64 sz, .slice a5 M c5, .slice ra rl.length rc] 44)) ∧ Gr DE dxC 44 7 b2 n' (.slice a9 D.length c9) D (w25.alloc (.cells #[.string nm, .int .i64 bd, .int .i64 al, .bool (fx == 1), .int .i64 sz, .slice a5 M c5, .slice ra rl.length rc] 44))) ∧ XAt (w25.alloc (.cells #[.string nm, .int .i64 bd, .int .i64 al, .bool (fx == 1), .int .i64 sz, .slice a5 M c5, .slice ra rl.length rc] 44)) O [.slice a0 L.length c0, .slice a9 D.length c9, .slice none 0 0] ∧ O < (w25.alloc (.cells #[.string nm, .int .i64 bd, .int .i64 al, .bool (fx == 1), .int .i64 sz, .slice a5 M c5, .slice ra rl.length rc] 44)).heap.size) := HOUT.out _ L9.k.1
            obtain ⟨i2, hi0, hz0, hz1, hz2⟩ := info_parts infoData
            have hN9 : (N2 : Int) ≤ 65535 := by have := HL2.out.2; omega
            clear L9 MD hO hrl8 hz24
            go_wp2_with (at_builtin; refine wpList_append_one _ rfl (.tmp 136) (.tmp 138) 23 rfl b2 44 i2 _ 7 96 Try.underlying23 hi0 hz0 hz1 hz2 rfl (by decide) (.slice a9 D.length c9) D.length (D.flatMap dxC) rfl HO9.out.1.2.own ⟨w25.heap.size, 0, none⟩ 1 (dxC (⟨nm, bd, al, decide (fx = 1), sz, bs, rl⟩, .slice a5 M c5, .slice ra rl.length rc)) rfl rfl (fun j u hu => news_new w25 #[.string nm, .int .i64 bd, .int .i64 al, .bool (fx == 1), .int .i64 sz, .slice a5 M c5, .slice ra rl.length rc] 44 (dxC (⟨nm, bd, al, decide (fx = 1), sz, bs, rl⟩, .slice a5 M c5, .slice ra rl.length rc)) rfl _ rfl j u hu) hone (by have := HL2.out; unfold maxLen; omega) (by have := HL2.out; omega) (by have := HO9.out.1.2.le; omega) ?_; intro a10 c10 w26 own9 grow9 wh9; have hXO : XAt w26 O [.slice a0 L.length c0, .slice a9 D.length c9, .slice none 0 0] := HO9.out.2.1.keep (grow9.block O HO9.out.2.2 fun e => by have h1 := (own_oct HO9.out.1.2.own O e.symm).1; have h2 := HB2.out.2; omega); have oo := hXO.1 1 _ rfl; have zo := hXO.2 1)
            go_roundg j
            case measure => omega
            case rel => exact ⟨k + 1, D ++ [(⟨nm, bd, al, decide (fx = 1), sz, bs, rl⟩, .slice a5 M c5, .slice ra rl.length rc)], _, _, t10, by omega, by go_num, by rw [List.length_append, HL2.out.1]; rfl, L10.out.more DE.ek ⟨Nat.le_refl _, by have := HXX.out; have := HG.out; omega, HB2.out.2, by have := HXX.out; omega⟩ HU2.out HO9.out.1.1 HO9.out.1.2 HO9.out.2 (A := fun k => X + 1 ≤ k ∧ k < w25.heap.size) (DE.ek.keep _ _ _ _ HDE.out (Stay.of_below (keep_alloc8 (Below.refl _ w25) _))) (fun k hk => ⟨by have := HXX.out; omega, by have := (keep_alloc8 (Below.refl _ w25) (.cells #[.string nm, .int .i64 bd, .int .i64 al, .bool (fx == 1), .int .i64 sz, .slice a5 M c5, .slice ra rl.length rc] 44)).size; omega⟩) own9 grow9 wh9 1 (by simp), by rw [List.map_append]; exact times_next HTM.out HF.out⟩
    case rest =>
      obtain ⟨D, v, n', s6, e2, L12⟩ := hcut
      have HEQ3 : Hid (objR (.good l) = rest3 (L.map Prod.fst) (D.map Prod.fst) (timesR noteR (countR 64 s6).1.toNat (countR 64 s6).2)) := by rw [← rest_3, ← e2]; exact HEQ2.out
      obtain ⟨a9, c9, rfl⟩ := own_form L12.k.2.own
      have HGO : Hid (g < O ∧ O < b2 ∧ b2 ≤ n') := ⟨L12.rd.base.1, HB2.out.2, L12.k.2.le.1⟩
      have HUA : Hid (∀ b', n' ≤ b' → Under g O b' (fun W => K2 W ∧ Gr DE dxC 44 7 b2 n' (.slice a9 D.length c9) D W)) := fun b' hb => Under.and (HU2.out.more (by have := HGO.out; omega)) (under_gr DE.ek (by have := HGO.out; omega) HB2.out.2 hb)
      clear L11 HEQ2 e2 HN2
      obtain ⟨K3, hK3⟩ : ∃ K : World → Prop, ∀ V, K V ↔ (K2 V ∧ Gr DE dxC 44 7 b2 n' (.slice a9 D.length c9) D V) := ⟨_, fun V => Iff.rfl⟩
      have HK3 : Hid (∀ V, K3 V ↔ (K2 V ∧ Gr DE dxC 44 7 b2 n' (.slice a9 D.length c9) D V)) := hK3
      have HUB : Hid (∀ b', n' ≤ b' → Under g O b' K3) := fun b' hb W W' k q1 q2 => (HK3.out _).mpr (HUA.out b' hb W W' ((HK3.out _).mp k) q1 q2)
      have L13 : Lq O Z w g O K3 s6 [.slice a0 L.length c0, .slice a9 D.length c9, .slice none 0 0] wc := ⟨L12.rd, L12.xa, (HK3.out _).mpr L12.k, L12.low, L12.lt, L12.hx⟩
      clear L12 HUA hK3
      obtain ⟨N3, s7, eN, eS, hN3, CT⟩ := lq_count L13 ((HUB.out n' (Nat.le_refl _)).stable (.inl rfl)) 64 (by omega)
      have HCT : Hid (Calls Try.prog 37 #[.pointer (some ⟨g, 0, none⟩), .int .i64 64] wc fun e w' => e = .returned (.int .i64 N3) ∧ Lq O Z w g O K3 s7 [.slice a0 L.length c0, .slice a9 D.length c9, .slice none 0 0] w') := CT
      rw [eN, eS, Int.toNat_natCast] at HEQ3
      have HN3 : Hid (N3 ≤ 65535) := hN3
      clear CT eN eS hN3
      go_upto_region 37 with (go_at_call 37; refine HCT.out.mono ?_; rintro e w7 ⟨rfl, L10⟩)
      obtain ⟨b3, eb3⟩ : ∃ b3, w7.heap.size = b3 := ⟨_, rfl⟩
      have HB3 : Hid (n' ≤ b3 ∧ O < b3) := by
        have h1 := (HK3.out _).mp L10.k
        have h2 := h1.2.le.2
        have h3 := L10.lt
        unfold Hid; omega
      have HU3 : Hid (Under g O b3 K3) := HUB.out b3 HB3.out.1
      have L11 : Lq O Z w g O (fun W => K3 W ∧ Gr NE noteC 46 2 b3 b3 (.slice none 0 0) [] W) s7 [.slice a0 L.length c0, .slice a9 D.length c9, .slice none 0 0] w7 := ⟨L10.rd, L10.xa, ⟨L10.k, Gr.nil (by omega)⟩, L10.low, L10.lt, L10.hx⟩
      clear L10 L13 HCT eb3 HUB
      go_upto_block 6 with fail
      go_cut [15, 16] from 143 to 167 (fun p1 p2 wx => ∃ (T : List NoteM) (v : Value) (n : Nat) (s8 : St), timesR noteR N3 s7 = (T, s8) ∧ Lq O Z w g O (fun W => K3 W ∧ Gr NE noteC 46 2 b3 n v T W) s8 [.slice a0 L.length c0, .slice a9 D.length c9, v] wx)
      case first =>
        clear HEQ3
        go_wp2_with fail
        go_loopg [15] N3 (fun gk p wr => ∃ (k : Nat) (T : List NoteM) (v : Value) (n : Nat) (t : St), k + gk = N3 ∧ p = .int .i64 k ∧ T.length = k ∧ Lq O Z w g O (fun W => K3 W ∧ Gr NE noteC 46 2 b3 n v T W) t [.slice a0 L.length c0, .slice a9 D.length c9, v] wr ∧ timesR noteR N3 s7 = (T ++ (timesR noteR gk t).1, (timesR noteR gk t).2))
        case atStart => exact ⟨0, [], .slice none 0 0, b3, s7, by omega, rfl, rfl, L11, rfl⟩
        case round =>
          obtain ⟨k, T, v, m', t, hk, rfl, hL, hq, htm⟩ := hrel
          have HQ : Hid (Lq O Z w g O (fun W => K3 W ∧ Gr NE noteC 46 2 b3 m' v T W) t [.slice a0 L.length c0, .slice a9 D.length c9, v] wr) := hq
          have HTM : Hid (timesR noteR N3 s7 = (T ++ (timesR noteR gk t).1, (timesR noteR gk t).2)) := htm
          have HL2 : Hid (T.length = k ∧ N3 ≤ 65535) := ⟨hL, HN3.out⟩
          clear htm hL L11
          rcases gk with _ | j
          · obtain rfl : k = N3 := by omega
            clear hq
            go_wp2
            go_meet
            exact ⟨T, v, m', t, by rw [HTM.out, times_nil], HQ.out⟩
          · have hlt : (k : Int) < N3 := by omega
            rcases hq.rd.code with ⟨b, rfl, hc⟩ | ⟨e, rfl, hc, ne⟩
            rotate_left
            · clear hq
              go_wp2
              go_meet
              exact ⟨T, v, m', .bad e, by rw [HTM.out, times_bad'], HQ.out⟩
            · obtain ⟨a8, c8, rfl⟩ := own_form hq.k.2.own
              clear hq
              obtain ⟨K1, OUT, UK, LX, HX⟩ := HQ.out.enter NE.ek HU3.out HB3.out.2 #[.string ⟨#[]⟩, .int .i64 0] 46
              go_upto_region 41 with fail
              generalize wr.alloc (.cells #[.string ⟨#[]⟩, .int .i64 0] 46) = w8 at LX ⊢
              generalize wr.heap.size = X at UK LX HX ⊢
              clear hc
              have HOUT : Hid (∀ V, K1 V → (K3 V ∧ Gr NE noteC 46 2 b3 m' (.slice a8 T.length c8) T V) ∧ XAt V O [.slice a0 L.length c0, .slice a9 D.length c9, .slice a8 T.length c8] ∧ O < V.heap.size) := OUT
              have HUK : Hid (Under g X (X + 1) K1) := UK
              have SK : Hid (Stable g X K1) := UK.stable (.inl rfl)
              have HXX : Hid (m' ≤ X ∧ O < X ∧ g < O ∧ b3 ≤ m') := HX
              clear OUT UK HX HQ
              have HF : Hid (noteR (.good b) = nN (nameR (.good b))) := noteR_1 b
              have hs1 := nameR_size LX.rd.good_byt
              obtain ⟨⟨nm, t1⟩, E1⟩ : ∃ r, nameR (.good b) = r := ⟨_, rfl⟩
              rw [E1] at HF hs1
              have S1 : Hid (nm.size ≤ 255) := hs1
              clear hs1
              go_upto_region 42 with (go_at_call 38; refine (lq_name LX SK.out E1).mono ?_; rintro e w9 ⟨rfl, L1⟩; have xx := L1.xa.1 0 _ rfl; have zz := L1.xa.2 0)
              have M1 := L1.set SK.out 0 (by simp) (.string nm)
              clear xx zz L1 LX E1
              generalize w9.setCell ⟨X, 0, none⟩ (.string nm) = w10 at M1 ⊢
              obtain ⟨⟨kd, t2⟩, E2⟩ : ∃ r, numR 1 t1 = r := ⟨_, rfl⟩
              change Hid (_ = (NoteM.mk nm (numR 1 t1).1, (numR 1 t1).2)) at HF
              rw [E2] at HF
              go_upto_region 43 with (go_at_call 39; refine (lq_num M1 SK.out 1 (by omega) (by omega) E2).mono ?_; rintro e w24 ⟨rfl, L2⟩; have xx := L2.xa.1 1 _ rfl; have zz := L2.xa.2 1)
              have MD := L2.set SK.out 1 (by simp) (.int .i64 kd)
              clear xx zz L2 M1 E2
              generalize w24.setCell ⟨X, 1, none⟩ (.int .i64 kd) = w25 at MD ⊢
              have hone : ∀ u ∈ noteC ⟨nm, kd⟩, u.oneCell' = true := by
                intro u hu
                simp [noteC] at hu
                rcases hu with rfl | rfl <;> rfl
              have L9 := MD.later SK.out (keep_alloc8 (Below.refl _ w25) (.cells #[.string nm, .int .i64 kd] 46))
              have hO := HOUT.out _ MD.k
              have o0 := hO.2.1.1 2 _ rfl
              have x0 := MD.xa.1 0 _ rfl
              have x1 := MD.xa.1 1 _ rfl
              have L10 : Hid (Lq O Z w g X K1 t2 [.string nm, .int .i64 kd] (w25.alloc (.cells #[.string nm, .int .i64 kd] 46))) := L9
              have HO9 : Hid ((K3 (w25.alloc (.cells #[.string nm, .int .i64 kd] 46)) ∧ Gr NE noteC 46 2 b3 m' (.slice a8 T.length c8) T (w25.alloc (.cells #[.string nm, .int .i64 kd] 46))) ∧ XAt (w25.alloc (.cells #[.string nm, .int .i64 kd] 46)) O [.slice a0 L.length c0, .slice a9 D.length c9, .slice a8 T.length c8] ∧ O < (w25.alloc (.cells #[.string nm, .int .i64 kd] 46)).heap.size) := HOUT.out _ L9.k
              obtain ⟨i2, hi0, hz0, hz1, hz2⟩ := info_parts infoNote
              have hN9 : (N3 : Int) ≤ 65535 := by have := HL2.out.2; omega
              clear L9 MD hO
              go_wp2_with (at_builtin; refine wpList_append_one _ rfl (.tmp 163) (.tmp 165) 24 rfl b3 46 i2 _ 2 24 Try.underlying24 hi0 hz0 hz1 hz2 rfl (by decide) (.slice a8 T.length c8) T.length (T.flatMap noteC) rfl HO9.out.1.2.own ⟨w25.heap.size, 0, none⟩ 1 (noteC ⟨nm, kd⟩) rfl rfl (fun j u hu => news_new w25 #[.string nm, .int .i64 kd] 46 (noteC ⟨nm, kd⟩) rfl _ rfl j u hu) hone (by have := HL2.out; unfold maxLen; omega) (by have := HL2.out; omega) (by have := HO9.out.1.2.le; omega) ?_; intro a10 c10 w26 own9 grow9 wh9; have hXO : XAt w26 O [.slice a0 L.length c0, .slice a9 D.length c9, .slice a8 T.length c8] := HO9.out.2.1.keep (grow9.block O HO9.out.2.2 fun e => by have h1 := (own_oct HO9.out.1.2.own O e.symm).1; have h2 := HB3.out.2; omega); have oo := hXO.1 2 _ rfl; have zo := hXO.2 2)
              go_roundg j
              case measure => omega
              case rel => exact ⟨k + 1, T ++ [⟨nm, kd⟩], _, _, t2, by omega, by go_num, by rw [List.length_append, HL2.out.1]; rfl, L10.out.more NE.ek ⟨Nat.le_refl _, by have := HXX.out; have := HG.out; omega, HB3.out.2, by have := HXX.out; omega⟩ HU3.out HO9.out.1.1 HO9.out.1.2 HO9.out.2 (A := fun _ => False) (by have := S1.out; show nm.size ≤ maxLen; unfold maxLen; omega) (fun k hk => hk.elim) own9 grow9 wh9 2 (by simp), times_next HTM.out HF.out⟩
      case rest =>
        obtain ⟨T, v, m', s8, e3, L16⟩ := hcut
        obtain ⟨a8, c8, rfl⟩ := own_form L16.k.2.own
        have HEQ4 : Hid (objR (.good l) = (⟨L.map Prod.fst, D.map Prod.fst, T⟩, s8)) := by rw [e3] at HEQ3; exact HEQ3.out
        have hk3 := (HK3.out _).mp L16.k.1
        have hk2 := (HK2.out _).mp hk3.1
        have HOBJ : Hid (IsObj (fun k => O < k ∧ k < wc.heap.size) wc (.agg #[.slice a0 L.length c0, .slice a9 D.length c9, .slice a8 T.length c8]) ⟨L.map Prod.fst, D.map Prod.fst, T⟩) := by
          have h1 := HG.out
          have h2 := HB2.out
          have h3 := HB3.out
          refine ⟨_, _, _, rfl, LstA.map hk2.2.funcs (fun k hk => ⟨by omega, hk.2⟩) (fun b o x hb hx he => he.wide fun k hk => ⟨by omega, hk.2⟩), LstA.map hk3.2.datas (fun k hk => ⟨by omega, hk.2⟩) (fun b o x hb hx he => he.wide fun k hk => ⟨by omega, hk.2⟩), LstA.map L16.k.2.notes (fun k hk => ⟨by omega, hk.2⟩) (fun b o x hb hx he => he)⟩
        have HLOW : Hid (Below w.heap.size w wc) := L16.low
        have XR : Hid (XAt wc w.heap.size nil3) := hk2.1.1
        have gR : ¬ (w.heap.size = g) := by have := HG.out; omega
        have gR' : ¬ (g = w.heap.size) := by have := HG.out; omega
        have HRD := L16.rd
        have o0 := L16.xa.1 0 _ rfl
        have o1 := L16.xa.1 1 _ rfl
        have o2 := L16.xa.1 2 _ rfl
        clear L11 HEQ3 e3 L16 hk3 hk2
        rcases s8 with b' | e'
        · obtain ⟨i, g1, g2, hi, gz⟩ := HRD.fin
          clear HRD
          rcases b' with _ | ⟨y, ys⟩
          · have HRE : Hid (readO l = (⟨L.map Prod.fst, D.map Prod.fst, T⟩, 0)) := by unfold readO; rw [HEQ4.out]; exact Hid.mkR rfl
            obtain rfl : i = Z := by have := hi.2; simp at this; omega
            have r0 := XR.out.1 0 _ rfl
            have r1 := XR.out.1 1 _ rfl
            have r2 := XR.out.1 2 _ rfl
            have q0 := XR.out.2 0
            have q1 := XR.out.2 1
            have q2 := XR.out.2 2
            clear hi
            go_wp2
            exact bodyPost_ret (v := .tuple #[.agg #[.slice a0 L.length c0, .slice a9 D.length c9, .slice a8 T.length c8], .int .i64 0]) (results_obj rfl _ w.heap.size (by first | rfl | simp) _ (by first | rfl | simp) _ _ _ _ (set3 XR.out _ _ _)) rfl ⟨⟨_, by rw [HRE.out], by rw [HRE.out]; exact fresh3 HOBJ.out (by have := HG.out; omega)⟩, low3 HLOW.out (Nat.le_refl _) _ _ _⟩
          · have HRE : Hid (readO l = (noObj, 2)) := by unfold readO; rw [HEQ4.out]; exact Hid.mkR rfl
            have hiz : (i : Int) < Z := by have := hi.2; simp at this; omega
            have XR2 : XAt (wc.setCell ⟨g, 2, none⟩ (.int .i64 2)) w.heap.size nil3 := XR.out.keep (Below.heap_setCell _ _ _ _ (by simpa using gR))
            have HLOW2 : Hid (Below w.heap.size w (wc.setCell ⟨g, 2, none⟩ (.int .i64 2))) := HLOW.out.trans (low_set _ (by have := HG.out; omega))
            have hc2 : (wc.setCell ⟨g, 2, none⟩ (.int .i64 2)).cell? ⟨g, 2, none⟩ = some (.int .i64 2) := World.cell?_setCell_same _ _ _ g2
            have HXR2 : Hid (XAt (wc.setCell ⟨g, 2, none⟩ (.int .i64 2)) w.heap.size nil3 ∧ (wc.setCell ⟨g, 2, none⟩ (.int .i64 2)).cell? ⟨g, 2, none⟩ = some (.int .i64 2)) := ⟨XR2, hc2⟩
            clear hi XR2 hc2
            go_upto_region 46 with fail
            generalize wc.setCell ⟨g, 2, none⟩ (.int .i64 2) = w30 at HXR2 HLOW2 ⊢
            have hc := HXR2.out.2
            have r0 := HXR2.out.1.1 0 _ rfl
            have r1 := HXR2.out.1.1 1 _ rfl
            have r2 := HXR2.out.1.1 2 _ rfl
            have q0 := HXR2.out.1.2 0
            have q1 := HXR2.out.1.2 1
            have q2 := HXR2.out.1.2 2
            go_upto_region 47 with fail
            go_region
            all_goals go_wp2
            have XR3 := (set3 HXR2.out.1 (.slice none 0 0) (.slice none 0 0) (.slice none 0 0))
            exact bodyPost_ret (v := .tuple #[.agg #[.slice none 0 0, .slice none 0 0, .slice none 0 0], .int .i64 2]) (results_obj rfl _ w.heap.size (by first | rfl | simp) _ (by first | rfl | simp) _ _ _ _ (XR3.keep rfl)) rfl ⟨⟨_, by rw [HRE.out], by rw [HRE.out]; exact nil_obj9 _ _⟩, keep_drew8 (low3 HLOW2.out (Nat.le_refl _) _ _ _)⟩
        · obtain ⟨b', h1, -⟩ | ⟨e, h1, hc, ne⟩ := HRD.code
          · cases h1
          · cases h1
            have HRE : Hid (readO l = (noObj, e')) := by unfold readO; rw [HEQ4.out]; exact Hid.mkR rfl
            have r0 := XR.out.1 0 _ rfl
            have r1 := XR.out.1 1 _ rfl
            have r2 := XR.out.1 2 _ rfl
            have q0 := XR.out.2 0
            have q1 := XR.out.2 1
            have q2 := XR.out.2 2
            clear HRD
            go_upto_region 47 with fail
            go_region
            all_goals go_wp2
            have XR3 := (set3 XR.out (.slice none 0 0) (.slice none 0 0) (.slice none 0 0))
            exact bodyPost_ret (v := .tuple #[.agg #[.slice none 0 0, .slice none 0 0, .slice none 0 0], .int .i64 e']) (results_obj rfl _ w.heap.size (by first | rfl | simp) _ (by first | rfl | simp) _ _ _ _ (XR3.keep rfl)) rfl ⟨⟨_, by rw [HRE.out], by rw [HRE.out]; exact nil_obj9 _ _⟩, keep_drew8 (low3 HLOW.out (Nat.le_refl _) _ _ _)⟩
end Go.Proofs.Ytcbhnpjaaaefiaa
