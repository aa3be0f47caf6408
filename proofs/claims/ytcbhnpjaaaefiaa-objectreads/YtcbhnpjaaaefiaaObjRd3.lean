/- Relocations, taken by the document's reader. -/
import Derived.Test.YtcbhnpjaaaefiaaObjRd2
import Derived.Test.YtcbhnpjaaaefiaaObjOwn
namespace Go.Proofs.Ytcbhnpjaaaefiaa
open Go.ChangeShapes Go.WideShapes Go.ChangeAt Go.RowKit
set_option linter.unusedVariables false
set_option linter.unusedSimpArgs false
theorem infoRel : (Try.prog.info? 94).map (fun i => (i.zero, i.size, i.bytes)) = some (some (.agg #[.int .i64 0, .int .i64 0, .string ⟨#[]⟩, .int .i64 0]), 4, 40) := by kernel_rfl
/-- What holds of blocks that are neither the reader's nor X. -/
def Stable (g X : Nat) (K : World → Prop) : Prop := ∀ W W', K W → W.heap.size ≤ W'.heap.size → (∀ k, k < W.heap.size → k ≠ g → k ≠ X → W'.heap[k]? = W.heap[k]?) → K W'
/-- Within a round: the reader, the new block X, and what else there is. -/
structure Lp (B Z : Nat) (w0 : World) (g X : Nat) (K : World → Prop) (s : St) (cs : List Value) (W : World) : Prop where
  rd : Rd B Z W g s
  xa : XAt W X cs
  k : K W
  ap : Apart (G1 g) w0 W
  lt : X < W.heap.size
  hx : B ≤ X ∧ w0.heap.size ≤ X
theorem Lp.call {B Z : Nat} {w0 : World} {g X : Nat} {K : World → Prop} {s s' : St} {cs : List Value} {W W' : World} (h : Lp B Z w0 g X K s cs W) (HK : Stable g X K) (hr : Rd B Z W' g s') (ha : Apart (G1 g) W W') : Lp B Z w0 g X K s' cs W' := by
  have hg := h.rd.base.1
  have hX := h.hx.1
  exact ⟨hr, h.xa.apart h.lt ha (by show ¬ X = g; omega), HK W W' h.k ha.size fun k h1 h2 _ => ha.block k h1 h2, h.ap.same ha, Nat.lt_of_lt_of_le h.lt ha.size, h.hx⟩
theorem Lp.set {B Z : Nat} {w0 : World} {g X : Nat} {K : World → Prop} {s : St} {cs : List Value} {W : World} (h : Lp B Z w0 g X K s cs W) (HK : Stable g X K) (i : Nat) (hi : i < cs.length) (v : Value) : Lp B Z w0 g X K s (cs.set i v) (W.setCell ⟨X, i, none⟩ v) := by
  have lo : Below X W (W.setCell ⟨X, i, none⟩ v) := low_set v (Nat.le_refl _)
  refine ⟨h.rd.low (low_set v h.hx.1), h.xa.set i hi v, HK W _ h.k lo.size fun k h1 h2 h3 => Below.heap_setCell _ _ _ _ (by simpa using h3), ?_, Nat.lt_of_lt_of_le h.lt lo.size, h.hx⟩
  exact ⟨h.ap.os, h.ap.tape, h.ap.output, Nat.le_trans h.ap.size lo.size, fun k h1 h2 => (lo.block k (Nat.lt_of_lt_of_le h1 h.hx.2)).trans (h.ap.block k h1 h2)⟩
theorem Lp.later {B Z : Nat} {w0 : World} {g X : Nat} {K : World → Prop} {s : St} {cs : List Value} {W W' : World} (h : Lp B Z w0 g X K s cs W) (HK : Stable g X K) (hb : Below W.heap.size W W') : Lp B Z w0 g X K s cs W' :=
  h.call HK (h.rd.later hb) (Apart.of_below hb)
theorem own_lo {w w' : World} {base : Nat} {e : TypeId} {size : Nat} {v : Value} {n : Nat} {xs : List Value} (h : w.ownsRow base e size v n xs) (hk : ∀ k, k < w.heap.size → v.ownBlock = some k → w'.heap[k]? = w.heap[k]?) : w'.ownsRow base e size v n xs := by
  refine ⟨h.1, h.2.imp id fun ⟨g, cap, cur, h1, h2, h3, h4⟩ => ⟨g, cap, cur, h1, h2, ?_, h4⟩⟩
  have hl : g < w.heap.size := by
    rcases Nat.lt_or_ge g w.heap.size with h | h
    · exact h
    · rw [Array.getElem?_eq_none h] at h3; cases h3
  rw [hk g hl (by rw [h1]; rfl)]; exact h3
theorem countR_bd {m : Nat} {s : St} (h : ∀ b, s = .good b → Byt b) : 0 ≤ (countR m s).1 ∧ (countR m s).1 ≤ 65535 := by
  have hn := numR_bd (n := 2) h
  rw [p256_2] at hn
  have ec : (countR m s).1 = (match (mustR (decide ((numR 2 s).1 ≤ m)) (numR 2 s).2).2 with
    | .good b => ((numR 2 s).1, St.good b)
    | .bad e => ((0 : Int), St.bad e)).1 := rfl
  rw [ec]
  split
  · show 0 ≤ (numR 2 s).1 ∧ (numR 2 s).1 ≤ 65535
    omega
  · exact ⟨Int.le_refl _, by show (0 : Int) ≤ 65535; decide⟩
theorem times_bad {α : Type} (f : Rdr α) (n : Nat) (e : Int) : timesR f n (.bad e) = ([], .bad e) := by cases n <;> rfl
theorem times_good {α : Type} (f : Rdr α) (n : Nat) (b : Bs) : timesR f (n + 1) (.good b) = ((f (.good b)).1 :: (timesR f n (f (.good b)).2).1, (timesR f n (f (.good b)).2).2) := rfl
theorem own_more {α : Type} (cells : α → List Value) {w : World} {base : Nat} {e : TypeId} {sz : Nat} {a : Option Addr} {c : Nat} {l : List α} {x : α} (h : w.ownsRow base e sz (.slice a (l.length + 1) c) (l.length + 1) (l.flatMap cells ++ cells x)) :
    w.ownsRow base e sz (.slice a (l.length + 1) c) (l ++ [x]).length ((l ++ [x]).flatMap cells) := by
  rw [List.length_append, List.flatMap_append, List.flatMap_singleton]
  exact h
theorem names_more {l : List RelM} {x : RelM} (h : ∀ r ∈ l, r.name.size ≤ 255) (hx : x.name.size ≤ 255) : ∀ r ∈ l ++ [x], r.name.size ≤ 255 := fun r hr => by
  rcases List.mem_append.mp hr with h1 | h1
  · exact h r h1
  · rw [List.mem_singleton] at h1; subst h1; exact hx
theorem times_more {α : Type} {f : Rdr α} {N k : Nat} {s1 t : St} {l : List α} {b : Bs} {x : α} (h : timesR f N s1 = (l ++ (timesR f (N - k) (.good b)).1, (timesR f (N - k) (.good b)).2)) (hx : f (.good b) = (x, t)) (hk : k < N) :
    timesR f N s1 = ((l ++ [x]) ++ (timesR f (N - (k + 1)) t).1, (timesR f (N - (k + 1)) t).2) := by
  rw [h, show N - k = (N - (k + 1)) + 1 from by omega, times_good, hx, List.append_assoc]
  rfl
theorem apart_low {O : Nat → Prop} {w w1 w2 : World} (h : Apart O w w1) (hb : Below w.heap.size w1 w2) : Apart O w w2 :=
  ⟨hb.os.trans h.os, hb.tape.trans h.tape, hb.output.trans h.output, Nat.le_trans h.size hb.size, fun k h1 h2 => (hb.block k h1).trans (h.block k h1 h2)⟩
/-- A literal's cells, as append reads them. -/
theorem news_new (w : World) (cs : Array Value) (t : TypeId) (news : List Value) (h : cs.toList = news) : ∀ ad, some (⟨w.heap.size, 0, none⟩ : Addr) = some ad → ∀ j u, news[j]? = some u → (w.alloc (.cells cs t)).cell? (ad.add j) = some u := by
  intro ad e j u hu
  cases e
  rw [show (⟨w.heap.size, 0, none⟩ : Addr).add j = ⟨w.heap.size, j, none⟩ from by cases j <;> simp [Addr.add]]
  exact new_cell' w cs t j u (by rw [← Array.getElem?_toList, h]; exact hu)
theorem own_oct {w : World} {base : Nat} {e : TypeId} {size : Nat} {v : Value} {n : Nat} {xs : List Value} (h : w.ownsRow base e size v n xs) : ∀ q, v.ownBlock = some q → base ≤ q ∧ q < w.heap.size := fun q hq => h.lt q hq
set_option maxRecDepth 100000 in
set_option maxHeartbeats 4000000 in
theorem rd_rels {B Z : Nat} {w : World} {g : Nat} {s : St} (h : Rd B Z w g s) :
    Calls Try.prog 40 #[.pointer (some ⟨g, 0, none⟩)] w fun e w' => ∃ v, e = .returned v ∧ IsRels (fun k => w.heap.size ≤ k ∧ k < w'.heap.size) w' v (listR 64 relR s).1 ∧ Rd B Z w' g (listR 64 relR s).2 ∧ Apart (G1 g) w w' := by
  have CT : Hid (Calls Try.prog 37 #[.pointer (some ⟨g, 0, none⟩), .int .i64 64] w fun e w' => e = .returned (.int .i64 (countR 64 s).1) ∧ Rd B Z w' g (countR 64 s).2 ∧ Apart (G1 g) w w') := rd_count h 64 (by omega)
  have bd := countR_bd (m := 64) h.good_byt
  have el : listR 64 relR s = timesR relR (countR 64 s).1.toNat (countR 64 s).2 := rfl
  obtain ⟨N, eN⟩ := Int.eq_ofNat_of_zero_le bd.1
  rw [el, eN, Int.toNat_natCast]
  rw [eN] at CT bd
  have HN : Hid (N ≤ 65535) := by have := bd.2; unfold Hid; omega
  have hN : (N : Int) ≤ 65535 := bd.2
  have hb := h.base
  generalize (countR 64 s).2 = s1 at *
  obtain ⟨R, eR⟩ : ∃ R, timesR relR N s1 = R := ⟨_, rfl⟩
  have ER : Hid (timesR relR N s1 = R) := eR
  rw [eR]
  have HB : Hid (g < B ∧ B ≤ w.heap.size) := hb
  obtain ⟨i0, hi0, hz0, hz1, hz2⟩ := info_parts infoRel
  clear h el bd hb eR eN
  go_enter Try.func40, Try.ntmps40
  go_wp2_with (go_at_call 37; refine CT.out.mono ?_; rintro e w1 ⟨rfl, hr1, hA1⟩)
  go_loopw [3, 5] (fun out iv wr => ∃ (k : Nat) (l : List RelM) (t : St), k ≤ N ∧ iv = .int .i64 k ∧ l.length = k ∧ wr.ownsRow w.heap.size 94 4 out l.length (l.flatMap relC) ∧ (∀ r ∈ l, r.name.size ≤ 255) ∧ Rd B Z wr g t ∧ timesR relR N s1 = (l ++ (timesR relR (N - k) t).1, (timesR relR (N - k) t).2) ∧ Apart (G1 g) w wr) (fun _ iv _ => N - (intOf iv).toNat)
  case atStart => exact ⟨0, [], s1, Nat.zero_le _, rfl, rfl, ⟨rfl, .inl ⟨rfl, rfl⟩⟩, fun r hr => by (cases hr), hr1, rfl, hA1⟩
  case round =>
    obtain ⟨k, l, t, hk, rfl, hl, hown, hsz, hrt, htm, hap⟩ := hrel
    have HOWN : Hid (wr.ownsRow w.heap.size 94 4 _ l.length (l.flatMap relC)) := hown
    have HSZ : Hid (∀ r ∈ l, r.name.size ≤ 255) := hsz
    have HRT : Hid (Rd B Z wr g t) := hrt
    have HTM : Hid (timesR relR N s1 = (l ++ (timesR relR (N - k) t).1, (timesR relR (N - k) t).2)) := htm
    have HAP : Hid (Apart (G1 g) w wr) := hap
    have HL : Hid (l.length = k) := hl
    clear hr1 hA1 hown hsz htm hap hl
    by_cases hlt : k < N
    · have hlt' : (k : Int) < N := by omega
      rcases hrt.code with ⟨b, rfl, hc⟩ | ⟨e, rfl, hc, ne⟩
      · clear hrt
        obtain ⟨a0, c0, rfl⟩ := own_form HOWN.out
        obtain ⟨a1, A1⟩ : ∃ a, (numR 2 (.good b)).1 = a := ⟨_, rfl⟩
        obtain ⟨t1, T1⟩ : ∃ t, (numR 2 (.good b)).2 = t := ⟨_, rfl⟩
        obtain ⟨a2, A2⟩ : ∃ a, (numR 1 t1).1 = a := ⟨_, rfl⟩
        obtain ⟨t2, T2⟩ : ∃ t, (numR 1 t1).2 = t := ⟨_, rfl⟩
        obtain ⟨nm, A3⟩ : ∃ a, (nameR t2).1 = a := ⟨_, rfl⟩
        obtain ⟨t3, T3⟩ : ∃ t, (nameR t2).2 = t := ⟨_, rfl⟩
        obtain ⟨d, A4⟩ : ∃ a, (numR 4 t3).1 = a := ⟨_, rfl⟩
        obtain ⟨t4, T4⟩ : ∃ t, (numR 4 t3).2 = t := ⟨_, rfl⟩
        have hx : relR (.good b) = (⟨a1, a2, nm, d - 2147483648⟩, (mustR (decide (-1048576 ≤ d - 2147483648 ∧ d - 2147483648 ≤ 1048576)) t4).2) := by
          subst A1 T1 A2 T2 A3 T3 A4 T4; rfl
        have HX : Hid (relR (.good b) = (⟨a1, a2, nm, d - 2147483648⟩, (mustR (decide (-1048576 ≤ d - 2147483648 ∧ d - 2147483648 ≤ 1048576)) t4).2)) := hx
        have C1 : Hid (∀ W, Rd B Z W g (.good b) → Calls Try.prog 39 #[.pointer (some ⟨g, 0, none⟩), .int .i64 2] W fun e w' => e = .returned (.int .i64 a1) ∧ Rd B Z w' g t1 ∧ Apart (G1 g) W w') := fun W h => by rw [← A1, ← T1]; exact rd_num h 2 (by omega) (by omega)
        have C2 : Hid (∀ W, Rd B Z W g t1 → Calls Try.prog 39 #[.pointer (some ⟨g, 0, none⟩), .int .i64 1] W fun e w' => e = .returned (.int .i64 a2) ∧ Rd B Z w' g t2 ∧ Apart (G1 g) W w') := fun W h => by rw [← A2, ← T2]; exact rd_num h 1 (by omega) (by omega)
        have C3 : Hid (∀ W, Rd B Z W g t2 → Calls Try.prog 38 #[.pointer (some ⟨g, 0, none⟩)] W fun e w' => e = .returned (.string nm) ∧ Rd B Z w' g t3 ∧ Apart (G1 g) W w') := fun W h => by rw [← A3, ← T3]; exact rd_name h
        have C4 : Hid (∀ W, Rd B Z W g t3 → Calls Try.prog 39 #[.pointer (some ⟨g, 0, none⟩), .int .i64 4] W fun e w' => e = .returned (.int .i64 d) ∧ Rd B Z w' g t4 ∧ Apart (G1 g) W w') := fun W h => by rw [← A4, ← T4]; exact rd_num h 4 (by omega) (by omega)
        have C5 : Hid (∀ W bb, Rd B Z W g t4 → Calls Try.prog 35 #[.pointer (some ⟨g, 0, none⟩), .bool bb] W fun e w' => e = .returned (.tuple #[]) ∧ Rd B Z w' g (mustR bb t4).2 ∧ Apart (G1 g) W w') := fun W bb h => rd_must h bb
        have S3 : Hid (∀ W, Rd B Z W g t2 → nm.size ≤ 255) := fun W h => by rw [← A3]; exact nameR_size h.good_byt
        have D4 : Hid (∀ W, Rd B Z W g t3 → 0 ≤ d ∧ d < 4294967296) := fun W h => by rw [← A4, ← p256_4]; exact numR_bd h.good_byt
        have HK : Hid (Stable g wr.heap.size fun W => W.ownsRow w.heap.size 94 4 (.slice a0 l.length c0) l.length (l.flatMap relC)) := fun W W' h1 h2 h3 => own_lo h1 fun k hk1 hk2 => by
          have q := own_oct HOWN.out k hk2
          have := HB.out
          exact h3 k hk1 (by omega) (by omega)
        have L0 : Lp B Z w g wr.heap.size (fun W => W.ownsRow w.heap.size 94 4 (.slice a0 l.length c0) l.length (l.flatMap relC)) (.good b) [.int .i64 0, .int .i64 0, .string ⟨#[]⟩, .int .i64 0] (wr.alloc (.cells #[.int .i64 0, .int .i64 0, .string ⟨#[]⟩, .int .i64 0] 94)) := by
          have up : Below wr.heap.size wr (wr.alloc (.cells #[.int .i64 0, .int .i64 0, .string ⟨#[]⟩, .int .i64 0] 94)) := keep_alloc8 (Below.refl _ _) _
          exact ⟨HRT.out.later up, XAt.new _ _ _, own_below HOWN.out up, HAP.out.then up, by simp, ⟨HRT.out.base.2, HAP.out.size⟩⟩
        clear hx A1 T1 A2 T2 A3 T3 A4 T4
        go_upto_region 7 with fail
        generalize wr.alloc (.cells #[.int .i64 0, .int .i64 0, .string ⟨#[]⟩, .int .i64 0] 94) = w6 at L0 ⊢
        go_upto_region 8 with (go_at_call 39; refine (C1.out _ L0.rd).mono ?_; rintro e w7 ⟨rfl, hR, hA⟩; have L1 := L0.call HK.out hR hA; have xx := L1.xa.1 0 _ rfl; have zz := L1.xa.2 0)
        have L1' := L1.set HK.out 0 (by simp) (.int .i64 a1)
        clear xx zz hR hA L0 L1
        generalize w7.setCell ⟨wr.heap.size, 0, none⟩ (.int .i64 a1) = w7' at L1' ⊢
        go_upto_region 9 with (go_at_call 39; refine (C2.out _ L1'.rd).mono ?_; rintro e w8 ⟨rfl, hR, hA⟩; have L2 := L1'.call HK.out hR hA; have xx := L2.xa.1 1 _ rfl; have zz := L2.xa.2 1)
        have L2' := L2.set HK.out 1 (by simp) (.int .i64 a2)
        clear xx zz hR hA L1' L2
        generalize w8.setCell ⟨wr.heap.size, 1, none⟩ (.int .i64 a2) = w8' at L2' ⊢
        go_upto_region 10 with (go_at_call 38; refine (C3.out _ L2'.rd).mono ?_; have hnm := S3.out _ L2'.rd; rintro e w9 ⟨rfl, hR, hA⟩; have L3 := L2'.call HK.out hR hA; have xx := L3.xa.1 2 _ rfl; have zz := L3.xa.2 2)
        have L3' := L3.set HK.out 2 (by simp) (.string nm)
        clear xx zz hR hA L2' L3
        generalize w9.setCell ⟨wr.heap.size, 2, none⟩ (.string nm) = w9' at L3' ⊢
        have HNM : Hid (nm.size ≤ 255) := hnm
        clear hnm
        have hd := D4.out _ L3'.rd
        go_upto_region 11 with (go_at_call 39; refine (C4.out _ L3'.rd).mono ?_; rintro e w10 ⟨rfl, hR, hA⟩; have L4 := L3'.call HK.out hR hA; have xx := L4.xa.1 3 _ rfl; have zz := L4.xa.2 3)
        have L4' := L4.set HK.out 3 (by simp) (.int .i64 (d - 2147483648))
        clear xx zz hR hA L3' L4
        generalize w10.setCell ⟨wr.heap.size, 3, none⟩ (.int .i64 (d - 2147483648)) = w10' at L4' ⊢
        obtain ⟨bb, ebb⟩ : ∃ bb, decide (-1048576 ≤ d - 2147483648 ∧ d - 2147483648 ≤ 1048576) = bb := ⟨_, rfl⟩
        have HX2 : Hid (relR (.good b) = (⟨a1, a2, nm, d - 2147483648⟩, (mustR bb t4).2)) := by rw [← ebb]; exact HX.out
        have x3 := L4'.xa.1 3 _ rfl
        have h3 : (bb = true ∧ -1048576 ≤ d - 2147483648 ∧ d - 2147483648 ≤ 1048576) ∨ (bb = false ∧ -1048576 ≤ d - 2147483648 ∧ 1048576 < d - 2147483648) ∨ (bb = false ∧ d - 2147483648 < -1048576) := by
          cases bb
          · rw [decide_eq_false_iff_not] at ebb
            by_cases q : -1048576 ≤ d - 2147483648
            · exact .inr (.inl ⟨rfl, q, by omega⟩)
            · exact .inr (.inr ⟨rfl, by omega⟩)
          · rw [decide_eq_true_eq] at ebb; exact .inl ⟨rfl, ebb.1, ebb.2⟩
        clear ebb HX hd
        rcases h3 with ⟨rfl, q1, q2⟩ | ⟨rfl, q1, q2⟩ | ⟨rfl, q1⟩
        all_goals
          go_upto_region 12 with (go_at_call 35; refine (C5.out _ _ L4'.rd).mono ?_; rintro e w11 ⟨rfl, hR, hA⟩; have L5 := L4'.call HK.out hR hA)
          clear x3 hR hA
          have x0 := L5.xa.1 0 _ rfl
          have x1 := L5.xa.1 1 _ rfl
          have x2 := L5.xa.1 2 _ rfl
          have x3 := L5.xa.1 3 _ rfl
          go_wp2_with (at_builtin; refine wpList_append_all _ rfl (.tmp 45) (.tmp 47) 42 rfl w.heap.size 94 i0 _ 4 40 Try.underlying42 hi0 hz0 hz1 hz2 rfl (by decide) (.slice a0 l.length c0) l.length (l.flatMap relC) rfl (own_below L5.k (keep_alloc8 (Below.refl _ _) _)) (some ⟨w11.heap.size, 0, none⟩) 1 1 (relC ⟨a1, a2, nm, d - 2147483648⟩) rfl rfl (fun e => by cases e) (news_new w11 _ _ _ rfl) (by intro u hu; simp [relC] at hu; rcases hu with rfl | rfl | rfl | rfl <;> rfl) (by have := HL.out; have := HN.out; unfold maxLen; omega) (by have := HL.out; have := HN.out; omega) (by have := L5.lt; have := L5.hx; simp; omega) ?_; intro a9 c9 w12 own9 grow9)
          have hle := L5.ap.size
          have bel : Below w.heap.size w11 w12 := Below.grown ((keep_alloc8 (Below.refl _ _) _).mono hle) grow9 (Nat.le_trans hle (keep_alloc8 (Below.refl _ w11) _).size) (fun q hq => (own_oct L5.k q hq).1)
          go_roundw
          case rel => exact ⟨k + 1, l ++ [⟨a1, a2, nm, d - 2147483648⟩], _, by omega, by go_num, by rw [List.length_append, HL.out]; rfl, own_more relC own9, names_more HSZ.out HNM.out, L5.rd.low (bel.mono HB.out.2), times_more HTM.out (by have h := HX2.out; first | exact h | (rw [show decide (d - 2147483648 ≤ 1048576) = false from by rw [decide_eq_false_iff_not]; omega]; exact h)) hlt, apart_low L5.ap bel⟩
          case measure => simp [intOf]; omega
      · clear hrt
        go_wp2
        go_ret
        have e1 : timesR relR N s1 = (l, .bad e) := by rw [HTM.out, times_bad, List.append_nil]
        rw [← ER.out, e1]
        exact ⟨_, rfl, own_rels HOWN.out HSZ.out, HRT.out, HAP.out⟩
    · obtain rfl : k = N := by omega
      clear hrt
      go_wp2
      go_ret
      have e1 : timesR relR k s1 = (l, t) := by rw [HTM.out, Nat.sub_self]; show (l ++ [], t) = _; rw [List.append_nil]
      rw [← ER.out, e1]
      exact ⟨_, rfl, own_rels HOWN.out HSZ.out, HRT.out, HAP.out⟩
end Go.Proofs.Ytcbhnpjaaaefiaa
