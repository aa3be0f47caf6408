/- What the document's own Read of images returns. -/
import Derived.Test.YtlpmkbdoofbmiaaImgRd0
import Derived.Test.YtlpmkbdoofbmiaaImgWr
import Derived.Deep.CutRange
namespace Go.Proofs.Ytlpmkbdoofbmiaa
open Go.ChangeShapes Go.WideShapes Go.ChangeAt Go.RowKit
set_option linter.unusedVariables false
set_option linter.unusedSimpArgs false
theorem XAt.five {W : World} {X : Nat} {a0 a1 a2 a3 a4 : Value} (h : XAt W X [a0, a1, a2, a3, a4]) : (W.cell? ⟨X, 0, none⟩ = some a0 ∧ W.cell? ⟨X, 1, none⟩ = some a1 ∧ W.cell? ⟨X, 2, none⟩ = some a2 ∧ W.cell? ⟨X, 3, none⟩ = some a3 ∧ W.cell? ⟨X, 4, none⟩ = some a4) ∧ W.frozen? ⟨X, 0, none⟩ = false ∧ W.frozen? ⟨X, 1, none⟩ = false ∧ W.frozen? ⟨X, 2, none⟩ = false ∧ W.frozen? ⟨X, 3, none⟩ = false ∧ W.frozen? ⟨X, 4, none⟩ = false :=
  ⟨⟨h.1 0 _ rfl, h.1 1 _ rfl, h.1 2 _ rfl, h.1 3 _ rfl, h.1 4 _ rfl⟩, h.2 0, h.2 1, h.2 2, h.2 3, h.2 4⟩
theorem times_fail {α : Type} {f : Rdr α} {N k : Nat} {s1 : St} {l : List α} {b : Bs} {x : α} {e : Int} (h : timesR f N s1 = (l ++ (timesR f (N - k) (.good b)).1, (timesR f (N - k) (.good b)).2)) (hx : f (.good b) = (x, .bad e)) (hk : k < N) : ∃ z, timesR f N s1 = (z, .bad e) := by
  rw [h, show N - k = (N - (k + 1)) + 1 from by omega, times_good, hx, times_bad]
  exact ⟨_, rfl⟩
/-- Nothing but M is turned, behind Wz. -/
structure Rk (w : World) (M : Nat) (cs : List Value) (Wz W : World) : Prop where
  ri : Ri w M cs W
  ap : Apart (G1 M) Wz W
section
variable {w : World} {M : Nat} {cs : List Value} {Wz W W' : World}
theorem Rk.later (h : Rk w M cs Wz W) (hb : Below W.heap.size W W') : Rk w M cs Wz W' := ⟨h.ri.later hb, h.ap.then hb⟩
theorem Rk.set (h : Rk w M cs Wz W) (i : Nat) (hi : i < cs.length) (v : Value) : Rk w M (cs.set i v) Wz (W.setCell ⟨M, i, none⟩ v) := ⟨h.ri.set i hi v, h.ap.same (set_apart9 _ M i v)⟩
theorem Rk.words (h : Rk w M cs Wz W) {v : Value} {l : List Int} (hw : IsWords (fun k => M < k ∧ k < Wz.heap.size) Wz v l) : IsWords (fun k => M < k ∧ k < W.heap.size) W v l :=
  (hw.keep (Stay.of_apart h.ap fun k h1 h2 => by have h2 : k = M := h2; omega)).wide fun k h1 => ⟨h1.1, Nat.lt_of_lt_of_le h1.2 h.ap.size⟩
theorem Rk.bytes (h : Rk w M cs Wz W) {v : Value} {l : Bs} (hw : IsBytes (fun k => M < k ∧ k < Wz.heap.size) Wz v l) : IsBytes (fun k => M < k ∧ k < W.heap.size) W v l :=
  (hw.keep (Stay.of_apart h.ap fun k h1 h2 => by have h2 : k = M := h2; omega)).wide fun k h1 => ⟨h1.1, Nat.lt_of_lt_of_le h1.2 h.ap.size⟩
end
/-- The image, and no error. -/
theorem out_good {w W : World} {l : Bs} {M : Nat} {vc vd : Value} {m : ImM} (h : XAt W w.heap.size nil5) (hM : w.heap.size < M) (hb : Below w.heap.size w W) (hr : readI l = (m, 0)) (h1 : IsWords (fun k => M < k ∧ k < W.heap.size) W vc m.code) (h2 : IsBytes (fun k => M < k ∧ k < W.heap.size) W vd m.data) :
    XAt (((((W.setCell ⟨w.heap.size, 0, none⟩ vc).setCell ⟨w.heap.size, 1, none⟩ (.int .i64 m.entry)).setCell ⟨w.heap.size, 2, none⟩ vd).setCell ⟨w.heap.size, 3, none⟩ (.int .i64 m.write)).setCell ⟨w.heap.size, 4, none⟩ (.int .i64 m.more)) w.heap.size [vc, .int .i64 m.entry, vd, .int .i64 m.write, .int .i64 m.more] ∧
    ReadOut w l (.returned (.tuple #[.agg #[vc, .int .i64 m.entry, vd, .int .i64 m.write, .int .i64 m.more], .int .i64 0])) (((((W.setCell ⟨w.heap.size, 0, none⟩ vc).setCell ⟨w.heap.size, 1, none⟩ (.int .i64 m.entry)).setCell ⟨w.heap.size, 2, none⟩ vd).setCell ⟨w.heap.size, 3, none⟩ (.int .i64 m.write)).setCell ⟨w.heap.size, 4, none⟩ (.int .i64 m.more)) := by
  obtain ⟨k1, k2⟩ := sets5 h vc (.int .i64 m.entry) vd (.int .i64 m.write) (.int .i64 m.more)
  have e : (readI l).1 = m := by rw [hr]
  refine ⟨k1, ⟨_, by rw [hr], ?_⟩, hb.trans (k2.low (fun k hk => by have e : k = w.heap.size := hk; omega) hb.size)⟩
  rw [e]
  refine ⟨vc, vd, rfl, ?_, ?_⟩
  · exact (h1.keep (Stay.of_apart k2 fun k h1 h2 => by have h2 : k = w.heap.size := h2; omega)).wide fun k h1 => ⟨by omega, Nat.lt_of_lt_of_le h1.2 k2.size⟩
  · exact (h2.keep (Stay.of_apart k2 fun k h1 h2 => by have h2 : k = w.heap.size := h2; omega)).wide fun k h1 => ⟨by omega, Nat.lt_of_lt_of_le h1.2 k2.size⟩
theorem img_0 {l : Bs} (h : l.length < 4) : readI l = (noIm, 2) := by
  obtain ⟨y, e⟩ := bind_bad (f := takeR 4) (g := fun l => bindR (mustR (beginB l)) fun _ => img1) (fun _ => keeps_bind (keeps_must _) fun _ => keeps1) (take_short (b := l) (k := 4) h)
  exact readI_bad (y := y) e
theorem img_1 {l : Bs} (h : 4 ≤ l.length) (hb : beginB (l.take 4) = false) : readI l = (noIm, 4) := by
  obtain ⟨y, e⟩ := bind_bad (f := mustR (beginB (l.take 4))) (g := fun _ => img1) (fun _ => keeps1) (must_no (b := l.drop 4) hb)
  refine readI_bad (y := y) ?_
  unfold imgR
  rw [bind_fwd (take_good h)]; exact e
theorem img_2 {l : Bs} (h : 4 ≤ l.length) (hb : beginB (l.take 4) = true) : imgR (.good l) = img1 (.good (l.drop 4)) := by
  unfold imgR
  rw [bind_fwd (take_good h), bind_fwd (must_fwd hb _)]
/-- The first four bytes, as text. -/
theorem first_text {A : Nat → Prop} {w : World} {a : Option Addr} {n c : Nat} {l : Bs} (h : IsBytes A w (.slice a n c) l) (h4 : 4 ≤ n) : (convert 23 9 (.slice a 4 c)).run Try.prog w = .ok (.string (textL (l.take 4))) w := by
  obtain ⟨a', c', e, ⟨hh, -⟩, hb, -⟩ := h.row
  simp only [Value.slice.injEq] at e
  obtain ⟨rfl, rfl, rfl⟩ := e
  have hy := h.2
  have hb4 : Bytes w a 4 (gF (l.take 4)) := by
    refine ⟨gF_byt fun x hx => hy x (List.mem_of_mem_take hx), .inr ?_⟩
    obtain ⟨b, off, e, hc⟩ := hb.2.resolve_left (by omega)
    exact ⟨b, off, e, fun i hi => by rw [gF_take hi]; exact hc i (by omega)⟩
  have e := text_conv w a 4 c _ hb4
  have e2 : (l.take 4).length = 4 := by rw [List.length_take]; omega
  have e3 := textL_gF (l.take 4)
  rw [e2] at e3
  rw [e3]; exact e
set_option maxRecDepth 100000 in
set_option maxHeartbeats 2000000 in
theorem rread15 {A : Nat → Prop} {w : World} {v : Value} {l : Bs} (h : IsBytes A w v l) (hl : l.length ≤ 100000) :
    Calls Try.prog 14 #[v] w (ReadOut w l) := by
  have hby := h.2
  have hrow := h.row
  obtain ⟨a, c, rfl, ⟨hh, hc⟩, hb, -⟩ := hrow
  have HV := Hid.mk9 h
  have HH := Hid.mk9 hh
  have HY := Hid.mk9 hby
  have FR : Hid (∀ W (x : Int) (k : Nat), x = k → k ≤ 1000000 → Below w.heap.size w W → Calls Try.prog 22 #[.slice a l.length c, .int .i64 x] W fun e w' => e = .returned (.int .i64 (fourZ l k)) ∧ Below W.heap.size W w') := fun W x k hx hk hW => by
    subst hx; exact four15 (HV.out.keep (Stay.of_below hW)) k hk
  obtain ⟨n, en⟩ : ∃ n, l.length = n := ⟨_, rfl⟩
  have HN := Hid.mk9 en
  rw [en] at HV HH FR hl hb hh ⊢
  have hn : (n : Int) ≤ 100000 := by omega
  have X0 := Hid.mk9 (XAt.new w #[.slice none 0 0, .int .i64 0, .slice none 0 0, .int .i64 0, .int .i64 0] 25)
  have B0 : Hid (Below w.heap.size w (w.alloc (.cells #[.slice none 0 0, .int .i64 0, .slice none 0 0, .int .i64 0, .int .i64 0] 25))) := keep_alloc8 (Below.refl _ _) _
  clear h hby hc hb en hl
  go_enter Try.func14, Try.ntmps14
  go_upto_region 1 with fail
  have R0 : Hid (w.heap.size < (w.alloc (.cells #[.slice none 0 0, .int .i64 0, .slice none 0 0, .int .i64 0, .int .i64 0] 25)).heap.size) := by unfold Hid; simp
  generalize w.alloc (.cells #[.slice none 0 0, .int .i64 0, .slice none 0 0, .int .i64 0, .int .i64 0] 25) = w1 at X0 B0 R0 ⊢
  replace X0 : Hid (XAt w1 w.heap.size nil5) := X0
  by_cases h4 : (n : Int) < 4
  · have hr : readI l = (noIm, 2) := img_0 (by have := HN.out; omega)
    have K := out_bad (X0.out) (B0.out) hr
    obtain ⟨⟨y0, y1, y2, y3, y4⟩, z0, z1, z2, z3, z4⟩ := XAt.five (X0.out)
    have KK := Hid.mk9 K
    clear K hr
    go_wp2
    exact bodyPost_ret (results_img Try.results14 _ w.heap.size (by first | rfl | simp) _ (by first | rfl | simp) _ _ _ _ _ _ KK.out.1) rfl KK.out.2
  have S4 : ∀ W, (Instr.slice 23 (.slice a n c) none (some (.int .i64 4)) none).run Try.prog W = .ok (.slice a 4 c) W := fun W => slice_first9 W a n c 4 (by omega) HH.out.1
  have CV := first_text (HV.out.keep (Stay.of_below B0.out)) (by omega : 4 ≤ n)
  have bd := begin_dec (l := l.take 4) (fun x hx => HY.out x (List.mem_of_mem_take hx))
  have h4' : 4 ≤ l.length := by have := HN.out; omega
  cases hbg : beginB (l.take 4)
  · rw [hbg] at bd
    have hr := img_1 h4' hbg
    have K := out_bad (X0.out) (B0.out) hr
    obtain ⟨⟨y0, y1, y2, y3, y4⟩, z0, z1, z2, z3, z4⟩ := XAt.five (X0.out)
    have KK := Hid.mk9 K
    clear K hr
    go_wp2
    exact bodyPost_ret (results_img Try.results14 _ w.heap.size (by first | rfl | simp) _ (by first | rfl | simp) _ _ _ _ _ _ KK.out.1) rfl KK.out.2
  rw [hbg] at bd
  have HR0 := Hid.mk9 (img_2 h4' hbg)
  clear hbg h4'
  go_upto_region 5 with fail
  clear S4 CV bd
  have F1 := FR.out w1 4 4 rfl (by omega) B0.out
  rcases four_most HY.out 4 65536 with ⟨h1, y, h2⟩ | ⟨X, h1, h2, h3, -, y, h5⟩ | ⟨N, h1, h2, h3, h5⟩
  · rw [h1] at F1
    have hr : readI l = (noIm, 2) := by
      obtain ⟨z, e⟩ := bind_bad (g := fun n => bindR (timesR (numR 4) n.toNat) fun code => img2 code) (fun _ => keeps_bind (keeps_times _ _) fun _ => keeps2 _) h2
      exact readI_bad (y := z) (HR0.out.trans e)
    clear h1 h2
    go_wp2_with (go_at_call 22; refine F1.mono ?_; rintro e w2 ⟨rfl, b2⟩; have KK := Hid.mk9 (out_bad (X0.out.later R0.out b2) (bnext B0.out b2) hr); obtain ⟨⟨y0, y1, y2, y3, y4⟩, z0, z1, z2, z3, z4⟩ := XAt.five (X0.out.later R0.out b2))
    exact bodyPost_ret (results_img Try.results14 _ w.heap.size (by first | rfl | simp) _ (by first | rfl | simp) _ _ _ _ _ _ KK.out.1) rfl KK.out.2
  · rw [h1] at F1
    have hr : readI l = (noIm, 4) := by
      obtain ⟨z, e⟩ := bind_bad (g := fun n => bindR (timesR (numR 4) n.toNat) fun code => img2 code) (fun _ => keeps_bind (keeps_times _ _) fun _ => keeps2 _) h5
      exact readI_bad (y := z) (HR0.out.trans e)
    clear h1 h5
    go_wp2_with (go_at_call 22; refine F1.mono ?_; rintro e w2 ⟨rfl, b2⟩; have KK := Hid.mk9 (out_bad (X0.out.later R0.out b2) (bnext B0.out b2) hr); obtain ⟨⟨y0, y1, y2, y3, y4⟩, z0, z1, z2, z3, z4⟩ := XAt.five (X0.out.later R0.out b2))
    exact bodyPost_ret (results_img Try.results14 _ w.heap.size (by first | rfl | simp) _ (by first | rfl | simp) _ _ _ _ _ _ KK.out.1) rfl KK.out.2
  rw [h1] at F1
  have HR1 : Hid (imgR (.good l) = bindR (timesR (numR 4) N) (fun code => img2 code) (.good (l.drop 8))) := by
    have h := HR0.out
    unfold img1 at h
    rw [bind_fwd h5, Int.toNat_natCast] at h
    exact h
  clear h1 h5 HR0 h3
  go_upto_region 10 with (go_at_call 22; refine F1.mono ?_; rintro e w2 ⟨rfl, b2⟩)
  have X2 := Hid.mk9 (X0.out.later R0.out b2)
  have B2 := Hid.mk9 (bnext B0.out b2)
  have R2 : Hid (w.heap.size < w2.heap.size) := Nat.lt_of_lt_of_le R0.out b2.size
  clear F1 b2 X0 B0 R0
  go_upto_region 11 with fail
  have I2 : Hid (Ri w w2.heap.size nil5 (w2.alloc (.cells #[.slice none 0 0, .int .i64 0, .slice none 0 0, .int .i64 0, .int .i64 0] 25))) := ⟨X2.out.later R2.out (keep_alloc8 (Below.refl _ _) _), XAt.new _ _ _, ⟨R2.out, by simp⟩, keep_alloc8 B2.out _⟩
  clear X2 B2 R2
  generalize w2.alloc (.cells #[.slice none 0 0, .int .i64 0, .slice none 0 0, .int .i64 0, .int .i64 0] 25) = w3 at I2 ⊢
  generalize w2.heap.size = M at I2 ⊢
  obtain ⟨i0, hi0, hz0, hz1, hz2⟩ := info_parts slW
  have HI := Hid.mk9 (And.intro hi0 (And.intro hz0 (And.intro hz1 hz2)))
  clear hi0 hz0 hz1 hz2
  go_wp2
  go_loopw [6, 7] (fun p i wr => ∃ (k P : Nat) (L : List Int) (vc : Value), k ≤ N ∧ i = .int .i64 k ∧ p = .int .i64 P ∧ P = 8 + 4 * k ∧ L.length = k ∧ Wrd L ∧ Ri w M [vc, .int .i64 0, .slice none 0 0, .int .i64 0, .int .i64 0] wr ∧ OwnW (M + 1) wr vc L ∧ timesR (numR 4) N (.good (l.drop 8)) = (L ++ (timesR (numR 4) (N - k) (.good (l.drop P))).1, (timesR (numR 4) (N - k) (.good (l.drop P))).2)) (fun _ i _ => N - (intOf i).toNat)
  case atStart => exact ⟨0, 8, [], .slice none 0 0, Nat.zero_le _, rfl, rfl, rfl, rfl, (fun _ h => by cases h), I2.out, own_none, rfl⟩
  case round =>
    clear I2
    obtain ⟨k, P, L, vc, hk, rfl, rfl, hP, hL, hW, hri, hown, htm⟩ := hrel
    have IR := Hid.mk9 hri
    have OW := Hid.mk9 hown
    have TM := Hid.mk9 htm
    have HL := Hid.mk9 (And.intro hL hW)
    have HP := Hid.mk9 hP
    obtain ⟨ca, cc, rfl⟩ := own_form hown
    have hP2 : (P : Int) ≤ 262200 := by omega
    clear hri hown htm hL hW hP
    by_cases hlt : k < N
    · have hlt' : (k : Int) < N := by omega
      have F2 := FR.out wr (P : Int) P rfl (by omega) IR.out.low
      rcases four_num HY.out P with ⟨h1, y, h2⟩ | ⟨X, h1, h3, h4, h5⟩
      · rw [h1] at F2
        have hr : readI l = (noIm, 2) := by
          obtain ⟨z, e⟩ := times_fail TM.out h2 hlt
          obtain ⟨z', e'⟩ := bind_bad (g := fun code => img2 code) (fun _ => keeps2 _) e
          exact readI_bad (y := z') (HR1.out.trans e')
        clear h1 h2 TM
        go_wp2_with (go_at_call 22; refine F2.mono ?_; rintro e w2 ⟨rfl, b2⟩; have KK := Hid.mk9 (out_bad ((IR.out.later b2).xr) ((IR.out.later b2).low) hr); obtain ⟨⟨y0, y1, y2, y3, y4⟩, z0, z1, z2, z3, z4⟩ := XAt.five ((IR.out.later b2).xr))
        exact bodyPost_ret (results_img Try.results14 _ w.heap.size (by first | rfl | simp) _ (by first | rfl | simp) _ _ _ _ _ _ KK.out.1) rfl KK.out.2
      · rw [h1] at F2
        have T2 := Hid.mk9 (times_more TM.out h5 hlt)
        have hX : (X : Int) < 4294967296 := by omega
        have uX := wrap_u32 (y := (X : Int)) (by omega) hX
        have WN : Hid (Wrd (L ++ [(X : Int)])) := fun z hz => by
          rcases List.mem_append.mp hz with hz | hz
          · exact HL.out.2 z hz
          · rw [List.mem_singleton] at hz; subst hz; exact ⟨by omega, hX⟩
        clear h1 h5 TM hX h3 h4
        go_upto_region 18 with (go_at_call 22; refine F2.mono ?_; rintro e w4 ⟨rfl, b4⟩)
        have I4 := Hid.mk9 (IR.out.later b4)
        have O4 := Hid.mk9 (OW.out.later b4)
        clear b4 F2 IR OW
        obtain ⟨⟨m0, -, -, -, -⟩, f0, -, -, -, -⟩ := I4.out.xm.five
        have m0' := cell_later' m0 (keep_alloc8 (Below.refl _ _) (.cells #[.int .u32 (X : Int)] 39))
        have O5 := Hid.mk9 (O4.out.later (keep_alloc8 (Below.refl _ _) (.cells #[.int .u32 (X : Int)] 39)))
        go_upto_region 19 with (at_builtin; refine wpList_append_one _ rfl (.tmp 39) (.tmp 42) 22 rfl (M + 1) 39 i0 _ 1 4 Try.underlying22 HI.out.1 HI.out.2.1 HI.out.2.2.1 HI.out.2.2.2 rfl (by decide) _ L.length _ rfl O5.out ⟨w4.heap.size, 0, none⟩ 1 [.int .u32 (X : Int)] rfl rfl (news_new w4 #[.int .u32 (X : Int)] _ _ rfl _ rfl) (by intro u hu; rw [List.mem_singleton] at hu; subst hu; rfl) (by unfold maxLen; have := HL.out.1; omega) (by have := HL.out.1; omega) (by have := I4.out.mr; simp; omega) ?_; intro a5 c5 w5 o5 g5 _; have I5 := (I4.out.later (keep_alloc8 (Below.refl _ _) (.cells #[.int .u32 (X : Int)] 39))).grown g5 (fun q hq => by have := (own_oct O5.out q hq).1; omega); obtain ⟨⟨p0, -, -, -, -⟩, q0, -, -, -, -⟩ := I5.xm.five)
        have I6 : Hid (Ri w M [.slice a5 (L.length + 1) c5, .int .i64 0, .slice none 0 0, .int .i64 0, .int .i64 0] (w5.setCell ⟨M, 0, none⟩ (.slice a5 (L.length + 1) c5))) := I5.set 0 (by simp) _
        have O6 : Hid (OwnW (M + 1) (w5.setCell ⟨M, 0, none⟩ (.slice a5 (L.length + 1) c5)) (.slice a5 (L.length + 1) c5) (L ++ [(X : Int)])) := by
          have h := own_apart (O := G1 M) o5 (set_apart9 w5 M 0 (.slice a5 (L.length + 1) c5)) (fun k h1 h2 => by have h2 : k = M := h2; omega)
          show World.ownsRow _ _ _ _ _ _ _
          rw [List.length_append, List.map_append]; exact h
        clear o5 g5 I5 p0 q0 I4 O4 O5 m0 m0' f0
        generalize w5.setCell ⟨M, 0, none⟩ (.slice a5 (L.length + 1) c5) = w6 at I6 O6 ⊢
        go_wp2
        go_roundw
        case rel =>
          exact ⟨k + 1, P + 4, L ++ [(X : Int)], _, by omega, by go_num, by go_num, by have := HP.out; omega, by rw [List.length_append, HL.out.1]; rfl, WN.out, I6.out, O6.out, T2.out⟩
        case measure => simp [intOf]; omega
    · obtain rfl : k = N := by omega
      have HR2 : Hid (imgR (.good l) = img2 L (.good (l.drop P))) := by
        have h := HR1.out
        have t := TM.out
        rw [Nat.sub_self] at t
        have t' : timesR (numR 4) k (.good (l.drop 8)) = (L, .good (l.drop P)) := by rw [t]; show (L ++ [], _) = _; rw [List.append_nil]; rfl
        rw [bind_fwd t'] at h
        exact h
      have VW : Hid (IsWords (fun j => M < j ∧ j < wr.heap.size) wr (.slice ca L.length cc) L) := own_words OW.out HL.out.2
      have RK0 : Hid (Rk w M [.slice ca L.length cc, .int .i64 0, .slice none 0 0, .int .i64 0, .int .i64 0] wr wr) := ⟨IR.out, Apart.refl _ _⟩
      have F3 := FR.out wr (P : Int) P rfl (by omega) IR.out.low
      obtain ⟨Z, eZ⟩ : ∃ Z, fourZ l P = Z := ⟨_, rfl⟩
      rw [eZ] at F3
      clear TM OW IR HR1 HI
      go_upto_region 21 with (go_at_call 22; refine F3.mono ?_; rintro e w2 ⟨rfl, b2⟩; have RB := RK0.out.later b2; obtain ⟨⟨-, m1, -, -, -⟩, -, f1, -, -, -⟩ := XAt.five RB.ri.xm)
      have RK1 : Hid (Rk w M [.slice ca L.length cc, .int .i64 Z, .slice none 0 0, .int .i64 0, .int .i64 0] wr (w2.setCell ⟨M, 1, none⟩ (.int .i64 Z))) := RB.set 1 (by simp) _
      clear RB m1 f1 b2 RK0 F3
      generalize w2.setCell ⟨M, 1, none⟩ (.int .i64 Z) = w3 at RK1 ⊢
      obtain ⟨⟨-, m1, -, -, -⟩, -⟩ := XAt.five RK1.out.ri.xm
      have hLk := HL.out.1
      rcases four_most HY.out P (lastZ L.length) with ⟨h1, y, h2⟩ | ⟨E, h1, h2, h3, -, y, h5⟩ | ⟨E, h1, h2, h3, h5⟩
      · rw [eZ] at h1
        subst h1
        have hr : readI l = (noIm, 2) := by
          obtain ⟨z, e⟩ := bind_bad (g := fun entry => img3 L entry) (fun _ => keeps3 _ _) h2
          exact readI_bad (y := z) (HR2.out.trans e)
        clear h2 hLk
        have K := out_bad (RK1.out.ri.xr) (RK1.out.ri.low) hr
        obtain ⟨⟨y0, y1, y2, y3, y4⟩, z0, z1, z2, z3, z4⟩ := XAt.five (RK1.out.ri.xr)
        have KK := Hid.mk9 K
        clear K hr
        go_wp2
        exact bodyPost_ret (results_img Try.results14 _ w.heap.size (by first | rfl | simp) _ (by first | rfl | simp) _ _ _ _ _ _ KK.out.1) rfl KK.out.2
      · rw [eZ] at h1
        subst h1
        have hr : readI l = (noIm, 4) := by
          obtain ⟨z, e⟩ := bind_bad (g := fun entry => img3 L entry) (fun _ => keeps3 _ _) h5
          exact readI_bad (y := z) (HR2.out.trans e)
        have hE1 : (0 : Int) < E := by unfold lastZ at h2; split at h2 <;> omega
        have hE2 : (k : Int) ≤ E := by rw [hLk] at h2; unfold lastZ at h2; split at h2 <;> omega
        clear h5 hLk h2 h3
        have K := out_bad (RK1.out.ri.xr) (RK1.out.ri.low) hr
        obtain ⟨⟨y0, y1, y2, y3, y4⟩, z0, z1, z2, z3, z4⟩ := XAt.five (RK1.out.ri.xr)
        have KK := Hid.mk9 K
        clear K hr
        go_wp2
        exact bodyPost_ret (results_img Try.results14 _ w.heap.size (by first | rfl | simp) _ (by first | rfl | simp) _ _ _ _ _ _ KK.out.1) rfl KK.out.2
      rw [eZ] at h1
      subst h1
      have hE : (E : Int) = 0 ∨ (0 : Int) < E ∧ (E : Int) < k := by rw [hLk] at h2; unfold lastZ at h2; split at h2 <;> omega
      have HR3 : Hid (imgR (.good l) = img3 L (E : Int) (.good (l.drop (P + 4)))) := by
        have h := HR2.out
        unfold img2 at h
        rw [bind_fwd h5] at h
        exact h
      clear h5 h2 HR2 hLk
      go_upto_region 23 with fail
      go_cut [63] from 57 to 62 (fun z wx => z = .bool false ∧ wx = w3)
      case first =>
        rcases hE with hE | ⟨hE1, hE2⟩
        · have g1 : decide ((0 : Int) < E) = false := decide_eq_false (by omega)
          go_wp2
          go_meet
          exact ⟨rfl, rfl⟩
        · go_wp2
          go_meet
          exact ⟨congrArg Value.bool (decide_eq_false (by omega)), rfl⟩
      obtain ⟨rfl, hwc⟩ := hcut
      obtain rfl := hwc.symm
      clear hE m1
      go_upto_region 25 with fail
      have F4 := FR.out w3 ((P : Int) + 4) (P + 4) (by omega) (by omega) RK1.out.ri.low
      rcases four_most HY.out (P + 4) 65536 with ⟨h1, y, h2⟩ | ⟨S, h1, h2, h3, -, y, h5⟩ | ⟨S, h1, h2, h3, h5⟩
      · rw [h1] at F4
        have hr : readI l = (noIm, 2) := by
          obtain ⟨z, e⟩ := bind_bad (g := fun n => img4 L (E : Int) n) (fun _ => keeps4 _ _ _) h2
          exact readI_bad (y := z) (HR3.out.trans e)
        clear h1 h2
        go_wp2_with (go_at_call 22; refine F4.mono ?_; rintro e w2 ⟨rfl, b2⟩; have KK := Hid.mk9 (out_bad ((RK1.out.ri.later b2).xr) ((RK1.out.ri.later b2).low) hr); obtain ⟨⟨y0, y1, y2, y3, y4⟩, z0, z1, z2, z3, z4⟩ := XAt.five ((RK1.out.ri.later b2).xr))
        exact bodyPost_ret (results_img Try.results14 _ w.heap.size (by first | rfl | simp) _ (by first | rfl | simp) _ _ _ _ _ _ KK.out.1) rfl KK.out.2
      · rw [h1] at F4
        have hr : readI l = (noIm, 4) := by
          obtain ⟨z, e⟩ := bind_bad (g := fun n => img4 L (E : Int) n) (fun _ => keeps4 _ _ _) h5
          exact readI_bad (y := z) (HR3.out.trans e)
        clear h1 h5 h3
        go_wp2_with (go_at_call 22; refine F4.mono ?_; rintro e w2 ⟨rfl, b2⟩; have KK := Hid.mk9 (out_bad ((RK1.out.ri.later b2).xr) ((RK1.out.ri.later b2).low) hr); obtain ⟨⟨y0, y1, y2, y3, y4⟩, z0, z1, z2, z3, z4⟩ := XAt.five ((RK1.out.ri.later b2).xr))
        exact bodyPost_ret (results_img Try.results14 _ w.heap.size (by first | rfl | simp) _ (by first | rfl | simp) _ _ _ _ _ _ KK.out.1) rfl KK.out.2
      rw [h1] at F4
      have HR4 : Hid (imgR (.good l) = img4 L (E : Int) (S : Int) (.good (l.drop (P + 8)))) := by
        have h := HR3.out
        unfold img3 at h
        rw [bind_fwd h5] at h
        exact h
      clear h1 h5 HR3
      go_upto_region 30 with (go_at_call 22; refine F4.mono ?_; rintro e w4 ⟨rfl, b4⟩)
      have RK2 := Hid.mk9 (RK1.out.later b4)
      clear F4 b4 RK1
      go_upto_region 31 with fail
      obtain ⟨Q, eQ⟩ : ∃ Q : Nat, Q = P + 8 := ⟨_, rfl⟩
      have eQ' : (P : Int) + 8 = (Q : Int) := by omega
      have hQ : (Q : Int) ≤ 262300 := by omega
      rw [← eQ] at HR4
      rw [eQ']
      have hQn : (Q : Int) ≤ n := by have := HN.out; omega
      clear eQ eQ'
      by_cases hlong : (n : Int) < (Q : Int) + S
      · have hr : readI l = (noIm, 2) := by
          have e0 := take_short (b := l.drop Q) (k := S) (by rw [List.length_drop, HN.out]; omega)
          obtain ⟨z, e⟩ := bind_bad (g := fun data => img5 L (E : Int) data) (fun _ => keeps5 _ _ _) e0
          have h := HR4.out
          unfold img4 at h
          rw [Int.toNat_natCast] at h
          exact readI_bad (y := z) (h.trans e)
        have K := out_bad (RK2.out.ri.xr) (RK2.out.ri.low) hr
        obtain ⟨⟨y0, y1, y2, y3, y4⟩, z0, z1, z2, z3, z4⟩ := XAt.five (RK2.out.ri.xr)
        have KK := Hid.mk9 K
        clear K hr
        go_wp2
        exact bodyPost_ret (results_img Try.results14 _ w.heap.size (by first | rfl | simp) _ (by first | rfl | simp) _ _ _ _ _ _ KK.out.1) rfl KK.out.2
      have hfit : (Q : Int) + S ≤ n := by omega
      have DL : Hid (((l.drop Q).take S).length = S) := by unfold Hid; rw [List.length_take, List.length_drop, HN.out]; omega
      have HR5 : Hid (imgR (.good l) = img5 L (E : Int) ((l.drop Q).take S) (.good (l.drop (Q + S)))) := by
        have h := HR4.out
        unfold img4 at h
        rw [Int.toNat_natCast, bind_fwd (take_good (by rw [List.length_drop, HN.out]; omega)), List.drop_drop] at h
        exact h
      have SL : ∀ W, (Instr.slice 23 (.slice a n c) (some (.int .i64 (Q : Int))) (some (.int .i64 ((Q : Int) + (S : Int)))) none).run Try.prog W = .ok (.slice (fromA a c Q) S (c - Q)) W := fun W => slice_mid W a n c Q S (by have := HH.out.1; omega)
      have SR : Hid (∀ W, Below w.heap.size w W → Src W (fromA a c Q) (c - Q) ((l.drop Q).take S)) := fun W hW => by
        obtain ⟨a', c', e, ⟨hh, -⟩, hb, -⟩ := (HV.out.keep (Stay.of_below hW)).row
        simp only [Value.slice.injEq] at e
        obtain ⟨rfl, -, rfl⟩ := e
        exact src_bytes DL.out (part_head hh (by have := HN.out; omega)) (part_bytes hb hh (by have := HN.out; omega))
      have BY : Hid (Byt ((l.drop Q).take S)) := fun x hx => HY.out x (List.mem_of_mem_drop (List.mem_of_mem_take hx))
      clear HR4 hlong
      obtain ⟨D9, eD9⟩ : ∃ D9, (l.drop Q).take S = D9 := ⟨_, rfl⟩
      rw [eD9] at DL HR5 SR BY
      clear eD9
      go_upto_region 33 with fail
      have O0 : Hid (OwnB w4.heap.size (w4.alloc (.cells #[] 5)) (.slice (some ⟨w4.heap.size, 0, none⟩) 0 0) []) := World.ownsRow_made w4 #[] 0 (Nat.le_refl _) (Nat.zero_le _) rfl
      have U0 : Hid (Below w4.heap.size w4 (w4.alloc (.cells #[] 5))) := keep_alloc8 (Below.refl _ _) _
      have WL := Hid.mk9 (bnext RK2.out.ri.low U0.out)
      go_upto_region 34 with (at_builtin; refine wpList_app9 rfl (.tmp 84) (.tmp 90) rfl w4.heap.size _ [] rfl O0.out (fromA a c Q) S (c - Q) D9 rfl DL.out (SR.out _ WL.out) (by show 0 + S ≤ 3000000; omega) U0.out.size ?_; intro v6 w6 o6 b6 g6; have o7 : w6.ownsRow w4.heap.size 5 1 v6 S (D9.map fun x => .int .u8 x) := (by have h := o6; unfold OwnB at h; rw [List.nil_append, DL.out] at h; exact h); clear o6; obtain ⟨da, dc, rfl⟩ := own_form o7; have RD := RK2.out.later (U0.out.trans b6); obtain ⟨⟨-, -, m2, -, -⟩, -, -, f2, -, -⟩ := XAt.five RD.ri.xm)
      have RK3 : Hid (Rk w M [.slice ca L.length cc, .int .i64 (E : Int), .slice da S dc, .int .i64 0, .int .i64 0] wr (w6.setCell ⟨M, 2, none⟩ (.slice da S dc))) := RD.set 2 (by simp) _
      have VW3 := Hid.mk9 (RK3.out.words VW.out)
      have hM4 : M < w4.heap.size := RK2.out.ri.mr.2
      have VD3 : Hid (IsBytes (fun j => M < j ∧ j < (w6.setCell ⟨M, 2, none⟩ (.slice da S dc)).heap.size) (w6.setCell ⟨M, 2, none⟩ (.slice da S dc)) (.slice da S dc) D9) := by
        have h : IsBytes (Fresh w4.heap.size w6) w6 (.slice da S dc) D9 := own_is (by unfold OwnB; rw [DL.out]; exact o7) BY.out
        exact (h.keep (Stay.of_apart (set_apart9 w6 M 2 (.slice da S dc)) fun k h1 h2 => by have h2 : k = M := h2; have := h1.1; omega)).wide fun k h1 => ⟨Nat.lt_of_lt_of_le hM4 h1.1, by simpa using h1.2⟩
      have RZ : Hid (Rk w M [.slice ca L.length cc, .int .i64 (E : Int), .slice da S dc, .int .i64 0, .int .i64 0] (w6.setCell ⟨M, 2, none⟩ (.slice da S dc)) (w6.setCell ⟨M, 2, none⟩ (.slice da S dc))) := ⟨RK3.out.ri, Apart.refl _ _⟩
      clear RK3 RD o7 b6 g6 m2 f2 hM4 VW O0 U0 WL RK2 SR SL
      generalize w6.setCell ⟨M, 2, none⟩ (.slice da S dc) = w7 at VW3 VD3 RZ ⊢
      have F5 := FR.out w7 ((Q : Int) + S) (Q + S) (by omega) (by omega) RZ.out.ri.low
      obtain ⟨Z, eZ⟩ : ∃ Z, fourZ l (Q + S) = Z := ⟨_, rfl⟩
      rw [eZ] at F5
      go_upto_region 35 with (go_at_call 22; refine F5.mono ?_; rintro e w2 ⟨rfl, b2⟩; have RB := RZ.out.later b2; obtain ⟨⟨-, -, -, m3, -⟩, -, -, -, f3, -⟩ := XAt.five RB.ri.xm)
      have RK4 : Hid (Rk w M [.slice ca L.length cc, .int .i64 (E : Int), .slice da S dc, .int .i64 Z, .int .i64 0] w7 (w2.setCell ⟨M, 3, none⟩ (.int .i64 Z))) := RB.set 3 (by simp) _
      clear RB m3 f3 b2 RZ F5
      generalize w2.setCell ⟨M, 3, none⟩ (.int .i64 Z) = w8 at RK4 ⊢
      obtain ⟨⟨-, -, -, m3, -⟩, -⟩ := XAt.five RK4.out.ri.xm
      rcases four_most HY.out (Q + S) (D9.length : Int) with ⟨h1, y, h2⟩ | ⟨T, h1, h2, h3, -, y, h5⟩ | ⟨T, h1, h2, h3, h5⟩
      · rw [eZ] at h1
        subst h1
        have hr : readI l = (noIm, 2) := by
          obtain ⟨z, e⟩ := bind_bad (g := fun wr => img6 L (E : Int) D9 wr) (fun _ => keeps6 _ _ _ _) h2
          exact readI_bad (y := z) (HR5.out.trans e)
        clear h2
        have K := out_bad (RK4.out.ri.xr) (RK4.out.ri.low) hr
        obtain ⟨⟨y0, y1, y2, y3, y4⟩, z0, z1, z2, z3, z4⟩ := XAt.five (RK4.out.ri.xr)
        have KK := Hid.mk9 K
        clear K hr
        go_wp2
        exact bodyPost_ret (results_img Try.results14 _ w.heap.size (by first | rfl | simp) _ (by first | rfl | simp) _ _ _ _ _ _ KK.out.1) rfl KK.out.2
      · rw [eZ] at h1
        subst h1
        have hr : readI l = (noIm, 4) := by
          obtain ⟨z, e⟩ := bind_bad (g := fun wr => img6 L (E : Int) D9 wr) (fun _ => keeps6 _ _ _ _) h5
          exact readI_bad (y := z) (HR5.out.trans e)
        rw [DL.out] at h2
        clear h5 h3
        have K := out_bad (RK4.out.ri.xr) (RK4.out.ri.low) hr
        obtain ⟨⟨y0, y1, y2, y3, y4⟩, z0, z1, z2, z3, z4⟩ := XAt.five (RK4.out.ri.xr)
        have KK := Hid.mk9 K
        clear K hr
        go_wp2
        exact bodyPost_ret (results_img Try.results14 _ w.heap.size (by first | rfl | simp) _ (by first | rfl | simp) _ _ _ _ _ _ KK.out.1) rfl KK.out.2
      rw [eZ] at h1
      subst h1
      have HR6 : Hid (imgR (.good l) = img6 L (E : Int) D9 (T : Int) (.good (l.drop (Q + S + 4)))) := by
        have h := HR5.out
        unfold img5 at h
        rw [bind_fwd h5] at h
        exact h
      rw [DL.out] at h2
      clear h5 HR5
      go_upto_region 39 with fail
      clear m3
      have F6 := FR.out w8 ((Q : Int) + S + 4) (Q + S + 4) (by omega) (by omega) RK4.out.ri.low
      obtain ⟨Z, eZ⟩ : ∃ Z, fourZ l (Q + S + 4) = Z := ⟨_, rfl⟩
      rw [eZ] at F6
      go_upto_region 40 with (go_at_call 22; refine F6.mono ?_; rintro e w2 ⟨rfl, b2⟩; have RB := RK4.out.later b2; obtain ⟨⟨-, -, -, -, m4⟩, -, -, -, -, f4⟩ := XAt.five RB.ri.xm)
      have RK5 : Hid (Rk w M [.slice ca L.length cc, .int .i64 (E : Int), .slice da S dc, .int .i64 (T : Int), .int .i64 Z] w7 (w2.setCell ⟨M, 4, none⟩ (.int .i64 Z))) := RB.set 4 (by simp) _
      clear RB m4 f4 b2 RK4 F6
      generalize w2.setCell ⟨M, 4, none⟩ (.int .i64 Z) = w9 at RK5 ⊢
      obtain ⟨⟨-, -, -, -, m4⟩, -⟩ := XAt.five RK5.out.ri.xm
      rcases four_most HY.out (Q + S + 4) 65536 with ⟨h1, y, h6⟩ | ⟨U, h1, h6, h7, -, y, h5⟩ | ⟨U, h1, h6, h7, h5⟩
      · rw [eZ] at h1
        subst h1
        have hr : readI l = (noIm, 2) := by
          obtain ⟨z, e⟩ := bind_bad (g := fun mo => pureR (ImM.mk L (E : Int) D9 (T : Int) mo)) (fun _ => keeps_pure _) h6
          exact readI_bad (y := z) (HR6.out.trans e)
        clear h6
        have K := out_bad (RK5.out.ri.xr) (RK5.out.ri.low) hr
        obtain ⟨⟨y0, y1, y2, y3, y4⟩, z0, z1, z2, z3, z4⟩ := XAt.five (RK5.out.ri.xr)
        have KK := Hid.mk9 K
        clear K hr
        go_wp2
        exact bodyPost_ret (results_img Try.results14 _ w.heap.size (by first | rfl | simp) _ (by first | rfl | simp) _ _ _ _ _ _ KK.out.1) rfl KK.out.2
      · rw [eZ] at h1
        subst h1
        have hr : readI l = (noIm, 4) := by
          obtain ⟨z, e⟩ := bind_bad (g := fun mo => pureR (ImM.mk L (E : Int) D9 (T : Int) mo)) (fun _ => keeps_pure _) h5
          exact readI_bad (y := z) (HR6.out.trans e)
        clear h5 h7
        have K := out_bad (RK5.out.ri.xr) (RK5.out.ri.low) hr
        obtain ⟨⟨y0, y1, y2, y3, y4⟩, z0, z1, z2, z3, z4⟩ := XAt.five (RK5.out.ri.xr)
        have KK := Hid.mk9 K
        clear K hr
        go_wp2
        exact bodyPost_ret (results_img Try.results14 _ w.heap.size (by first | rfl | simp) _ (by first | rfl | simp) _ _ _ _ _ _ KK.out.1) rfl KK.out.2
      rw [eZ] at h1
      subst h1
      have HR7 : Hid (imgR (.good l) = (ImM.mk L (E : Int) D9 (T : Int) (U : Int), .good (l.drop (Q + S + 8)))) := by
        have h := HR6.out
        unfold img6 at h
        rw [bind_fwd h5] at h
        exact h
      clear h5 HR6
      go_upto_region 44 with fail
      clear m4
      by_cases hleft : (Q : Int) + S + 8 < n
      · have hr : readI l = (noIm, 2) := readI_left HR7.out (fun e => by have h := congrArg List.length e; rw [List.length_drop, HN.out] at h; simp at h; omega)
        have K := out_bad (RK5.out.ri.xr) (RK5.out.ri.low) hr
        obtain ⟨⟨y0, y1, y2, y3, y4⟩, z0, z1, z2, z3, z4⟩ := XAt.five (RK5.out.ri.xr)
        have KK := Hid.mk9 K
        clear K hr
        go_wp2
        exact bodyPost_ret (results_img Try.results14 _ w.heap.size (by first | rfl | simp) _ (by first | rfl | simp) _ _ _ _ _ _ KK.out.1) rfl KK.out.2
      have hr : readI l = (ImM.mk L (E : Int) D9 (T : Int) (U : Int), 0) := by
        have h := HR7.out
        rw [List.drop_eq_nil_of_le (by rw [HN.out]; omega)] at h
        exact readI_good h
      have hn9 : (n : Int) ≤ (Q : Int) + S + 8 := by omega
      have KK := Hid.mk9 (out_good RK5.out.ri.xr RK5.out.ri.mr.1 RK5.out.ri.low hr (RK5.out.words VW3.out) (RK5.out.bytes VD3.out))
      obtain ⟨⟨m0, m1, m2, m3, m4⟩, -⟩ := XAt.five RK5.out.ri.xm
      obtain ⟨⟨y0, y1, y2, y3, y4⟩, z0, z1, z2, z3, z4⟩ := XAt.five RK5.out.ri.xr
      clear hr HR7 hleft
      go_wp2
      exact bodyPost_ret (results_img Try.results14 _ w.heap.size (by first | rfl | simp) _ (by first | rfl | simp) _ _ _ _ _ _ KK.out.1) rfl KK.out.2
end Go.Proofs.Ytlpmkbdoofbmiaa
