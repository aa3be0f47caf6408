/- Relocations resolved, as the document's answer has it. -/
import Derived.Test.YteakbpcmafdikaaGreatDoorNamChosen
namespace Go.Proofs.YteakbpcmafdikaaGreatDoor
open Go.ChangeShapes Go.WideShapes Go.ChangeAt Go.RowKit
set_option linter.unusedVariables false
set_option linter.unusedSimpArgs false
theorem infoPRel : (Tryz.prog.info? 38).map (fun i => (i.zero, i.size, i.bytes)) = some (some (.agg #[.int .i64 0, .int .i64 0, .int .i64 0, .int .i64 0]), 4, 32) := by kernel_rfl
def prC (p : PRelM) : List Value := [.int .i64 p.at_, .int .i64 p.kind, .int .i64 p.to, .int .i64 p.add]
theorem prC_one (x : PRelM) : ∀ u ∈ prC x, u.oneCell' = true := fun u hu => by
  simp [prC] at hu
  rcases hu with rfl | rfl | rfl | rfl <;> rfl
def OwnP (w : World) (base : Nat) (v : Value) (L : List PRelM) : Prop := w.ownsRow base 38 4 v L.length (L.flatMap prC)
theorem ownP_later {w w1 : World} {base : Nat} {v : Value} {L : List PRelM} (h : OwnP w base v L) (hb : Below w.heap.size w w1) : OwnP w1 base v L :=
  World.ownsRow.kept (row := none) h ⟨hb.os, hb.tape, hb.output, hb.size, fun k hk _ => hb.block k hk⟩ (by cases hv : v.ownBlock <;> simp)
theorem ownP_more {w : World} {base : Nat} {v : Value} {L : List PRelM} {x : PRelM} (h : w.ownsRow base 38 4 v (L.length + 1) (L.flatMap prC ++ prC x)) : OwnP w base v (L ++ [x]) := by
  unfold OwnP
  rw [List.length_append, List.flatMap_append, List.flatMap_singleton]
  exact h
/-- A resolved relocation behind others, at a step of a region that draws its order. -/
theorem step_prel {ops : Array Oper} {o : Oper} {a : Act} {K : Act → World → Prop} {Q : Exit → Act → World → Prop} {E : Prop} (hgd : o.guard = none) (s x : Operand)
    (ho : o.op = .call { callee := .builtin .append, args := #[s, x], argTypes := #[34, 34] }) (W : World) (base : Nat) (hb : base ≤ W.heap.size) (v : Value) (L : List PRelM) (z : PRelM)
    (hs : a.eval s = v) (hown : OwnP W base v L) (hx : a.eval x = .slice (some ⟨W.heap.size, 0, none⟩) 1 1) (hm : L.length ≤ 100000)
    (h : ∀ a' c' w', OwnP w' base (.slice a' (L.length + 1) c') (L ++ [z]) → Below base W w' → K (a.put o.dst (.slice a' (L.length + 1) c')) w') :
    if Region.wanted o (yielded ops a.tmps) = true then Oper.wp Tryz.prog o a ((W.alloc (.cells #[.int .i64 z.at_, .int .i64 z.kind, .int .i64 z.to, .int .i64 z.add] 38)).drew) K Q else E := by
  obtain ⟨i0, hi, hiz, hsz, hby⟩ := info_parts infoPRel
  refine step_append_all _ hgd s x 34 ho base 38 i0 _ 4 32 Tryz.underlying34 hi hiz hsz hby rfl (by decide) v L.length (L.flatMap prC) hs (ownP_later hown (keep_alloc8 (Below.refl _ _) _).drew) (some ⟨W.heap.size, 0, none⟩) 1 1 (prC z) hx rfl (fun e => by cases e) (fun ad ha j u hu => ?_) (prC_one z) (by unfold maxLen; omega) (by omega) (by simp; omega) ?_
  · cases ha
    rw [addr_add11, Nat.zero_add]
    exact cell_any (new_cell' W #[.int .i64 z.at_, .int .i64 z.kind, .int .i64 z.to, .int .i64 z.add] _ j u (by simpa [prC] using hu)) (Below.refl _ _).drew
  · intro a' c' w' own gr
    exact h _ _ w' (ownP_more own) (((Below.refl base W).alloc hb _).drew.grown gr (by simp; omega) (fun q hq => (hown.lt q hq).1))
set_option maxRecDepth 100000 in
set_option maxHeartbeats 8000000 in
theorem rels11_any {A : Nat → Prop} {w : World} {va vf vd vl : Value} {all fs ds : List ItemM} {l : List RelM} (obj : Nat) (ha : IsItems A w va all) (hf : IsItems A w vf fs) (hd : IsItems A w vd ds) (h : IsRels A w vl l)
    (la : all.length ≤ 5000) (lf : fs.length ≤ 5000) (ld : ds.length ≤ 5000) (hl : l.length ≤ 5000) :
    Calls Tryz.prog 26 #[va, vf, vd, .int .i64 (obj : Int), vl] w fun e w' => ((∃ ps v', relsZ all fs ds obj l = .ok ps ∧ e = .returned (.tuple #[v', .int .i64 0]) ∧ OwnP w' w.heap.size v' ps) ∨ ∃ x, relsZ all fs ds obj l = .error x ∧ e = .returned (.tuple #[.slice none 0 0, .int .i64 x])) ∧ Below w.heap.size w w' := by
  have ME : Hid (∀ W (name : ByteArray), Below w.heap.size w W → Calls Tryz.prog 24 #[va, .int .i64 (obj : Int), .string name] W fun e w' => e = .returned (.tuple #[itV ((meanZ all obj name).getD noItem), .bool (meanZ all obj name).isSome]) ∧ Below W.heap.size W w') := fun W name hW => mean_any obj name (ha.keep (Stay.of_below hW)) (by omega)
  have PF : Hid (∀ W (x : ItemM), Below w.heap.size w W → Calls Tryz.prog 25 #[vf, itV x] W fun e w' => e = .returned (.int .i64 (placeZ fs x)) ∧ Below W.heap.size W w') := fun W x hW => place_any x (hf.keep (Stay.of_below hW)) (by omega)
  have PD : Hid (∀ W (x : ItemM), Below w.heap.size w W → Calls Tryz.prog 25 #[vd, itV x] W fun e w' => e = .returned (.int .i64 (placeZ ds x)) ∧ Below W.heap.size W w') := fun W x hW => place_any x (hd.keep (Stay.of_below hW)) (by omega)
  obtain ⟨aa, ac, rfl, -, -, -⟩ := LstA.open ha
  obtain ⟨fa, fc, rfl, -, -, -⟩ := LstA.open hf
  obtain ⟨da, dc, rfl, -, -, -⟩ := LstA.open hd
  obtain ⟨a, c, rfl, -, -, lx⟩ := LstA.open h
  generalize all.length = na at ME
  generalize fs.length = nf at PF
  generalize ds.length = nd at PD
  obtain ⟨n, en⟩ : ∃ n, l.length = n := ⟨_, rfl⟩
  rw [en] at hl lx ⊢
  have LX : Hid (∀ k, k < n → ∃ b off x, a = some ⟨b, off, none⟩ ∧ A b ∧ l[k]? = some x ∧ RelAt w b (off + k * 4) x) := lx
  have HN : Hid (l.length = n) := en
  have hn : (n : Int) ≤ 5000 := by omega
  clear ha hf hd h lx en la lf ld
  go_enter Tryz.func26, Tryz.ntmps26
  go_wp2
  go_loopw [13, 12] (fun i v wr => ∃ (k : Nat) (ps : List PRelM), k ≤ n ∧ i = .int .i64 k ∧ relsZ all fs ds obj (l.take k) = .ok ps ∧ ps.length ≤ k ∧ OwnP wr w.heap.size v ps ∧ Below w.heap.size w wr) (fun i _ _ => n - (intOf i).toNat)
  case atStart => exact ⟨0, [], Nat.zero_le _, rfl, rfl, Nat.le_refl _, World.ownsRow_nil _ _ _ _, Below.refl _ _⟩
  case round =>
    obtain ⟨k, ps, hk, rfl, hs, hpl, hown, hbel⟩ := hrel
    have HB : Hid (Below w.heap.size w wr) := hbel
    have HS : Hid (relsZ all fs ds obj (l.take k) = .ok ps) := hs
    have HW : Hid (OwnP wr w.heap.size u12 ps) := hown
    have LP : Hid (ps.length ≤ k) := hpl
    clear hbel hs hown hpl
    by_cases hlt : k < n
    · have hlt' : (k : Int) < n := by omega
      obtain ⟨b, off, ⟨xa, xk, xn, xd⟩, rfl, -, hx, x0, x1, x2, x3, -⟩ := LX.out k hlt
      dsimp only at x0 x1 x2 x3
      have BAD : Hid (∀ e, relZ all fs ds obj ⟨xa, xk, xn, xd⟩ = .error e → relsZ all fs ds obj l = .error e) := fun e he => eachE_at HS.out hx he
      have OKN : Hid (∀ p, relZ all fs ds obj ⟨xa, xk, xn, xd⟩ = .ok p → relsZ all fs ds obj (l.take (k + 1)) = .ok (ps ++ [p])) := fun p hp => eachE_next HS.out hx hp
      have KEEP : Hid (∀ W, Below w.heap.size wr W → W.cell? ⟨b, off + k * 4, none⟩ = some (.int .i64 xa) ∧ W.cell? ⟨b, off + k * 4 + 1, none⟩ = some (.int .i64 xk) ∧ W.cell? ⟨b, off + k * 4 + 2, none⟩ = some (.string xn) ∧ W.cell? ⟨b, off + k * 4 + 3, none⟩ = some (.int .i64 xd)) := fun W hW =>
        ⟨cell_any x0 (HB.out.trans hW), cell_any x1 (HB.out.trans hW), cell_any x2 (HB.out.trans hW), cell_any x3 (HB.out.trans hW)⟩
      have hsz := HB.out.size
      replace x2 := cell_any x2 HB.out
      clear hx x0 x1 x3
      have M1 := ME.out wr xn HB.out
      cases hM : meanZ all obj xn with
      | none =>
        rw [hM] at M1
        have E : Hid (relsZ all fs ds obj l = .error 6) := BAD.out 6 (by unfold relZ; rw [hM])
        have M2 : Hid (Calls Tryz.prog 24 #[.slice aa na ac, .int .i64 (obj : Int), .string xn] wr fun e w' => e = .returned (.tuple #[.agg #[.int .i64 0, .int .i64 0, .bool false, .string ⟨#[]⟩, .int .i64 0], .bool false]) ∧ Below wr.heap.size wr w') := M1
        clear M1
        go_wp2_with (go_at_call 24; refine M2.out.mono ?_; rintro e w5 ⟨rfl, b5⟩)
        go_ret2
        exact ⟨.inr ⟨6, E.out, rfl⟩, (HB.out.trans (b5.mono hsz)).alloc (Nat.le_trans hsz b5.size) _⟩
      | some m =>
        obtain ⟨zo, za, zd, zn, zb⟩ := m
        rw [hM] at M1
        have M2 : Hid (Calls Tryz.prog 24 #[.slice aa na ac, .int .i64 (obj : Int), .string xn] wr fun e w' => e = .returned (.tuple #[.agg #[.int .i64 (zo : Int), .int .i64 (za : Int), .bool zd, .string zn, .int .i64 zb], .bool true]) ∧ Below wr.heap.size wr w') := M1
        have R9 : Hid (zd = decide (xk = 1) → relsZ all fs ds obj l = .error 9) := fun e => BAD.out 9 (by unfold relZ; rw [hM]; exact if_pos e)
        have RK : Hid (¬ zd = decide (xk = 1) → relsZ all fs ds obj (l.take (k + 1)) = .ok (ps ++ [⟨xa, xk, if zd = true then placeZ ds ⟨zo, za, zd, zn, zb⟩ else placeZ fs ⟨zo, za, zd, zn, zb⟩, xd⟩])) := fun e => OKN.out _ (by unfold relZ; rw [hM]; exact if_neg e)
        clear M1 hM BAD OKN
        go_upto_region 8 with (go_at_call 24; refine M2.out.mono ?_; rintro e w5 ⟨rfl, b5⟩)
        have U6 : Hid (Below wr.heap.size wr (w5.alloc (.cells #[.int .i64 (zo : Int), .int .i64 (za : Int), .bool zd, .string zn, .int .i64 zb] 71))) := keep_alloc8 b5 _
        have X6 : Hid (XAt (w5.alloc (.cells #[.int .i64 (zo : Int), .int .i64 (za : Int), .bool zd, .string zn, .int .i64 zb] 71)) w5.heap.size [.int .i64 (zo : Int), .int .i64 (za : Int), .bool zd, .string zn, .int .i64 zb]) := XAt.new _ _ _
        generalize w5.alloc (.cells #[.int .i64 (zo : Int), .int .i64 (za : Int), .bool zd, .string zn, .int .i64 zb] 71) = w6 at U6 X6 ⊢
        have B6 : Hid (Below w.heap.size wr w6) := U6.out.mono hsz
        have h6 : Hid (w5.heap.size < w6.heap.size) := X6.out.lt (by simp)
        clear b5 x2
        obtain ⟨x0, x1, x2, x3⟩ := KEEP.out _ B6.out
        have z0 := X6.out.1 0 _ rfl
        have z1 := X6.out.1 1 _ rfl
        have z2 := X6.out.1 2 _ rfl
        have z3 := X6.out.1 3 _ rfl
        have z4 := X6.out.1 4 _ rfl
        by_cases c9 : zd = decide (xk = 1)
        · have g9 : (zd == (xk == 1)) = true := by rw [c9]; by_cases h1 : xk = 1 <;> simp [h1]
          have E := R9.out c9
          have E9 : Hid (relsZ all fs ds obj l = .error 9) := E
          clear c9 E R9 RK
          go_quiet (fail)
          go_wp2
          go_ret2
          exact ⟨.inr ⟨9, E9.out, rfl⟩, below_drewN (HB.out.trans B6.out) _⟩
        · have g9 : (zd == (xk == 1)) = false := by
            by_cases h1 : xk = 1
            · subst h1; cases zd <;> simp_all
            · cases zd <;> simp_all
          have N1 : Hid (relsZ all fs ds obj (l.take (k + 1)) = .ok (ps ++ [⟨xa, xk, if zd = true then placeZ ds ⟨zo, za, zd, zn, zb⟩ else placeZ fs ⟨zo, za, zd, zn, zb⟩, xd⟩])) := RK.out c9
          clear c9 R9 RK
          go_quiet (fail)
          cases zd
          · obtain ⟨tz, etz⟩ : ∃ tz, placeZ fs ⟨zo, za, false, zn, zb⟩ = tz := ⟨_, rfl⟩
            have N2 : Hid (relsZ all fs ds obj (l.take (k + 1)) = .ok (ps ++ [⟨xa, xk, tz, xd⟩])) := by have h := N1.out; rw [if_neg (by decide), etz] at h; exact h
            have PF1 : Hid (∀ W, Below w.heap.size w W → Calls Tryz.prog 25 #[.slice fa nf fc, .agg #[.int .i64 (zo : Int), .int .i64 (za : Int), .bool false, .string zn, .int .i64 zb]] W fun e w' => e = .returned (.int .i64 tz) ∧ Below W.heap.size W w') := fun W hW => by have h := PF.out W ⟨zo, za, false, zn, zb⟩ hW; rwa [etz] at h
            clear N1 etz
            go_upto_region 13 with (go_at_call 25; refine (PF1.out _ (HB.out.trans (below_drewN B6.out _))).mono ?_; rintro e w7 ⟨rfl, b7⟩; have X7 := (X6.out.later h6.out (Below.trans (below_drewN (Below.refl _ _) _) b7)); clear z0 z1 z2 z3 z4; have z2 := X7.1 2 _ rfl)
            have U7 : Hid (Below wr.heap.size wr w7) := bnext (below_drewN U6.out _) b7
            have B7 : Hid (Below w.heap.size wr w7) := U7.out.mono hsz
            have OW7 : Hid (OwnP w7 w.heap.size u12 ps) := ownP_later HW.out U7.out
            have h7 : w.heap.size ≤ w7.heap.size := Nat.le_trans hsz U7.out.size
            have KS : Hid (∀ W, Below w.heap.size w7 W → W.cell? ⟨b, off + k * 4, none⟩ = some (.int .i64 xa) ∧ W.cell? ⟨b, off + k * 4 + 1, none⟩ = some (.int .i64 xk) ∧ W.cell? ⟨b, off + k * 4 + 3, none⟩ = some (.int .i64 xd)) := fun W hW => ⟨(KEEP.out W (B7.out.trans hW)).1, (KEEP.out W (B7.out.trans hW)).2.1, (KEEP.out W (B7.out.trans hW)).2.2.2⟩
            clear x0 x1 x2 x3 z2 b7 X7
            go_region_held3 (fun W => W.cell? ⟨b, off + k * 4, none⟩ = some (.int .i64 xa) ∧ W.cell? ⟨b, off + k * 4 + 1, none⟩ = some (.int .i64 xk) ∧ W.cell? ⟨b, off + k * 4 + 3, none⟩ = some (.int .i64 xd))
              (first
              | exact KS.out _ b9
              | exact KS.out _ (by repeat' (first | exact Below.refl _ _ | refine Below.drew ?_ | refine Below.alloc ?_ h7 _)))
              ((refine step_prel (by rfl) (.tmp 53) (.tmp 71) (by rfl) w7 w.heap.size h7 u12 ps ⟨xa, xk, tz, xd⟩ (by rfl) OW7.out (by rfl) (by have := LP.out; omega) ?_; intro a9 c9 w9 o9 b9))
            all_goals
              have HO9 : Hid (OwnP w9 w.heap.size (.slice a9 (ps.length + 1) c9) (ps ++ [⟨xa, xk, tz, xd⟩])) := o9
              have HB9 : Hid (Below w.heap.size w w9) := (HB.out.trans B7.out).trans b9
              clear o9 b9
              go_wp2
              go_roundw
              case rel => exact ⟨k + 1, _, by omega, by go_num, N2.out, by rw [List.length_append]; have := LP.out; simp; omega, HO9.out, HB9.out⟩
              case measure => simp [intOf]; omega
          · obtain ⟨tz, etz⟩ : ∃ tz, placeZ ds ⟨zo, za, true, zn, zb⟩ = tz := ⟨_, rfl⟩
            have N2 : Hid (relsZ all fs ds obj (l.take (k + 1)) = .ok (ps ++ [⟨xa, xk, tz, xd⟩])) := by have h := N1.out; rw [if_pos rfl, etz] at h; exact h
            have PF1 : Hid (∀ W, Below w.heap.size w W → Calls Tryz.prog 25 #[.slice fa nf fc, .agg #[.int .i64 (zo : Int), .int .i64 (za : Int), .bool true, .string zn, .int .i64 zb]] W fun e w' => (∃ q, e = .returned (.int .i64 q)) ∧ Below W.heap.size W w') := fun W hW => (PF.out W ⟨zo, za, true, zn, zb⟩ hW).mono fun e w' h => ⟨⟨_, h.1⟩, h.2⟩
            have PD1 : Hid (∀ W, Below w.heap.size w W → Calls Tryz.prog 25 #[.slice da nd dc, .agg #[.int .i64 (zo : Int), .int .i64 (za : Int), .bool true, .string zn, .int .i64 zb]] W fun e w' => e = .returned (.int .i64 tz) ∧ Below W.heap.size W w') := fun W hW => by have h := PD.out W ⟨zo, za, true, zn, zb⟩ hW; rwa [etz] at h
            clear N1 etz
            go_upto_region 13 with (first
              | (have q := q7; go_at_call 25; refine (PD1.out _ (HB.out.trans (U7.out.mono hsz))).mono ?_; rintro e w8 ⟨rfl, b8⟩)
              | (go_at_call 25; refine (PF1.out _ (HB.out.trans (below_drewN B6.out _))).mono ?_; rintro e w7 ⟨⟨q7, rfl⟩, b7⟩; have U7 : Hid (Below wr.heap.size wr w7) := bnext (below_drewN U6.out _) b7; have X7 := (X6.out.later h6.out (Below.trans (below_drewN (Below.refl _ _) _) b7)); clear z0 z1 z2 z3 z4; have z0 := X7.1 0 _ rfl; have z1 := X7.1 1 _ rfl; have z2 := X7.1 2 _ rfl; have z3 := X7.1 3 _ rfl; have z4 := X7.1 4 _ rfl; clear b7 X7))
            have U8 : Hid (Below wr.heap.size wr w8) := bnext U7.out b8
            have B8 : Hid (Below w.heap.size wr w8) := U8.out.mono hsz
            have OW8 : Hid (OwnP w8 w.heap.size u12 ps) := ownP_later HW.out U8.out
            have h8 : w.heap.size ≤ w8.heap.size := Nat.le_trans hsz U8.out.size
            have KS : Hid (∀ W, Below w.heap.size w8 W → W.cell? ⟨b, off + k * 4, none⟩ = some (.int .i64 xa) ∧ W.cell? ⟨b, off + k * 4 + 1, none⟩ = some (.int .i64 xk) ∧ W.cell? ⟨b, off + k * 4 + 3, none⟩ = some (.int .i64 xd)) := fun W hW => ⟨(KEEP.out W (B8.out.trans hW)).1, (KEEP.out W (B8.out.trans hW)).2.1, (KEEP.out W (B8.out.trans hW)).2.2.2⟩
            clear x0 x1 x2 x3 z0 z1 z2 z3 z4 b8
            go_region_held3 (fun W => W.cell? ⟨b, off + k * 4, none⟩ = some (.int .i64 xa) ∧ W.cell? ⟨b, off + k * 4 + 1, none⟩ = some (.int .i64 xk) ∧ W.cell? ⟨b, off + k * 4 + 3, none⟩ = some (.int .i64 xd))
              (first
              | exact KS.out _ b9
              | exact KS.out _ (by repeat' (first | exact Below.refl _ _ | refine Below.drew ?_ | refine Below.alloc ?_ h8 _)))
              ((refine step_prel (by rfl) (.tmp 53) (.tmp 71) (by rfl) w8 w.heap.size h8 u12 ps ⟨xa, xk, tz, xd⟩ (by rfl) OW8.out (by rfl) (by have := LP.out; omega) ?_; intro a9 c9 w9 o9 b9))
            all_goals
              have HO9 : Hid (OwnP w9 w.heap.size (.slice a9 (ps.length + 1) c9) (ps ++ [⟨xa, xk, tz, xd⟩])) := o9
              have HB9 : Hid (Below w.heap.size w w9) := (HB.out.trans B8.out).trans b9
              clear o9 b9
              go_wp2
              go_roundw
              case rel => exact ⟨k + 1, _, by omega, by go_num, N2.out, by rw [List.length_append]; have := LP.out; simp; omega, HO9.out, HB9.out⟩
              case measure => simp [intOf]; omega
    · obtain rfl : k = n := by omega
      have E : Hid (relsZ all fs ds obj l = .ok ps) := by have h := HS.out; rwa [← HN.out, List.take_length] at h
      go_wp2
      go_ret2
      exact ⟨.inl ⟨ps, _, E.out, rfl, HW.out⟩, HB.out⟩
end Go.Proofs.YteakbpcmafdikaaGreatDoor
