/- What is chosen, and relocations resolved, as the document's answer has it. -/
import Derived.Test.YteakbpcmafdikaaGreatDoorNmHolds
namespace Go.Proofs.YteakbpcmafdikaaGreatDoor
open Go.ChangeShapes Go.WideShapes Go.ChangeAt Go.RowKit
set_option linter.unusedVariables false
set_option linter.unusedSimpArgs false
/-- An item behind items, at a plain region's list. -/
theorem wp_item {ops : Array Oper} {rest : List Oper} {o : Oper} {a : Act} {Q : Exit → Act → World → Prop} (hgd : o.guard = none) (s x : Operand)
    (ho : o.op = .call { callee := .builtin .append, args := #[s, x], argTypes := #[68, 68] }) (W : World) (base : Nat) (hb : base ≤ W.heap.size) (v : Value) (L : List ItemM) (z : ItemM)
    (hs : a.eval s = v) (hown : OwnI W base v L) (hx : a.eval x = .slice (some ⟨W.heap.size, 0, none⟩) 1 1) (hm : L.length ≤ 100000)
    (h : ∀ a' c' w', OwnI w' base (.slice a' (L.length + 1) c') (L ++ [z]) → Below base W w' → wpList Tryz.prog ops Q rest (a.put o.dst (.slice a' (L.length + 1) c')) w') :
    wpList Tryz.prog ops Q (o :: rest) a (W.alloc (.cells #[.int .i64 (z.obj : Int), .int .i64 (z.at_ : Int), .bool z.data, .string z.name, .int .i64 z.bind] 71)) := by
  obtain ⟨i0, hi, hiz, hsz, hby⟩ := info_parts infoItem
  refine wpList_append_all _ hgd s x 68 ho base 71 i0 _ 5 48 Tryz.underlying68 hi hiz hsz hby rfl (by decide) v L.length (L.flatMap itC) hs (ownI_later hown (keep_alloc8 (Below.refl _ _) _)) (some ⟨W.heap.size, 0, none⟩) 1 1 (itC z) hx rfl (fun e => by cases e) (fun ad ha j u hu => ?_) (itC_one z) (by unfold maxLen; omega) (by omega) (by simp; omega) ?_
  · cases ha
    rw [addr_add11, Nat.zero_add]
    exact new_cell' W #[.int .i64 (z.obj : Int), .int .i64 (z.at_ : Int), .bool z.data, .string z.name, .int .i64 z.bind] _ j u (by simpa [itC] using hu)
  · intro a' c' w' own gr
    exact h _ _ w' (ownI_more own) (((Below.refl base W).alloc hb _).grown gr (by simp; omega) (fun q hq => (hown.lt q hq).1))
theorem Hid.mk9' {P : Prop} (h : P) : Hid P := h
theorem filter_yes {α : Type} {p : α → Bool} {l : List α} {k : Nat} {x : α} (hx : l[k]? = some x) (hp : p x = true) : (l.take (k + 1)).filter p = (l.take k).filter p ++ [x] := by rw [filter_next hx, if_pos hp]
theorem filter_no {α : Type} {p : α → Bool} {l : List α} {k : Nat} {x : α} (hx : l[k]? = some x) (hp : p x = false) : (l.take (k + 1)).filter p = (l.take k).filter p := by rw [filter_next hx, if_neg (by rw [hp]; decide), List.append_nil]
set_option maxRecDepth 100000 in
set_option maxHeartbeats 8000000 in
theorem chosen_any {A : Nat → Prop} {w : World} {v : Value} {all : List ItemM} (data : Bool) (h : IsItems A w v all) (hl : all.length ≤ 5000) (hb : ∀ x ∈ all, x.bind ≠ 0) :
    Calls Tryz.prog 23 #[v, .bool data] w fun e w' => (∃ v', e = .returned v' ∧ OwnI w' w.heap.size v' (chosenZ all data)) ∧ Below w.heap.size w w' := by
  have IS : Hid (IsItems A w v all) := h
  obtain ⟨a, c, rfl, -, -, lx⟩ := LstA.open h
  obtain ⟨n, en⟩ : ∃ n, all.length = n := ⟨_, rfl⟩
  rw [en] at hl lx IS ⊢
  have LX : Hid (∀ k, k < n → ∃ b off x, a = some ⟨b, off, none⟩ ∧ A b ∧ all[k]? = some x ∧ ItemAt w b (off + k * 5) x) := lx
  have HN : Hid (all.length = n) := en
  have BD : Hid (∀ x ∈ all, x.bind ≠ 0) := hb
  have hn : (n : Int) ≤ 5000 := by omega
  have ME : Hid (∀ W (obj : Int) (name : ByteArray), Below w.heap.size w W → Calls Tryz.prog 24 #[.slice a n c, .int .i64 obj, .string name] W fun e w' => e = .returned (.tuple #[itV ((meanZ all obj name).getD noItem), .bool (meanZ all obj name).isSome]) ∧ Below W.heap.size W w') := fun W obj name hW => by
    have h := IS.out.keep (Stay.of_below hW)
    rw [← HN.out] at h ⊢
    exact mean_any obj name h (by rw [HN.out]; omega)
  clear h lx en hb IS
  go_enter Tryz.func23, Tryz.ntmps23
  go_wp2
  go_loopw [6, 5] (fun i v wr => ∃ k : Nat, k ≤ n ∧ i = .int .i64 k ∧ OwnI wr w.heap.size v ((all.take k).filter (choseP all data)) ∧ Below w.heap.size w wr) (fun i _ _ => n - (intOf i).toNat)
  case atStart => exact ⟨0, Nat.zero_le _, rfl, World.ownsRow_nil _ _ _ _, Below.refl _ _⟩
  case round =>
    obtain ⟨k, hk, rfl, hown, hbel⟩ := hrel
    have HB : Hid (Below w.heap.size w wr) := hbel
    have HW : Hid (OwnI wr w.heap.size u5 ((all.take k).filter (choseP all data))) := hown
    clear hbel hown
    by_cases hlt : k < n
    · have hlt' : (k : Int) < n := by omega
      obtain ⟨b, off, ⟨xo, xa, xd, xn, xb⟩, rfl, -, hx, x0, x1, x2, x3, x4⟩ := LX.out k hlt
      dsimp only at x0 x1 x2 x3 x4
      have HX : Hid (all[k]? = some ⟨xo, xa, xd, xn, xb⟩) := hx
      have nb : xb ≠ 0 := BD.out _ (List.mem_of_getElem? hx)
      have LN : Hid (((all.take k).filter (choseP all data)).length ≤ 5000) := by have := List.length_filter_le (choseP all data) (all.take k); rw [List.length_take] at this; unfold Hid; omega
      have KEEP : Hid (∀ W, Below w.heap.size wr W → W.cell? ⟨b, off + k * 5, none⟩ = some (.int .i64 (xo : Int)) ∧ W.cell? ⟨b, off + k * 5 + 1, none⟩ = some (.int .i64 (xa : Int)) ∧ W.cell? ⟨b, off + k * 5 + 2, none⟩ = some (.bool xd) ∧ W.cell? ⟨b, off + k * 5 + 3, none⟩ = some (.string xn) ∧ W.cell? ⟨b, off + k * 5 + 4, none⟩ = some (.int .i64 xb)) := fun W hW =>
        ⟨cell_any x0 (HB.out.trans hW), cell_any x1 (HB.out.trans hW), cell_any x2 (HB.out.trans hW), cell_any x3 (HB.out.trans hW), cell_any x4 (HB.out.trans hW)⟩
      have KS : Hid (∀ W, Below w.heap.size wr W → W.cell? ⟨b, off + k * 5, none⟩ = some (.int .i64 (xo : Int)) ∧ W.cell? ⟨b, off + k * 5 + 3, none⟩ = some (.string xn)) := fun W hW => ⟨(KEEP.out W hW).1, (KEEP.out W hW).2.2.2.1⟩
      have hsz := HB.out.size
      obtain ⟨P, eP⟩ : ∃ P, P = (choseP all data ⟨xo, xa, xd, xn, xb⟩) := ⟨_, rfl⟩
      have YES : Hid (P = true → (all.take (k + 1)).filter (choseP all data) = (all.take k).filter (choseP all data) ++ [⟨xo, xa, xd, xn, xb⟩]) := fun e => filter_yes hx (by rw [← eP, e])
      have NO : Hid (P = false → (all.take (k + 1)).filter (choseP all data) = (all.take k).filter (choseP all data)) := fun e => filter_no hx (by rw [← eP, e])
      obtain ⟨⟨zo, za, zd, zn, zb⟩, eZ⟩ : ∃ Z : ItemM, Z = (meanZ all (xo : Int) xn).getD noItem := ⟨_, rfl⟩
      obtain ⟨⟨yo, ya, yd, yn, yb⟩, eY⟩ : ∃ Y : ItemM, Y = (meanZ all (-1) xn).getD noItem := ⟨_, rfl⟩
      have PC : Hid (P = true ↔ (if xb = 3 then (⟨zo, za, zd, zn, zb⟩ : ItemM) else ⟨yo, ya, yd, yn, yb⟩) = ⟨xo, xa, xd, xn, xb⟩ ∧ xd = data) := by
        rw [eP, eZ, eY]
        unfold Hid choseP
        rw [decide_eq_true_iff]
        dsimp only
        refine and_congr_left fun _ => ?_
        have key : ∀ (M : Option ItemM), M = some ⟨xo, xa, xd, xn, xb⟩ ↔ M.getD noItem = ⟨xo, xa, xd, xn, xb⟩ := fun M => by
          cases M with
          | some m => simp
          | none =>
            refine ⟨(fun e => by cases e), fun e => ?_⟩
            have : noItem.bind = xb := congrArg ItemM.bind e
            exact absurd this.symm nb
        split
        · exact key _
        · exact key _
      have M1 : Hid (∀ W, Below w.heap.size w W → Calls Tryz.prog 24 #[.slice (some ⟨b, off, none⟩) n c, .int .i64 (xo : Int), .string xn] W fun e w' => (∃ t, e = .returned (.tuple #[.agg #[.int .i64 (zo : Int), .int .i64 (za : Int), .bool zd, .string zn, .int .i64 zb], .bool t])) ∧ Below W.heap.size W w') := fun W hW => (ME.out W xo xn hW).mono fun e w' h => ⟨⟨(meanZ all (xo : Int) xn).isSome, h.1.trans (by rw [← eZ]; rfl)⟩, h.2⟩
      have M2 : Hid (∀ W, Below w.heap.size w W → Calls Tryz.prog 24 #[.slice (some ⟨b, off, none⟩) n c, .int .i64 (-1), .string xn] W fun e w' => (∃ t, e = .returned (.tuple #[.agg #[.int .i64 (yo : Int), .int .i64 (ya : Int), .bool yd, .string yn, .int .i64 yb], .bool t])) ∧ Below W.heap.size W w') := fun W hW => (ME.out W (-1) xn hW).mono fun e w' h => ⟨⟨(meanZ all (-1) xn).isSome, h.1.trans (by rw [← eY]; rfl)⟩, h.2⟩
      clear hx x0 x1 x2 x3 x4 eP eZ eY nb
      generalize (all.take k).filter (choseP all data) = L at HW YES NO LN
      go_upto_region 5 with fail
      go_cut [7] from 15 to 29 (fun q wx => ∃ g, q = .pointer (some ⟨g, 0, none⟩) ∧ wr.heap.size ≤ g ∧ XAt wx g [.int .i64 (zo : Int), .int .i64 (za : Int), .bool zd, .string zn, .int .i64 zb] ∧ Below wr.heap.size wr wx)
      case first =>
        go_region_held3 (fun W => W.cell? ⟨b, off + k * 5, none⟩ = some (.int .i64 (xo : Int)) ∧ W.cell? ⟨b, off + k * 5 + 3, none⟩ = some (.string xn))
          (first
          | exact KS.out _ (by repeat' (first | exact k5.mono hsz | exact Below.refl _ _ | refine Below.drew ?_ | refine Below.alloc ?_ (by first | exact hsz | exact h5) _ | refine Below.setCell ?_ (by first | exact hsz | exact h5) _)))
          (first
          | (go_at_call 24; refine (M1.out _ (by first | exact HB.out | exact HB.out.drew)).mono ?_; rintro e w5 ⟨⟨t5, rfl⟩, b5⟩; have k5 : Below wr.heap.size wr w5 := (by first | exact b5 | exact bnext (Below.refl _ _).drew b5 | exact (Below.refl _ _).drew.trans b5); have h5 : w.heap.size ≤ w5.heap.size := Nat.le_trans hsz k5.size)
          | (go_at_call 24; refine (M1.out _ (HB.out.trans (by repeat' (first | exact Below.refl _ _ | refine Below.drew ?_ | refine Below.alloc ?_ hsz _)))).mono ?_; rintro e w5 ⟨⟨t5, rfl⟩, b5⟩; have k5 : Below wr.heap.size wr w5 := bnext (by repeat' (first | exact Below.refl _ _ | refine Below.drew ?_ | refine keep_alloc8 ?_ _)) b5; have h5 : w.heap.size ≤ w5.heap.size := Nat.le_trans hsz k5.size; have XQ := (XAt.new wr #[.int .i64 0, .int .i64 0, .bool false, .string ⟨#[]⟩, .int .i64 0] 71).later (by simp) (Below.trans (Below.refl _ _).drew b5); have q0 := XQ.1 0 _ rfl; have q1 := XQ.1 1 _ rfl; have q2 := XQ.1 2 _ rfl; have q3 := XQ.1 3 _ rfl; have q4 := XQ.1 4 _ rfl; have qf := XQ.2))
        · go_wp2
          go_meet
          exact ⟨_, rfl, k5.size, XAt.new _ _ _, keep_alloc8 k5 _⟩
        · go_wp2
          go_meet
          exact ⟨_, rfl, Nat.le_refl _, XAt.set5 XQ, below_set5 k5 (Nat.le_refl _) _ _ _ _ _⟩
      obtain ⟨g, rfl, hg, hxa, hbc⟩ := hcut
      have XG : Hid (XAt wc g [.int .i64 (zo : Int), .int .i64 (za : Int), .bool zd, .string zn, .int .i64 zb]) := hxa
      have UC : Hid (Below wr.heap.size wr wc) := hbc
      have BC : Hid (Below w.heap.size wr wc) := hbc.mono hsz
      have OC : Hid (OwnI wc w.heap.size u5 L) := ownI_later HW.out hbc
      have hgl : Hid (g < wc.heap.size) := XG.out.lt (by simp)
      have HG : Hid (wr.heap.size ≤ g) := hg
      clear hxa hbc M1 hg
      by_cases h3 : xb = 3
      · have gb : (xb != 3) = false := by simpa using h3
        have H3 : Hid (xb = 3) := h3
        obtain ⟨x0, x1, x2, x3, x4⟩ := KEEP.out _ BC.out
        clear h3
        go_upto_region 8 with fail
        have g0 := XG.out.1 0 _ rfl
        have g1 := XG.out.1 1 _ rfl
        have g2 := XG.out.1 2 _ rfl
        have g3 := XG.out.1 3 _ rfl
        have g4 := XG.out.1 4 _ rfl
        obtain ⟨x0, x1, x2, x3, x4⟩ := KEEP.out _ BC.out
        by_cases e : (⟨zo, za, zd, zn, zb⟩ : ItemM) = ⟨xo, xa, xd, xn, xb⟩
        · have eq : ∀ W, (binOp .eql 71 (.agg #[.int .i64 (zo : Int), .int .i64 (za : Int), .bool zd, .string zn, .int .i64 zb]) (.agg #[.int .i64 (xo : Int), .int .i64 (xa : Int), .bool xd, .string xn, .int .i64 xb])).run Tryz.prog W = .ok (.bool true) W := fun W => eql_item W ⟨zo, za, zd, zn, zb⟩ ⟨xo, xa, xd, xn, xb⟩ true ⟨fun _ => e, fun _ => rfl⟩
          by_cases d : xd = data
          · have hP : P = true := PC.out.2 ⟨by rw [if_pos H3.out]; exact e, d⟩
            have N1 := YES.out hP
            have gd : (zd == data) = true := by rw [show zd = xd from congrArg ItemM.data e]; simpa using d
            have E0 : Hid ((⟨zo, za, zd, zn, zb⟩ : ItemM) = ⟨xo, xa, xd, xn, xb⟩) := e
            have N2 : Hid ((all.take (k + 1)).filter (choseP all data) = L ++ [⟨zo, za, zd, zn, zb⟩]) := by unfold Hid; rw [N1, E0.out]
            clear e d N1 YES NO hP
            go_quiet (fail)
            go_upto_region 4 with (at_builtin; refine wp_item rfl (.tmp 58) (.tmp 60) rfl _ w.heap.size (by first | exact (below_drewN BC.out _).size | (have := BC.out.size; simp; omega)) u5 L ⟨zo, za, zd, zn, zb⟩ rfl (ownI_later OC.out (below_drewN (Below.refl _ _) _)) rfl (by have := LN.out; omega) ?_; intro a9 c9 w9 o9 b9)
            have HO9 : Hid (OwnI w9 w.heap.size (.slice a9 (L.length + 1) c9) ((all.take (k + 1)).filter (choseP all data))) := by unfold Hid; rw [N2.out]; exact o9
            have HB9 : Hid (Below w.heap.size w w9) := (HB.out.trans (below_drewN BC.out _)).trans b9
            clear o9 b9
            go_wp2
            go_roundw
            case rel => exact ⟨k + 1, by omega, by go_num, HO9.out, HB9.out⟩
            case measure => simp [intOf]; omega
          · have N1 : Hid ((all.take (k + 1)).filter (choseP all data) = L) := NO.out (by cases hP : P; rfl; exact absurd (PC.out.1 hP).2 d)
            have gd : (zd == data) = false := by rw [show zd = xd from congrArg ItemM.data e]; simpa using d
            clear e d YES NO
            go_quiet (fail)
            go_wp2
            go_roundw
            case rel => exact ⟨k + 1, by omega, by go_num, by rw [N1.out]; exact ownI_later OC.out (below_drewN (Below.refl _ _) _), below_drewN (HB.out.trans BC.out) _⟩
            case measure => simp [intOf]; omega
        · have eq : ∀ W, (binOp .eql 71 (.agg #[.int .i64 (zo : Int), .int .i64 (za : Int), .bool zd, .string zn, .int .i64 zb]) (.agg #[.int .i64 (xo : Int), .int .i64 (xa : Int), .bool xd, .string xn, .int .i64 xb])).run Tryz.prog W = .ok (.bool false) W := fun W => eql_item W ⟨zo, za, zd, zn, zb⟩ ⟨xo, xa, xd, xn, xb⟩ false ⟨(fun h => by cases h), fun h => absurd h e⟩
          have N1 : Hid ((all.take (k + 1)).filter (choseP all data) = L) := NO.out (by cases hP : P; rfl; exact absurd (by have h9 := (PC.out.1 hP).1; rwa [if_pos H3.out] at h9) e)
          clear e YES NO
          go_quiet (fail)
          go_wp2
          go_roundw
          case rel => exact ⟨k + 1, by omega, by go_num, by rw [N1.out]; exact ownI_later OC.out (below_drewN (Below.refl _ _) _), below_drewN (HB.out.trans BC.out) _⟩
          case measure => simp [intOf]; omega
      · have gb : (xb != 3) = true := by simpa using h3
        have H3 : Hid (¬ xb = 3) := h3
        obtain ⟨x0, x1, x2, x3, x4⟩ := KEEP.out _ BC.out
        clear h3
        go_upto_region 8 with (go_at_call 24; refine (M2.out _ (HB.out.trans BC.out)).mono ?_; rintro e w6 ⟨⟨t6, rfl⟩, b6⟩; have X6 := Hid.mk9' (XG.out.later hgl.out b6); have r0 := X6.out.1 0 _ rfl; have r1 := X6.out.1 1 _ rfl; have r2 := X6.out.1 2 _ rfl; have r3 := X6.out.1 3 _ rfl; have r4 := X6.out.1 4 _ rfl; have rf := X6.out.2)
        have X7 : Hid (XAt (((((w6.setCell ⟨g, 0, none⟩ (.int .i64 (yo : Int))).setCell ⟨g, 1, none⟩ (.int .i64 (ya : Int))).setCell ⟨g, 2, none⟩ (.bool yd)).setCell ⟨g, 3, none⟩ (.string yn)).setCell ⟨g, 4, none⟩ (.int .i64 yb)) g [.int .i64 (yo : Int), .int .i64 (ya : Int), .bool yd, .string yn, .int .i64 yb]) := X6.out.set5
        have U7 : Hid (Below wr.heap.size wr (((((w6.setCell ⟨g, 0, none⟩ (.int .i64 (yo : Int))).setCell ⟨g, 1, none⟩ (.int .i64 (ya : Int))).setCell ⟨g, 2, none⟩ (.bool yd)).setCell ⟨g, 3, none⟩ (.string yn)).setCell ⟨g, 4, none⟩ (.int .i64 yb))) := below_set5 (bnext UC.out b6) HG.out _ _ _ _ _
        generalize ((((w6.setCell ⟨g, 0, none⟩ (.int .i64 (yo : Int))).setCell ⟨g, 1, none⟩ (.int .i64 (ya : Int))).setCell ⟨g, 2, none⟩ (.bool yd)).setCell ⟨g, 3, none⟩ (.string yn)).setCell ⟨g, 4, none⟩ (.int .i64 yb) = w7 at X7 U7 ⊢
        have B7 : Hid (Below w.heap.size wr w7) := U7.out.mono hsz
        have O7 : Hid (OwnI w7 w.heap.size u5 L) := ownI_later HW.out U7.out
        clear x0 x1 x2 x3 x4 r0 r1 r2 r3 r4 rf b6 X6
        have g0 := X7.out.1 0 _ rfl
        have g1 := X7.out.1 1 _ rfl
        have g2 := X7.out.1 2 _ rfl
        have g3 := X7.out.1 3 _ rfl
        have g4 := X7.out.1 4 _ rfl
        obtain ⟨x0, x1, x2, x3, x4⟩ := KEEP.out _ B7.out
        by_cases e : (⟨yo, ya, yd, yn, yb⟩ : ItemM) = ⟨xo, xa, xd, xn, xb⟩
        · have eq : ∀ W, (binOp .eql 71 (.agg #[.int .i64 (yo : Int), .int .i64 (ya : Int), .bool yd, .string yn, .int .i64 yb]) (.agg #[.int .i64 (xo : Int), .int .i64 (xa : Int), .bool xd, .string xn, .int .i64 xb])).run Tryz.prog W = .ok (.bool true) W := fun W => eql_item W ⟨yo, ya, yd, yn, yb⟩ ⟨xo, xa, xd, xn, xb⟩ true ⟨fun _ => e, fun _ => rfl⟩
          by_cases d : xd = data
          · have hP : P = true := PC.out.2 ⟨by rw [if_neg H3.out]; exact e, d⟩
            have N1 := YES.out hP
            have gd : (yd == data) = true := by rw [show yd = xd from congrArg ItemM.data e]; simpa using d
            have E0 : Hid ((⟨yo, ya, yd, yn, yb⟩ : ItemM) = ⟨xo, xa, xd, xn, xb⟩) := e
            have N2 : Hid ((all.take (k + 1)).filter (choseP all data) = L ++ [⟨yo, ya, yd, yn, yb⟩]) := by unfold Hid; rw [N1, E0.out]
            clear e d N1 YES NO hP
            go_quiet (fail)
            go_upto_region 4 with (at_builtin; refine wp_item rfl (.tmp 58) (.tmp 60) rfl _ w.heap.size (by first | exact (below_drewN B7.out _).size | (have := B7.out.size; simp; omega)) u5 L ⟨yo, ya, yd, yn, yb⟩ rfl (ownI_later O7.out (below_drewN (Below.refl _ _) _)) rfl (by have := LN.out; omega) ?_; intro a9 c9 w9 o9 b9)
            have HO9 : Hid (OwnI w9 w.heap.size (.slice a9 (L.length + 1) c9) ((all.take (k + 1)).filter (choseP all data))) := by unfold Hid; rw [N2.out]; exact o9
            have HB9 : Hid (Below w.heap.size w w9) := (HB.out.trans (below_drewN B7.out _)).trans b9
            clear o9 b9
            go_wp2
            go_roundw
            case rel => exact ⟨k + 1, by omega, by go_num, HO9.out, HB9.out⟩
            case measure => simp [intOf]; omega
          · have N1 : Hid ((all.take (k + 1)).filter (choseP all data) = L) := NO.out (by cases hP : P; rfl; exact absurd (PC.out.1 hP).2 d)
            have gd : (yd == data) = false := by rw [show yd = xd from congrArg ItemM.data e]; simpa using d
            clear e d YES NO
            go_quiet (fail)
            go_wp2
            go_roundw
            case rel => exact ⟨k + 1, by omega, by go_num, by rw [N1.out]; exact ownI_later O7.out (below_drewN (Below.refl _ _) _), below_drewN (HB.out.trans B7.out) _⟩
            case measure => simp [intOf]; omega
        · have eq : ∀ W, (binOp .eql 71 (.agg #[.int .i64 (yo : Int), .int .i64 (ya : Int), .bool yd, .string yn, .int .i64 yb]) (.agg #[.int .i64 (xo : Int), .int .i64 (xa : Int), .bool xd, .string xn, .int .i64 xb])).run Tryz.prog W = .ok (.bool false) W := fun W => eql_item W ⟨yo, ya, yd, yn, yb⟩ ⟨xo, xa, xd, xn, xb⟩ false ⟨(fun h => by cases h), fun h => absurd h e⟩
          have N1 : Hid ((all.take (k + 1)).filter (choseP all data) = L) := NO.out (by cases hP : P; rfl; exact absurd (by have h9 := (PC.out.1 hP).1; rwa [if_neg H3.out] at h9) e)
          clear e YES NO
          go_quiet (fail)
          go_wp2
          go_roundw
          case rel => exact ⟨k + 1, by omega, by go_num, by rw [N1.out]; exact ownI_later O7.out (below_drewN (Below.refl _ _) _), below_drewN (HB.out.trans B7.out) _⟩
          case measure => simp [intOf]; omega
    · obtain rfl : k = n := by omega
      have HW3 : Hid (OwnI wr w.heap.size u5 (chosenZ all data)) := by have h := HW.out; rwa [← HN.out, List.take_length] at h
      go_wp2
      go_ret
      exact ⟨⟨_, rfl, HW3.out⟩, HB.out⟩
end Go.Proofs.YteakbpcmafdikaaGreatDoor
