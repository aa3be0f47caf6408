/- What the document's own Step returns: where it ends at once. -/
import Derived.Test.YtnpejnjigaalfaaDoorCpuKit
import Derived.Test.YtnpejnjigaalfaaDoorCpuA
import Derived.Test.YtnpejnjigaalfaaDoorCpuB
import Derived.Test.YtnpejnjigaalfaaDoorCodeAwake
import Derived.Test.YtnpejnjigaalfaaDoorFlowKind
import Derived.Test.YtnpejnjigaalfaaDoorStoreAll
import Derived.Test.YtnpejnjigaalfaaDoorAluAll
import Derived.Test.YtnpejnjigaalfaaDoorCodeMore
namespace Go.Proofs.YtnpejnjigaalfaaDoor
open Go.ChangeShapes Go.WideShapes Go.ChangeAt Go.RowKit
set_option linter.unusedVariables false
set_option linter.unusedSimpArgs false
/-- 'append([]T{}, xs...)' behind a draw. -/
theorem wpList_append_drew {P : Program} (w : World) {ops : Array Oper} {rest : List Oper} {o : Oper} {a : Act} {Q : Exit → Act → World → Prop} (hgd : o.guard = none) (s x : Operand) (t : TypeId)
    (ho : o.op = .call { callee := .builtin .append, args := #[s, x], argTypes := #[t, t] })
    (e : TypeId) (z : Value) (bytes : Nat) (ht : P.underlying t = some (.slice e)) (hi : (P.info? e).map (fun i => (i.zero, i.size, i.bytes)) = some (some z, 1, bytes)) (hzs : z.cells.size = 1)
    (hs : a.eval s = .slice (some ⟨w.heap.size, 0, none⟩) 0 0)
    (sp : Option Addr) (m c : Nat) (news : List Value) (hx : a.eval x = .slice sp m c) (hl : news.length = m) (hnil : sp = none → m = 0 ∧ c = 0) (hnews : ∀ ad, sp = some ad → ∀ j u, news[j]? = some u → w.cell? (ad.add j) = some u) (h1 : ∀ u ∈ news, u.oneCell' = true)
    (h63 : m ≤ maxLen) (hbytes : m * bytes ≤ 140737488355328)
    (h : ∀ a' cap' w', w'.ownsRow w.heap.size e 1 (.slice a' m cap') m news → Below w.heap.size w w' → wpList P ops Q rest (a.put o.dst (.slice a' m cap')) w') : wpList P ops Q (o :: rest) a (w.alloc (.cells #[] e)).drew := by
  obtain ⟨i, hi0, hz0, hz1, hz2⟩ := info_parts hi
  have hb : Below w.heap.size w (w.alloc (.cells #[] e)).drew := ((Below.refl _ _).alloc (Nat.le_refl _) _).drew
  have hown : (w.alloc (.cells #[] e)).drew.ownsRow w.heap.size e 1 (.slice (some ⟨w.heap.size, 0, none⟩) 0 0) 0 [] := World.ownsRow_made w #[] 0 (Nat.le_refl _) (Nat.zero_le _) rfl
  refine wpList_append_all _ hgd s x t ho w.heap.size e i z 1 bytes ht hi0 hz0 hz1 hz2 hzs (by decide) _ 0 [] hs hown sp m c news hx (by omega) hnil (fun ad ha j u hu => cell_any (hnews ad ha j u hu) hb) h1 (by omega) (by rwa [Nat.zero_add]) hb.size ?_
  intro a' cap' w' hown hgrow
  rw [Nat.zero_add, List.nil_append] at hown
  rw [Nat.zero_add]
  exact h a' cap' w' hown (Below.grown hb hgrow hb.size (fun q hq => by simp [Value.ownBlock] at hq; omega))
theorem zero_r {r : Nat → Int} (h : r 0 = 0) : (fun j => if j = 0 then 0 else r j) = r := by
  funext j
  by_cases e : j = 0
  · subst e; rw [if_pos rfl, h]
  · rw [if_neg e]
theorem setR_eq (r : Nat → Int) (k : Nat) (v : Int) : (fun j => if j = 0 then 0 else if j = k then v else r j) = setR r k v := by
  funext j
  unfold setR
  by_cases e : j = 0
  · rw [if_pos e, if_pos e]
  · rw [if_neg e, if_neg e]
    by_cases e2 : j = k
    · rw [if_pos e2, if_pos (by omega)]
    · rw [if_neg e2, if_neg (by omega)]
theorem InsAt.far {w : World} {k : Nat} {op a b c imm : Int} (h : InsAt w k op a b c imm) {g : Nat} (hg : k ≠ g) (o : Nat) (v : Value) : InsAt (w.setCell ⟨g, o, none⟩ v) k op a b c imm :=
  ⟨(World.cell?_setCell_other _ _ _ _ (fun e => hg (congrArg Addr.block e).symm)).trans h.1, (World.cell?_setCell_other _ _ _ _ (fun e => hg (congrArg Addr.block e).symm)).trans h.2.1, (World.cell?_setCell_other _ _ _ _ (fun e => hg (congrArg Addr.block e).symm)).trans h.2.2.1, (World.cell?_setCell_other _ _ _ _ (fun e => hg (congrArg Addr.block e).symm)).trans h.2.2.2.1, (World.cell?_setCell_other _ _ _ _ (fun e => hg (congrArg Addr.block e).symm)).trans h.2.2.2.2⟩
set_option maxRecDepth 100000 in
theorem rend_st {w : World} {C : Array Value} {s : St} (h : IsSt w (.agg C) s) (k : Int) :
    Calls Tryd.prog 20 #[.agg C, .int .i64 k] w (StPost w C (s.stop k)) := by
  have B0 : Hid (Boxed w ((w.alloc (.cells C 37)).alloc (.cells noSt 37)) w.heap.size (w.heap.size + 1) C C s) := Boxed.new h _ _
  clear h
  go_enter Tryd.func20, Tryd.ntmps20
  go_upto_region 1 with fail
  rw [noSt_def]
  generalize (w.alloc (.cells C 37)).alloc (.cells noSt 37) = w0 at B0 ⊢
  obtain ⟨-, -, -, x22, -, x24⟩ := cell_st B0.out
  have f22 : w0.frozen? ⟨w.heap.size, 22, none⟩ = false := B0.out.fz 22
  have f24 : w0.frozen? ⟨w.heap.size, 24, none⟩ = false := B0.out.fz 24
  go_upto_region 3 with fail
  have Bx : Hid (Boxed w (w0.setCell ⟨w.heap.size, 22, none⟩ (.bool true)) w.heap.size (w.heap.size + 1) C (C.setIfInBounds 22 (.bool true)) { s with en := true }) := B0.out.put 22 (by omega) _ (fun g _ => off_bool _ _) (put_en B0.out.st true)
  have B1 : Hid (Boxed w ((w0.setCell ⟨w.heap.size, 22, none⟩ (.bool true)).setCell ⟨w.heap.size, 24, none⟩ (.int .i64 k)) w.heap.size (w.heap.size + 1) C ((C.setIfInBounds 22 (.bool true)).setIfInBounds 24 (.int .i64 k)) (s.stop k)) :=
    Bx.out.put 24 (by omega) _ (fun g _ => off_int _ _ _) (put_ft Bx.out.st k)
  clear x22 x24 f22 f24 Bx
  generalize (w0.setCell ⟨w.heap.size, 22, none⟩ (.bool true)).setCell ⟨w.heap.size, 24, none⟩ (.int .i64 k) = w1 at B1 ⊢
  generalize (C.setIfInBounds 22 (.bool true)).setIfInBounds 24 (.int .i64 k) = C1 at B1
  have TT : Hid (Told w (w1.setCells (w.heap.size + 1) 0 C1.toList) (w.heap.size + 1) C C1 (s.stop k)) := Told.same B1.out
  go_wp2_with (first
    | ((with_reducible show wpList _ _ _ (Oper.mk _ (Op.load _ _) _ _ _ _ :: _) _ _); refine wpList_load_if (by rfl) 37 (.tmp 2) rfl w.heap.size 0 rfl C1.toList _ (at_range B1.out.at_) Tryd.underlying37 rfl (st_info B1.out.st).2 ?_)
    | ((with_reducible show wpList _ _ _ (Oper.mk _ (Op.store _ _ _) _ _ _ _ :: _) _ _); refine wpList_store_room (w := w) rfl (.tmp 4) (.tmp 8) rfl (w.heap.size + 1) C1 rfl rfl B1.out.st B1.out.room ?_))
  exact bodyPost_ret (v := .agg C1) (results_st rfl _ (w.heap.size + 1) (by first | rfl | simp) TT.out.st _ TT.out.at_) rfl TT.out.post
set_option maxRecDepth 100000 in
theorem rstep_en {w : World} {C : Array Value} {s : St} (h : IsSt w (.agg C) s) (he : s.en = true) (a : Option Addr) (n c : Nat) :
    Calls Tryd.prog 13 #[.slice a n c, .agg C] w (StPost w C s) := by
  have B0 : Hid (Boxed w ((w.alloc (.cells C 37)).alloc (.cells noSt 37)) w.heap.size (w.heap.size + 1) C C s) := Boxed.new h _ _
  clear h
  go_enter Tryd.func13, Tryd.ntmps13
  go_upto_region 1 with fail
  rw [noSt_def]
  generalize (w.alloc (.cells C 37)).alloc (.cells noSt 37) = w0 at B0 ⊢
  obtain ⟨-, -, -, x22, -, -⟩ := cell_st B0.out
  rw [he] at x22
  have TT : Hid (Told w (w0.setCells (w.heap.size + 1) 0 C.toList) (w.heap.size + 1) C C (s)) := Told.same B0.out
  go_wp2_with (first
    | ((with_reducible show wpList _ _ _ (Oper.mk _ (Op.load _ _) _ _ _ _ :: _) _ _); refine wpList_load_if (by rfl) 37 (.tmp 3) rfl w.heap.size 0 rfl C.toList _ (at_range B0.out.at_) Tryd.underlying37 rfl (st_info B0.out.st).2 ?_)
    | ((with_reducible show wpList _ _ _ (Oper.mk _ (Op.store _ _ _) _ _ _ _ :: _) _ _); refine wpList_store_room (w := w) rfl (.tmp 4) (.tmp 18) rfl (w.heap.size + 1) C rfl rfl B0.out.st B0.out.room ?_))
  exact bodyPost_ret (v := .agg C) (results_st rfl _ (w.heap.size + 1) (by first | rfl | simp) TT.out.st _ TT.out.at_) rfl TT.out.post
set_option maxRecDepth 100000 in
theorem rstep_neg {w : World} {C : Array Value} {s : St} (h : IsSt w (.agg C) s) (he : s.en = false) (a : Option Addr) (n c : Nat) (hp : s.at_ < 0) :
    Calls Tryd.prog 13 #[.slice a n c, .agg C] w (StPost w C (s.stop 2)) := by
  have B0 : Hid (Boxed w ((w.alloc (.cells C 37)).alloc (.cells noSt 37)) w.heap.size (w.heap.size + 1) C C s) := Boxed.new h _ _
  clear h
  go_enter Tryd.func13, Tryd.ntmps13
  go_upto_region 1 with fail
  rw [noSt_def]
  generalize (w.alloc (.cells C 37)).alloc (.cells noSt 37) = w0 at B0 ⊢
  obtain ⟨x0, -, -, x22, -, -⟩ := cell_st B0.out
  rw [he] at x22
  have q1 : decide (s.at_ < 0) = true := by simp [hp]
  clear hp
  go_wp2_with (first
    | (go_at_call 20; refine (rend_st B0.out.st 2).mono ?_; rintro e w9 ⟨C9, rfl, h9, v9, b9⟩)
    | ((with_reducible show wpList _ _ _ (Oper.mk _ (Op.load _ _) _ _ _ _ :: _) _ _); refine wpList_load_if (by rfl) 37 (.tmp 3) rfl w.heap.size 0 rfl C.toList _ (at_range B0.out.at_) Tryd.underlying37 rfl (st_info B0.out.st).2 ?_)
    | ((with_reducible show wpList _ _ _ (Oper.mk _ (Op.store _ _ _) _ _ _ _ :: _) _ _); refine wpList_store_room (w := w) rfl (.tmp 4) (.tmp 30) rfl (w.heap.size + 1) C9 rfl rfl h9 (there_later B0.out.room b9) ?_))
  have TT := Told.call B0.out b9 h9 v9
  exact bodyPost_ret (v := .agg C9) (results_st rfl _ (w.heap.size + 1) (by first | rfl | simp) TT.st _ TT.at_) rfl TT.post
set_option maxRecDepth 100000 in
theorem rstep_far {w : World} {C : Array Value} {s : St} (h : IsSt w (.agg C) s) (he : s.en = false) (a : Option Addr) (n c : Nat) (p : Nat) (hp0 : s.at_ = p) (hp : n ≤ p) :
    Calls Tryd.prog 13 #[.slice a n c, .agg C] w (StPost w C (s.stop 2)) := by
  have B0 : Hid (Boxed w ((w.alloc (.cells C 37)).alloc (.cells noSt 37)) w.heap.size (w.heap.size + 1) C C s) := Boxed.new h _ _
  clear h
  go_enter Tryd.func13, Tryd.ntmps13
  go_upto_region 1 with fail
  rw [noSt_def]
  generalize (w.alloc (.cells C 37)).alloc (.cells noSt 37) = w0 at B0 ⊢
  obtain ⟨x0, -, -, x22, -, -⟩ := cell_st B0.out
  rw [he] at x22
  have q1 : decide ((p : Int) < 0) = false := by simp
  have q2 : decide (n ≤ p) = true := by simp [hp]
  rw [hp0] at x0
  clear hp
  go_wp2_with (first
    | (go_at_call 20; refine (rend_st B0.out.st 2).mono ?_; rintro e w9 ⟨C9, rfl, h9, v9, b9⟩)
    | ((with_reducible show wpList _ _ _ (Oper.mk _ (Op.load _ _) _ _ _ _ :: _) _ _); refine wpList_load_if (by rfl) 37 (.tmp 3) rfl w.heap.size 0 rfl C.toList _ (at_range B0.out.at_) Tryd.underlying37 rfl (st_info B0.out.st).2 ?_)
    | ((with_reducible show wpList _ _ _ (Oper.mk _ (Op.store _ _ _) _ _ _ _ :: _) _ _); refine wpList_store_room (w := w) rfl (.tmp 4) (.tmp 30) rfl (w.heap.size + 1) C9 rfl rfl h9 (there_later B0.out.room b9) ?_))
  have TT := Told.call B0.out b9 h9 v9
  exact bodyPost_ret (v := .agg C9) (results_st rfl _ (w.heap.size + 1) (by first | rfl | simp) TT.st _ TT.at_) rfl TT.post
set_option maxRecDepth 100000 in
theorem rstep_bad {w : World} {C : Array Value} {s : St} (h : IsSt w (.agg C) s) (he : s.en = false) (a : Option Addr) (n c : Nat) (f : Nat → Int) (i : Nat) (x : Int) (hn : n ≤ 1000) (hw : RowK .u32 w a n f) (hi : s.at_ = i) (hin : i < n) (hx : f i = x)
    (hG : ∀ W, Below w.heap.size w W → Calls Tryd.prog 21 #[.int .u32 x] W fun e w' => e = .returned (.tuple #[.agg #[.int .i64 0, .int .i64 0, .int .i64 0, .int .i64 0, .int .i64 0], .bool false]) ∧ Below W.heap.size W w') :
    Calls Tryd.prog 13 #[.slice a n c, .agg C] w (StPost w C (s.stop 2)) := by
  have B0 : Hid (Boxed w ((w.alloc (.cells C 37)).alloc (.cells noSt 37)) w.heap.size (w.heap.size + 1) C C s) := Boxed.new h _ _
  clear h
  go_enter Tryd.func13, Tryd.ntmps13
  go_upto_region 1 with fail
  rw [noSt_def]
  generalize (w.alloc (.cells C 37)).alloc (.cells noSt 37) = w0 at B0 ⊢
  have HG : Hid (∀ W, Below w0.heap.size w0 W → Calls Tryd.prog 21 #[.int .u32 x] W fun e w' => e = .returned (.tuple #[.agg #[.int .i64 0, .int .i64 0, .int .i64 0, .int .i64 0, .int .i64 0], .bool false]) ∧ Below W.heap.size W w') := fun W hW => hG W (bnext B0.out.bel hW)
  obtain ⟨-, rfl | ⟨b, off, rfl, hcw⟩⟩ := hw
  · omega
  have xi := cell_later' (hcw i hin) B0.out.bel
  rw [hx] at xi
  have q1 : decide ((i : Int) < 0) = false := by simp
  have q2 : decide (n ≤ i) = false := by simp [hin]
  clear hG hcw hx
  obtain ⟨x0, -, -, x22, -, -⟩ := cell_st B0.out
  rw [he] at x22
  rw [hi] at x0
  go_upto_region 6 with (go_at_call 21; refine (HG.out _ (Below.refl _ _)).mono ?_; rintro e w1 ⟨rfl, hb1⟩; have HB1 : Hid (Below w0.heap.size w0 w1) := hb1)
  have B1 : Hid (Boxed w (w1.alloc (.cells #[.int .i64 0, .int .i64 0, .int .i64 0, .int .i64 0, .int .i64 0] 54)) w.heap.size (w.heap.size + 1) C C s) := (B0.out.later HB1.out).later ((Below.refl _ _).alloc (Nat.le_refl _) _)
  have I1 : Hid (InsAt (w1.alloc (.cells #[.int .i64 0, .int .i64 0, .int .i64 0, .int .i64 0, .int .i64 0] 54)) w1.heap.size 0 0 0 0 0) := InsAt.new _ _ _ _ _ _ _
  have L1 : Hid (w.heap.size + 1 < w1.heap.size) := by have h1 := B0.out.hb; have h2 := HB1.out.size; have h3 := B0.out.hb.2.2.2.2; show _ < _; omega
  clear x0 x22 hb1 HB1 HG B0 xi q1 q2
  generalize w1.alloc (.cells #[.int .i64 0, .int .i64 0, .int .i64 0, .int .i64 0, .int .i64 0] 54) = w2 at B1 I1 ⊢
  go_wp2_with (first
    | (go_at_call 20; refine (rend_st B1.out.st 2).mono ?_; rintro e w9 ⟨C9, rfl, h9, v9, b9⟩)
    | ((with_reducible show wpList _ _ _ (Oper.mk _ (Op.load _ _) _ _ _ _ :: _) _ _); refine wpList_load_if (by rfl) 37 (.tmp 3) rfl w.heap.size 0 rfl C.toList _ (at_range B1.out.at_) Tryd.underlying37 rfl (st_info B1.out.st).2 ?_)
    | ((with_reducible show wpList _ _ _ (Oper.mk _ (Op.store _ _ _) _ _ _ _ :: _) _ _); refine wpList_store_room (w := w) rfl (.tmp 4) (.tmp 43) rfl (w.heap.size + 1) C9 rfl rfl h9 (there_later B1.out.room b9) ?_))
  have TT := Told.call B1.out b9 h9 v9
  exact bodyPost_ret (v := .agg C9) (results_st rfl _ (w.heap.size + 1) (by first | rfl | simp) TT.st _ TT.at_) rfl TT.post
end Go.Proofs.YtnpejnjigaalfaaDoor
