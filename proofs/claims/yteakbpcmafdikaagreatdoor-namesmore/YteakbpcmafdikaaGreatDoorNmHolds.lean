/- All that has a name, as the document's answer lists it. What is held of the names of right objects. No condition. Relocations, taken by the document's reader. -/
import Derived.Test.YteakbpcmafdikaaGreatDoorNamRef
import Derived.Deep.RegionHeld3
import Derived.Test.YteakbpcmafdikaaGreatDoorNmOwn
import Derived.Test.YteakbpcmafdikaaGreatDoorNmObj
namespace Go.Proofs.YteakbpcmafdikaaGreatDoor
open Go.ChangeShapes Go.WideShapes Go.ChangeAt Go.RowKit
set_option linter.unusedVariables false
set_option linter.unusedSimpArgs false
theorem infoItem : (Tryz.prog.info? 71).map (fun i => (i.zero, i.size, i.bytes)) = some (some (.agg #[.int .i64 0, .int .i64 0, .bool false, .string ⟨#[]⟩, .int .i64 0]), 5, 48) := by kernel_rfl
def OwnI (w : World) (base : Nat) (v : Value) (L : List ItemM) : Prop := w.ownsRow base 71 5 v L.length (L.flatMap itC)
theorem ownI_later {w w1 : World} {base : Nat} {v : Value} {L : List ItemM} (h : OwnI w base v L) (hb : Below w.heap.size w w1) : OwnI w1 base v L :=
  World.ownsRow.kept (row := none) h ⟨hb.os, hb.tape, hb.output, hb.size, fun k hk _ => hb.block k hk⟩ (by cases hv : v.ownBlock <;> simp)
theorem ownI_more {w : World} {base : Nat} {v : Value} {L : List ItemM} {x : ItemM} (h : w.ownsRow base 71 5 v (L.length + 1) (L.flatMap itC ++ itC x)) : OwnI w base v (L ++ [x]) := by
  unfold OwnI
  rw [List.length_append, List.flatMap_append, List.flatMap_singleton]
  exact h
theorem itemsL_next {l : List ObjM} {k : Nat} {o : ObjM} (h : l[k]? = some o) : itemsL (l.take (k + 1)) = itemsL (l.take k) ++ objI k o := by
  unfold itemsL
  rw [mapIdx_next objI h, List.flatten_append]
  simp
theorem addr_add11 (b o j : Nat) : (⟨b, o, none⟩ : Addr).add j = ⟨b, o + j, none⟩ := by cases j <;> simp [Addr.add]
theorem item_news (W : World) (x : ItemM) : ∀ ad, some (⟨W.heap.size, 0, none⟩ : Addr) = some ad → ∀ j u, (itC x)[j]? = some u → ((W.alloc (.cells #[.int .i64 (x.obj : Int), .int .i64 (x.at_ : Int), .bool x.data, .string x.name, .int .i64 x.bind] 71)).drew).cell? (ad.add j) = some u := fun ad ha j u hu => by
  cases ha
  rw [addr_add11, Nat.zero_add]
  exact cell_any (new_cell' W #[.int .i64 (x.obj : Int), .int .i64 (x.at_ : Int), .bool x.data, .string x.name, .int .i64 x.bind] _ j u (by simpa [itC] using hu)) (Below.refl _ _).drew
theorem itC_one (x : ItemM) : ∀ u ∈ itC x, u.oneCell' = true := fun u hu => by
  simp [itC] at hu
  rcases hu with rfl | rfl | rfl | rfl | rfl <;> rfl
/-- An item behind items, at a step of a region that draws its order. -/
theorem step_item {ops : Array Oper} {o : Oper} {a : Act} {K : Act → World → Prop} {Q : Exit → Act → World → Prop} {E : Prop} (hgd : o.guard = none) (s x : Operand)
    (ho : o.op = .call { callee := .builtin .append, args := #[s, x], argTypes := #[68, 68] }) (W : World) (base : Nat) (hb : base ≤ W.heap.size) (v : Value) (L : List ItemM) (z : ItemM)
    (hs : a.eval s = v) (hown : OwnI W base v L) (hx : a.eval x = .slice (some ⟨W.heap.size, 0, none⟩) 1 1) (hm : L.length ≤ 100000)
    (h : ∀ a' c' w', OwnI w' base (.slice a' (L.length + 1) c') (L ++ [z]) → Below base W w' → K (a.put o.dst (.slice a' (L.length + 1) c')) w') :
    if Region.wanted o (yielded ops a.tmps) = true then Oper.wp Tryz.prog o a ((W.alloc (.cells #[.int .i64 (z.obj : Int), .int .i64 (z.at_ : Int), .bool z.data, .string z.name, .int .i64 z.bind] 71)).drew) K Q else E := by
  obtain ⟨i0, hi, hiz, hsz, hby⟩ := info_parts infoItem
  refine step_append_all _ hgd s x 68 ho base 71 i0 _ 5 48 Tryz.underlying68 hi hiz hsz hby rfl (by decide) v L.length (L.flatMap itC) hs (ownI_later hown (keep_alloc8 (Below.refl _ _) _).drew) (some ⟨W.heap.size, 0, none⟩) 1 1 (itC z) hx rfl (fun e => by cases e) (item_news W z) (itC_one z) (by unfold maxLen; omega) (by omega) (by simp; omega) ?_
  intro a' c' w' own gr
  exact h _ _ w' (ownI_more own) (((Below.refl base W).alloc hb _).drew.grown gr (by simp; omega) (fun q hq => (hown.lt q hq).1))
set_option maxRecDepth 100000 in
set_option maxHeartbeats 8000000 in
theorem items_any {A : Nat → Prop} {w : World} {v : Value} {l : List ObjM} (h : IsObjs A w v l) (hl : l.length ≤ 20) (hfew : ∀ o ∈ l, fewO o) :
    Calls Tryz.prog 22 #[v] w fun e w' => (∃ v', e = .returned v' ∧ OwnI w' w.heap.size v' (itemsL l)) ∧ Below w.heap.size w w' := by
  obtain ⟨a, c, rfl, -, -, lx⟩ := LstA.open h
  obtain ⟨n, en⟩ : ∃ n, l.length = n := ⟨_, rfl⟩
  rw [en] at hl lx ⊢
  have LX : Hid (∀ k, k < n → ∃ b off x, a = some ⟨b, off, none⟩ ∧ A b ∧ l[k]? = some x ∧ ObjAt A w b (off + k * 3) x) := lx
  have HN : Hid (l.length = n) := en
  have FW : Hid (∀ o ∈ l, fewO o) := hfew
  have hn : (n : Int) ≤ 20 := by omega
  have LB : Hid (∀ k, (itemsL (l.take k)).length ≤ k * 140) := fun k => by
    induction k with
    | zero => exact Nat.le_refl _
    | succ k ih =>
      by_cases hk : k < l.length
      · rw [itemsL_next (List.getElem?_eq_getElem hk), List.length_append]
        have hf := FW.out _ (List.getElem_mem hk)
        have : (objI k l[k]).length ≤ 140 := by unfold objI; rw [List.length_append, List.length_mapIdx, List.length_mapIdx]; have := hf.1.1; have := hf.1.2.1; omega
        omega
      · rw [List.take_of_length_le (by omega)] at ih ⊢
        omega
  clear h lx en hfew
  go_enter Tryz.func22, Tryz.ntmps22
  go_wp2
  go_loopw [4, 3] (fun i v wr => ∃ k : Nat, k ≤ n ∧ i = .int .i64 k ∧ OwnI wr w.heap.size v (itemsL (l.take k)) ∧ Below w.heap.size w wr) (fun i _ _ => n - (intOf i).toNat)
  case atStart => exact ⟨0, Nat.zero_le _, rfl, World.ownsRow_nil _ _ _ _, Below.refl _ _⟩
  case round =>
    obtain ⟨k, hk, rfl, hown, hbel⟩ := hrel
    have HB : Hid (Below w.heap.size w wr) := hbel
    have HW : Hid (OwnI wr w.heap.size u3 (itemsL (l.take k))) := hown
    clear hbel hown
    by_cases hlt : k < n
    · have hlt' : (k : Int) < n := by omega
      obtain ⟨b, off, o, rfl, -, hx, vf, vd, vn, x0, x1, x2, hf, hd, hnn⟩ := LX.out k hlt
      have HX : Hid (l[k]? = some o) := hx
      obtain ⟨fa, fc, rfl, -, -, fx⟩ := LstA.open hf
      obtain ⟨da, dc, rfl, -, -, dx⟩ := LstA.open hd
      have hfo := FW.out o (List.mem_of_getElem? hx)
      obtain ⟨F, eF⟩ : ∃ F, o.funcs.length = F := ⟨_, rfl⟩
      obtain ⟨D, eD⟩ : ∃ D, o.datas.length = D := ⟨_, rfl⟩
      rw [eF] at fx x0
      rw [eD] at dx x1
      have EF : Hid (o.funcs.length = F ∧ o.datas.length = D ∧ F ≤ 70 ∧ D ≤ 70) := ⟨eF, eD, by have := hfo.1.1; omega, by have := hfo.1.2.1; omega⟩
      have hF : (F : Int) ≤ 70 := by have := EF.out; omega
      have hD : (D : Int) ≤ 70 := by have := EF.out; omega
      have FX : Hid (∀ j, j < F → ∃ b off x, fa = some ⟨b, off, none⟩ ∧ A b ∧ o.funcs[j]? = some x ∧ FuncAt A w b (off + j * 4) x) := fx
      have DX : Hid (∀ j, j < D → ∃ b off x, da = some ⟨b, off, none⟩ ∧ A b ∧ o.datas[j]? = some x ∧ DataAt A w b (off + j * 7) x) := dx
      have C0 : Hid (w.cell? ⟨b, off + k * 3, none⟩ = some (.slice fa F fc)) := x0
      have C1 : Hid (w.cell? ⟨b, off + k * 3 + 1, none⟩ = some (.slice da D dc)) := x1
      have NXT : Hid (itemsL (l.take (k + 1)) = itemsL (l.take k) ++ objI k o) := itemsL_next hx
      have LB1 : Hid ((itemsL (l.take k)).length ≤ 3000) := by have := LB.out k; unfold Hid; omega
      generalize itemsL (l.take k) = T at HW NXT LB1
      clear hx hf hd hnn x0 x1 x2 fx dx eF eD hfo
      go_wp2
      go_loopw [5, 3] (fun i v wr => ∃ j : Nat, j ≤ F ∧ i = .int .i64 j ∧ OwnI wr w.heap.size v (T ++ (o.funcs.take j).mapIdx (funcI k)) ∧ Below w.heap.size w wr) (fun i _ _ => F - (intOf i).toNat)
      case atStart => exact ⟨0, Nat.zero_le _, rfl, by rw [List.take_zero]; simpa using HW.out, HB.out⟩
      case round =>
        clear HB HW
        obtain ⟨j, hj, rfl, hown, hbel⟩ := hrel
        have HB : Hid (Below w.heap.size w wr) := hbel
        have HW : Hid (OwnI wr w.heap.size u3 (T ++ (o.funcs.take j).mapIdx (funcI k))) := hown
        clear hbel hown
        have c0 := cell_any C0.out HB.out
        by_cases hlt2 : j < F
        · have hlt2' : (j : Int) < F := by omega
          obtain ⟨fb, fo, ⟨xn, xb, lc, lr⟩, rfl, -, hx, vc, vr, f0, f1, -⟩ := FX.out j hlt2
          dsimp only at f0 f1
          have N1 : Hid (T ++ (o.funcs.take (j + 1)).mapIdx (funcI k) = (T ++ (o.funcs.take j).mapIdx (funcI k)) ++ [⟨k, j, false, xn, xb⟩] ∧ (T ++ (o.funcs.take j).mapIdx (funcI k)).length ≤ 100000) := by
            refine ⟨by rw [mapIdx_next (funcI k) hx, List.append_assoc]; rfl, ?_⟩
            rw [List.length_append, List.length_mapIdx, List.length_take]
            have := LB1.out
            omega
          have KEEP : Hid (∀ W, Below w.heap.size wr W → W.cell? ⟨b, off + k * 3, none⟩ = some (.slice (some ⟨fb, fo, none⟩) F fc) ∧ W.cell? ⟨fb, fo + j * 4, none⟩ = some (.string xn) ∧ W.cell? ⟨fb, fo + j * 4 + 1, none⟩ = some (.int .i64 xb)) := fun W hW =>
            ⟨cell_any C0.out (HB.out.trans hW), cell_any f0 (HB.out.trans hW), cell_any f1 (HB.out.trans hW)⟩
          generalize T ++ (o.funcs.take j).mapIdx (funcI k) = L at HW N1
          have hsz := HB.out.size
          clear hx f0 f1
          go_upto_region 8 with fail
          go_region_held3 (fun W => W.cell? ⟨b, off + k * 3, none⟩ = some (.slice (some ⟨fb, fo, none⟩) F fc) ∧ W.cell? ⟨fb, fo + j * 4, none⟩ = some (.string xn) ∧ W.cell? ⟨fb, fo + j * 4 + 1, none⟩ = some (.int .i64 xb))
            (first
            | exact KEEP.out _ b5
            | exact KEEP.out _ (by repeat' (first | exact Below.refl _ _ | refine Below.drew ?_ | refine Below.alloc ?_ hsz _)))
            ((refine step_item (by rfl) (.tmp 23) (.tmp 45) (by rfl) wr w.heap.size hsz u3 L ⟨k, j, false, xn, xb⟩ (by rfl) HW.out (by rfl) N1.out.2 ?_; intro a5 c5 w5 o5 b5))
          all_goals
            have HO5 : Hid (OwnI w5 w.heap.size (.slice a5 (L.length + 1) c5) (T ++ (o.funcs.take (j + 1)).mapIdx (funcI k))) := by unfold Hid; rw [N1.out.1]; exact o5
            have HB5 : Hid (Below w.heap.size w w5) := HB.out.trans b5
            clear o5 b5 KEEP
            go_wp2
            go_roundw
            case rel => exact ⟨j + 1, by omega, by go_num, HO5.out, HB5.out⟩
            case measure => simp [intOf]; omega
        · obtain rfl : j = F := by omega
          have HW2 : Hid (OwnI wr w.heap.size u3 (T ++ o.funcs.mapIdx (funcI k))) := by have h := HW.out; rwa [← EF.out.1, List.take_length] at h
          have LB2 : Hid ((T ++ o.funcs.mapIdx (funcI k)).length ≤ 3070) := by unfold Hid; rw [List.length_append, List.length_mapIdx]; have := LB1.out; have := EF.out; omega
          have NXT2 : Hid (itemsL (l.take (k + 1)) = (T ++ o.funcs.mapIdx (funcI k)) ++ o.datas.mapIdx (dataI k)) := by unfold Hid; rw [NXT.out, List.append_assoc]; rfl
          generalize T ++ o.funcs.mapIdx (funcI k) = T2 at HW2 LB2 NXT2
          clear HW NXT LB1
          go_wp2
          go_loopw [6, 3] (fun i v wr => ∃ p : Nat, p ≤ D ∧ i = .int .i64 p ∧ OwnI wr w.heap.size v (T2 ++ (o.datas.take p).mapIdx (dataI k)) ∧ Below w.heap.size w wr) (fun i _ _ => D - (intOf i).toNat)
          case atStart => exact ⟨0, Nat.zero_le _, rfl, by rw [List.take_zero]; simpa using HW2.out, HB.out⟩
          case round =>
            clear HB HW2 c0
            obtain ⟨p, hp, rfl, hown, hbel⟩ := hrel
            have HB : Hid (Below w.heap.size w wr) := hbel
            have HW : Hid (OwnI wr w.heap.size u3 (T2 ++ (o.datas.take p).mapIdx (dataI k))) := hown
            clear hbel hown
            have c1 := cell_any C1.out HB.out
            by_cases hlt3 : p < D
            · have hlt3' : (p : Int) < D := by omega
              obtain ⟨fb, fo, ⟨xn, xb, xa, xf, xz, lb, lr⟩, rfl, -, hx, vb, vr, f0, f1, -⟩ := DX.out p hlt3
              dsimp only at f0 f1
              have N1 : Hid (T2 ++ (o.datas.take (p + 1)).mapIdx (dataI k) = (T2 ++ (o.datas.take p).mapIdx (dataI k)) ++ [⟨k, p, true, xn, xb⟩] ∧ (T2 ++ (o.datas.take p).mapIdx (dataI k)).length ≤ 100000) := by
                refine ⟨by rw [mapIdx_next (dataI k) hx, List.append_assoc]; rfl, ?_⟩
                rw [List.length_append, List.length_mapIdx, List.length_take]
                have := LB2.out
                omega
              have KEEP : Hid (∀ W, Below w.heap.size wr W → W.cell? ⟨b, off + k * 3 + 1, none⟩ = some (.slice (some ⟨fb, fo, none⟩) D dc) ∧ W.cell? ⟨fb, fo + p * 7, none⟩ = some (.string xn) ∧ W.cell? ⟨fb, fo + p * 7 + 1, none⟩ = some (.int .i64 xb)) := fun W hW =>
                ⟨cell_any C1.out (HB.out.trans hW), cell_any f0 (HB.out.trans hW), cell_any f1 (HB.out.trans hW)⟩
              generalize T2 ++ (o.datas.take p).mapIdx (dataI k) = L at HW N1
              have hsz := HB.out.size
              clear hx f0 f1
              go_upto_region 12 with fail
              go_region_held3 (fun W => W.cell? ⟨b, off + k * 3 + 1, none⟩ = some (.slice (some ⟨fb, fo, none⟩) D dc) ∧ W.cell? ⟨fb, fo + p * 7, none⟩ = some (.string xn) ∧ W.cell? ⟨fb, fo + p * 7 + 1, none⟩ = some (.int .i64 xb))
                (first
                | exact KEEP.out _ b5
                | exact KEEP.out _ (by repeat' (first | exact Below.refl _ _ | refine Below.drew ?_ | refine Below.alloc ?_ hsz _)))
                ((refine step_item (by rfl) (.tmp 57) (.tmp 79) (by rfl) wr w.heap.size hsz u3 L ⟨k, p, true, xn, xb⟩ (by rfl) HW.out (by rfl) N1.out.2 ?_; intro a5 c5 w5 o5 b5))
              all_goals
                have HO5 : Hid (OwnI w5 w.heap.size (.slice a5 (L.length + 1) c5) (T2 ++ (o.datas.take (p + 1)).mapIdx (dataI k))) := by unfold Hid; rw [N1.out.1]; exact o5
                have HB5 : Hid (Below w.heap.size w w5) := HB.out.trans b5
                clear o5 b5 KEEP
                go_wp2
                go_roundw
                case rel => exact ⟨p + 1, by omega, by go_num, HO5.out, HB5.out⟩
                case measure => simp [intOf]; omega
            · obtain rfl : p = D := by omega
              have HW3 : Hid (OwnI wr w.heap.size u3 (itemsL (l.take (k + 1)))) := by have h := HW.out; rw [← EF.out.2.1, List.take_length] at h; unfold Hid; rw [NXT2.out]; exact h
              clear HW
              go_wp2
              go_roundw
              case rel => exact ⟨k + 1, by omega, by go_num, HW3.out, HB.out⟩
              case measure => simp [intOf]; omega
    · obtain rfl : k = n := by omega
      have HW3 : Hid (OwnI wr w.heap.size u3 (itemsL l)) := by have h := HW.out; rwa [← HN.out, List.take_length] at h
      go_wp2
      go_ret
      exact ⟨⟨_, rfl, HW3.out⟩, HB.out⟩
open Go.ChangeShapes Go.WideShapes Go.ChangeAt Go.RowKit Go.Maps
set_option linter.unusedVariables false
set_option linter.unusedSimpArgs false
/-- The size and the alignment of what an item is. -/
def sizeI (l : List ObjM) (x : ItemM) : Int := if x.data = true then (dataOf l x).size else 0
def alignI (l : List ObjM) (x : ItemM) : Int := if x.data = true then (dataOf l x).align else 0
theorem data_at {l : List ObjM} {k p : Nat} {o : ObjM} {d : DataM} (h : l[k]? = some o) (hd : o.datas[p]? = some d) (n : ByteArray) (b : Int) : dataOf l ⟨k, p, true, n, b⟩ = d := by
  unfold dataOf objAt
  simp [List.getD_eq_getElem?_getD, h, hd]
theorem func_at {l : List ObjM} {k p : Nat} {o : ObjM} {f : FuncM} (h : l[k]? = some o) (hf : o.funcs[p]? = some f) (n : ByteArray) (b : Int) : funcOf l ⟨k, p, false, n, b⟩ = f := by
  unfold funcOf objAt
  simp [List.getD_eq_getElem?_getD, h, hf]
theorem itemsL_pre (l : List ObjM) (k : Nat) : itemsL (l.take k) <+: itemsL l := ⟨((l.mapIdx objI).drop k).flatten, by unfold itemsL; rw [← mapIdx_take, ← List.flatten_append, List.take_append_drop]⟩
theorem twice_pre {xs ys : List ItemM} {x : ItemM} (hp : xs ++ [x] <+: ys) (h1 : x.bind = 1) (h2 : ∃ y ∈ xs, y.bind = 1 ∧ y.name = x.name) : twiceP ys := by
  obtain ⟨zs, rfl⟩ := hp
  rw [List.append_assoc]
  exact twice_snoc h1 h2
theorem pre_func {l : List ObjM} {k j : Nat} {o : ObjM} {f : FuncM} (h : l[k]? = some o) (hf : o.funcs[j]? = some f) : (itemsL (l.take k) ++ (o.funcs.take j).mapIdx (funcI k)) ++ [funcI k j f] <+: itemsL l := by
  refine List.IsPrefix.trans ?_ (itemsL_pre l (k + 1))
  rw [itemsL_next h, List.append_assoc, ← mapIdx_next (funcI k) hf]
  refine (List.prefix_append_right_inj _).2 ?_
  unfold objI
  rw [← mapIdx_take]
  exact (List.take_prefix _ _).trans (List.prefix_append _ _)
theorem pre_data {l : List ObjM} {k j : Nat} {o : ObjM} {d : DataM} (h : l[k]? = some o) (hd : o.datas[j]? = some d) : ((itemsL (l.take k) ++ o.funcs.mapIdx (funcI k)) ++ (o.datas.take j).mapIdx (dataI k)) ++ [dataI k j d] <+: itemsL l := by
  refine List.IsPrefix.trans ?_ (itemsL_pre l (k + 1))
  rw [itemsL_next h, List.append_assoc, ← mapIdx_next (dataI k) hd, List.append_assoc]
  refine (List.prefix_append_right_inj _).2 ?_
  unfold objI
  refine (List.prefix_append_right_inj _).2 ?_
  rw [← mapIdx_take]
  exact List.take_prefix _ _
section
variable {sz al : ItemM → Int} {xs : List ItemM} {H : Held} {x : ItemM}
theorem offer_step (h : heldOk sz al xs H) (hn : noTwice xs) (hb : x.bind = 1 ∨ x.bind = 2 ∨ x.bind = 3 ∨ x.bind = 4) {H' : Held} (e : offerR H x.name ⟨x.obj, x.bind, sz x, al x⟩ = some H') : heldOk sz al (xs ++ [x]) H' ∧ noTwice (xs ++ [x]) := by
  unfold offerR at e
  dsimp only at e
  by_cases h3 : x.bind = 3
  · rw [if_pos h3] at e
    cases e
    exact ⟨held_local h h3, once_local hn h3⟩
  · rw [if_neg h3, Option.map_eq_some_iff] at e
    obtain ⟨q, hq, rfl⟩ := e
    exact ⟨held_next h (by omega) hq, once_next h hn rfl hq⟩
theorem offer_twice (h : heldOk sz al xs H) (hb : x.bind = 1 ∨ x.bind = 2 ∨ x.bind = 3 ∨ x.bind = 4) (e : offerR H x.name ⟨x.obj, x.bind, sz x, al x⟩ = none) : x.bind = 1 ∧ ∃ y ∈ xs, y.bind = 1 ∧ y.name = x.name := by
  unfold offerR at e
  dsimp only at e
  by_cases h3 : x.bind = 3
  · rw [if_pos h3] at e; cases e
  · rw [if_neg h3, Option.map_eq_none_iff] at e
    exact twice_at (g := ⟨x.obj, x.bind, sz x, al x⟩) h rfl (by show (1 : Int) ≤ x.bind; omega) e
end
/-- Objects are right: what is used of that. -/
def rightO (o : ObjM) : Prop := (∀ f ∈ o.funcs, f.bind = 1 ∨ f.bind = 2 ∨ f.bind = 3) ∧ (∀ d ∈ o.datas, d.bind = 1 ∨ d.bind = 2 ∨ d.bind = 3 ∨ d.bind = 4) ∧ (namesL o).Nodup
theorem rightO_of {o : ObjM} (h : objE o = 0) : rightO o := by
  by_cases h1 : objOk o
  · by_cases h2 : firstE fnE o.funcs = 0
    · by_cases h3 : ∀ d ∈ o.datas, rdataOk d
      · by_cases h4 : (namesL o).Nodup ∧ notesOk o
        · refine ⟨fun f hf => ?_, fun d hd => ?_, h4.1⟩
          · rcases firstE_bd (g := fnE) o.funcs with ⟨-, k⟩ | ⟨x, -, k, kn⟩
            · exact (fnE_right (k f hf)).1.1
            · rw [h2] at k; exact absurd k.symm kn
          · have := (h3 d hd).1; omega
        · rw [objE_names h1 h2 h3 h4] at h; cases h
      · simp only [Classical.not_forall] at h3
        obtain ⟨d, hd, hn⟩ := h3
        rw [objE_data h1 h2 hd hn] at h; cases h
    · rw [objE_func h1 rfl h2] at h; exact absurd h h2
  · rw [objE_may h1] at h; cases h
set_option maxRecDepth 100000 in
set_option maxHeartbeats 8000000 in
theorem hold_any {A : Nat → Prop} {w : World} {v : Value} {l : List ObjM} (h : IsObjs A w v l) (hl : l.length ≤ 20) (hfew : ∀ o ∈ l, fewO o) (hright : ∀ o ∈ l, rightO o) :
    Calls Tryz.prog 19 #[v] w fun e w' => ((∃ b n H, e = .returned (.tuple #[.map (some b), .int .i64 0]) ∧ noTwice (itemsL l) ∧ HeldAt w' b n H ∧ heldOk (sizeI l) (alignI l) (itemsL l) H ∧ w.heap.size ≤ b) ∨
      (e = .returned (.tuple #[.map none, .int .i64 5]) ∧ twiceP (itemsL l))) ∧ Below w.heap.size w w' := by
  obtain ⟨a, c, rfl, -, -, lx⟩ := LstA.open h
  obtain ⟨n, en⟩ : ∃ n, l.length = n := ⟨_, rfl⟩
  rw [en] at hl lx ⊢
  have LX : Hid (∀ k, k < n → ∃ b off x, a = some ⟨b, off, none⟩ ∧ A b ∧ l[k]? = some x ∧ ObjAt A w b (off + k * 3) x) := lx
  have HN : Hid (l.length = n) := en
  have FW : Hid (∀ o ∈ l, fewO o) := hfew
  have RT : Hid (∀ o ∈ l, rightO o) := hright
  have hn : (n : Int) ≤ 20 := by omega
  clear h lx en hfew hright
  have hmm := @run_makeMap Tryz.prog
  have UP : Hid (Below w.heap.size w (w.alloc (.map #[] 0))) := keep_alloc8 (Below.refl _ _) _
  have M0 : Hid (HeldAt (w.alloc (.map #[] 0)) w.heap.size 0 fun _ => none) := mapAt_made strT holdV w
  go_enter Tryz.func19, Tryz.ntmps19
  go_upto_region 2 with fail
  generalize w.alloc (.map #[] 0) = w0 at UP M0 ⊢
  clear hmm
  go_wp2
  go_loopw [14] (fun i wr => ∃ k : Nat, k ≤ n ∧ i = .int .i64 k ∧ (∃ H, HeldAt wr w.heap.size (k * 140) H ∧ heldOk (sizeI l) (alignI l) (itemsL (l.take k)) H ∧ noTwice (itemsL (l.take k))) ∧ Below w.heap.size w wr) (fun i _ => n - (intOf i).toNat)
  case atStart => exact ⟨0, Nat.zero_le _, rfl, ⟨_, by simpa using M0.out, held_nil, List.Pairwise.nil⟩, UP.out⟩
  case round =>
    obtain ⟨k, hk, rfl, ⟨H, hM, hO, hT⟩, hbel⟩ := hrel
    have HB : Hid (Below w.heap.size w wr) := hbel
    have HM : Hid (HeldAt wr w.heap.size (k * 140) H) := hM
    have HO : Hid (heldOk (sizeI l) (alignI l) (itemsL (l.take k)) H) := hO
    have HT : Hid (noTwice (itemsL (l.take k))) := hT
    have hBlt : Hid (w.heap.size < wr.heap.size) := MapAt.lt hM
    clear hbel hM hO hT
    by_cases hlt : k < n
    · have hlt' : (k : Int) < n := by omega
      obtain ⟨b, off, o, rfl, -, hx, vf, vd, vn, x0, x1, x2, hf, hd, hnn⟩ := LX.out k hlt
      have HX : Hid (l[k]? = some o) := hx
      obtain ⟨fa, fc, rfl, -, -, fx⟩ := LstA.open hf
      obtain ⟨da, dc, rfl, -, -, dx⟩ := LstA.open hd
      obtain ⟨na, nc, rfl, -, -, -⟩ := LstA.open hnn
      have hfo := FW.out o (List.mem_of_getElem? hx)
      have hri := RT.out o (List.mem_of_getElem? hx)
      obtain ⟨F, eF⟩ : ∃ F, o.funcs.length = F := ⟨_, rfl⟩
      obtain ⟨D, eD⟩ : ∃ D, o.datas.length = D := ⟨_, rfl⟩
      obtain ⟨Nn, eN⟩ : ∃ Nn, o.notes.length = Nn := ⟨_, rfl⟩
      rw [eF] at fx x0
      rw [eD] at dx x1
      rw [eN] at x2
      have EF : Hid (o.funcs.length = F ∧ o.datas.length = D ∧ F ≤ 70 ∧ D ≤ 70) := ⟨eF, eD, by have := hfo.1.1; omega, by have := hfo.1.2.1; omega⟩
      have RI : Hid (rightO o) := hri
      have hF : (F : Int) ≤ 70 := by have := EF.out; omega
      have hD : (D : Int) ≤ 70 := by have := EF.out; omega
      have FX : Hid (∀ j, j < F → ∃ b off x, fa = some ⟨b, off, none⟩ ∧ A b ∧ o.funcs[j]? = some x ∧ FuncAt A w b (off + j * 4) x) := fx
      have DX : Hid (∀ j, j < D → ∃ b off x, da = some ⟨b, off, none⟩ ∧ A b ∧ o.datas[j]? = some x ∧ DataAt A w b (off + j * 7) x) := dx
      replace x0 := cell_any x0 HB.out
      replace x1 := cell_any x1 HB.out
      replace x2 := cell_any x2 HB.out
      have X1 : Hid (XAt (wr.alloc (.cells #[.slice fa F fc, .slice da D dc, .slice na Nn nc] 46)) wr.heap.size [.slice fa F fc, .slice da D dc, .slice na Nn nc]) := XAt.new _ _ _
      have UP1 : Hid (Below wr.heap.size wr (wr.alloc (.cells #[.slice fa F fc, .slice da D dc, .slice na Nn nc] 46))) := keep_alloc8 (Below.refl _ _) _
      have SZ : Hid (wr.heap.size < (wr.alloc (.cells #[.slice fa F fc, .slice da D dc, .slice na Nn nc] 46)).heap.size) := by unfold Hid; simp
      clear hx hf hd hnn fx dx eF eD eN hfo hri
      go_upto_region 5 with fail
      generalize wr.alloc (.cells #[.slice fa F fc, .slice da D dc, .slice na Nn nc] 46) = W1 at X1 UP1 SZ ⊢
      have y0 := X1.out.1 0 _ rfl
      clear x0 x1 x2
      have HM1 : Hid (HeldAt W1 w.heap.size (k * 140) H) := HM.out.later UP1.out
      have HB1 : Hid (Below w.heap.size w W1) := bnext HB.out UP1.out
      have NEX : Hid (wr.heap.size ≠ w.heap.size) := by have := hBlt.out; unfold Hid; omega
      clear HM HB UP1 hBlt
      generalize wr.heap.size = X at X1 SZ NEX y0 ⊢
      go_wp2
      go_loopw [22] (fun i wr => ∃ j : Nat, j ≤ F ∧ i = .int .i64 j ∧ (∃ H, HeldAt wr w.heap.size (k * 140 + j) H ∧ heldOk (sizeI l) (alignI l) (itemsL (l.take k) ++ (o.funcs.take j).mapIdx (funcI k)) H ∧ noTwice (itemsL (l.take k) ++ (o.funcs.take j).mapIdx (funcI k))) ∧ Apart (G1 w.heap.size) W1 wr) (fun i _ => F - (intOf i).toNat)
      case atStart => exact ⟨0, Nat.zero_le _, rfl, ⟨H, HM1.out, by rw [List.take_zero]; simpa using HO.out, by rw [List.take_zero]; simpa using HT.out⟩, Apart.refl _ _⟩
      case round =>
        obtain ⟨j, hj, rfl, ⟨H, hM, hO, hT⟩, hap⟩ := hrel
        have AP : Hid (Apart (G1 w.heap.size) W1 wr) := hap
        have HM : Hid (HeldAt wr w.heap.size (k * 140 + j) H) := hM
        have HO : Hid (heldOk (sizeI l) (alignI l) (itemsL (l.take k) ++ (o.funcs.take j).mapIdx (funcI k)) H) := hO
        have HT : Hid (noTwice (itemsL (l.take k) ++ (o.funcs.take j).mapIdx (funcI k))) := hT
        have HB2 : Hid (Below w.heap.size w wr) := HB1.out.trans (hap.low (B := w.heap.size) (fun q e => by rw [e]; exact Nat.le_refl _) HB1.out.size)
        clear hap hM hO hT HM1
        by_cases hlt2 : j < F
        · have hlt2' : (j : Int) < F := by omega
          obtain ⟨fb, fo, ⟨xn, xb, lc, lr⟩, rfl, -, hx, vc, vr, f0, f1, f2, f3, hc, hr, hnm⟩ := FX.out j hlt2
          dsimp only at f0 f1 hc hr hnm
          obtain ⟨ca, cc, rfl, -⟩ := hc.1
          obtain ⟨ra, rc, rfl, -⟩ := hr
          have HF : Hid (o.funcs[j]? = some ⟨xn, xb, lc, lr⟩) := hx
          have hb : xb = 1 ∨ xb = 2 ∨ xb = 3 ∨ xb = 4 := by have := RI.out.1 _ (List.mem_of_getElem? hx); dsimp only at this; omega
          have NM : Hid (xn.size ≤ maxLen) := hnm
          have LIM : Hid (k * 140 + j < maxLen) := by unfold Hid maxLen; omega
          replace f0 := cell_any f0 HB2.out
          replace f1 := cell_any f1 HB2.out
          replace f2 := cell_any f2 HB2.out
          replace f3 := cell_any f3 HB2.out
          have N1 : Hid ((itemsL (l.take k) ++ (o.funcs.take j).mapIdx (funcI k)) ++ [⟨k, j, false, xn, xb⟩] = itemsL (l.take k) ++ (o.funcs.take (j + 1)).mapIdx (funcI k)) := by unfold Hid; rw [mapIdx_next (funcI k) hx, List.append_assoc]; rfl
          have UP2 : Hid (Below wr.heap.size wr (wr.alloc (.cells #[.string xn, .int .i64 xb, .slice ca lc.length cc, .slice ra lr.length rc] 50))) := keep_alloc8 (Below.refl _ _) _
          have e0 : sizeI l ⟨k, j, false, xn, xb⟩ = 0 := rfl
          have e1 : alignI l ⟨k, j, false, xn, xb⟩ = 0 := rfl
          cases hR : offerR H xn ⟨k, xb, 0, 0⟩ with
          | none =>
            have TW : Hid (twiceP (itemsL l)) := by
              have t := offer_twice (x := ⟨k, j, false, xn, xb⟩) HO.out (by simp; omega) (by rw [e0, e1]; exact hR)
              exact twice_pre (pre_func HX.out HF.out) t.1 t.2
            have OF : Hid (∀ W, HeldAt W w.heap.size (k * 140 + j) H → Calls Tryz.prog 38 #[.map (some w.heap.size), .string xn, .agg #[.int .i64 (k : Int), .int .i64 xb, .int .i64 0, .int .i64 0]] W fun e w' => e = .returned (.bool false) ∧ Apart (G1 w.heap.size) W w') := fun W hW => (offer_any hW LIM.out xn NM.out ⟨k, xb, 0, 0⟩).mono fun e w' h => by rw [hR] at h; exact ⟨h.1, h.2.2⟩
            clear hx hc hnm hb e0 e1 hR hlt hlt2
            go_wp2_with (go_at_call 38; refine (OF.out _ (HM.out.later UP2.out)).mono ?_; rintro e w5 ⟨rfl, ap5⟩)
            exact bodyPost_ret (by simp [results, Tryz.results19, go_sem]) rfl ⟨.inr ⟨rfl, TW.out⟩, (HB2.out.trans (UP2.out.mono HB2.out.size)).trans (ap5.low (B := w.heap.size) (fun q e => by rw [e]; exact Nat.le_refl _) (Nat.le_trans HB2.out.size UP2.out.size))⟩
          | some H' =>
            have ST : Hid (heldOk (sizeI l) (alignI l) (itemsL (l.take k) ++ (o.funcs.take (j + 1)).mapIdx (funcI k)) H' ∧ noTwice (itemsL (l.take k) ++ (o.funcs.take (j + 1)).mapIdx (funcI k))) := by
              unfold Hid; rw [← N1.out]; exact offer_step (x := ⟨k, j, false, xn, xb⟩) HO.out HT.out (by simp; omega) (by rw [e0, e1]; exact hR)
            have OF : Hid (∀ W, HeldAt W w.heap.size (k * 140 + j) H → Calls Tryz.prog 38 #[.map (some w.heap.size), .string xn, .agg #[.int .i64 (k : Int), .int .i64 xb, .int .i64 0, .int .i64 0]] W fun e w' => e = .returned (.bool true) ∧ HeldAt w' w.heap.size (k * 140 + j + 1) H' ∧ Apart (G1 w.heap.size) W w') := fun W hW => (offer_any hW LIM.out xn NM.out ⟨k, xb, 0, 0⟩).mono fun e w' h => by rw [hR] at h; exact ⟨h.1, h.2.1 _ rfl, h.2.2⟩
            clear hx hc hnm hb e0 e1 hR
            go_wp2_with (go_at_call 38; refine (OF.out _ (HM.out.later UP2.out)).mono ?_; rintro e w5 ⟨rfl, hm5, ap5⟩)
            go_roundw
            case rel => exact ⟨j + 1, by omega, by go_num, ⟨H', hm5, ST.out.1, ST.out.2⟩, (AP.out.then UP2.out).same ap5⟩
            case measure => simp [intOf]; omega
        · obtain rfl : j = F := by omega
          have E : o.funcs.take j = o.funcs := by rw [← EF.out.1]; exact List.take_length
          rw [E] at HO HT
          have X2 : Hid (XAt wr X [.slice fa j fc, .slice da D dc, .slice na Nn nc]) := X1.out.apart SZ.out AP.out NEX.out
          have SZ2 : Hid (X < wr.heap.size) := Nat.lt_of_lt_of_le SZ.out AP.out.size
          have y1 := X2.out.1 1 _ rfl
          have LT2 : Hid ((itemsL (l.take k) ++ o.funcs.mapIdx (funcI k)) ++ o.datas.mapIdx (dataI k) = itemsL (l.take (k + 1))) := by unfold Hid; rw [itemsL_next HX.out, List.append_assoc]; rfl
          have PRE : Hid (∀ p d, o.datas[p]? = some d → ((itemsL (l.take k) ++ o.funcs.mapIdx (funcI k)) ++ (o.datas.take p).mapIdx (dataI k)) ++ [dataI k p d] <+: itemsL l) := fun p d hd => pre_data HX.out hd
          have HM2 : Hid (HeldAt wr w.heap.size (k * 140 + 70) H) := MapAt.mono HM.out (by have := EF.out; omega)
          have HBW : Hid (Below w.heap.size w wr) := HB2.out
          generalize itemsL (l.take k) ++ o.funcs.mapIdx (funcI k) = T at HO HT LT2 PRE
          clear y0 HM X1 SZ AP E HB1 HB2 hlt2
          go_wp2
          go_loopw [39] (fun i wr => ∃ p : Nat, p ≤ D ∧ i = .int .i64 p ∧ (∃ H, HeldAt wr w.heap.size (k * 140 + 70 + p) H ∧ heldOk (sizeI l) (alignI l) (T ++ (o.datas.take p).mapIdx (dataI k)) H ∧ noTwice (T ++ (o.datas.take p).mapIdx (dataI k))) ∧ Below w.heap.size w wr) (fun i _ => D - (intOf i).toNat)
          case atStart => exact ⟨0, Nat.zero_le _, rfl, ⟨H, HM2.out, by rw [List.take_zero]; simpa using HO.out, by rw [List.take_zero]; simpa using HT.out⟩, HBW.out⟩
          case round =>
            clear HO HT HM2 HBW y1 X2
            obtain ⟨p, hp, rfl, ⟨H, hM, hO, hT⟩, hbel⟩ := hrel
            have HB2 : Hid (Below w.heap.size w wr) := hbel
            have HM : Hid (HeldAt wr w.heap.size (k * 140 + 70 + p) H) := hM
            have HO : Hid (heldOk (sizeI l) (alignI l) (T ++ (o.datas.take p).mapIdx (dataI k)) H) := hO
            have HT : Hid (noTwice (T ++ (o.datas.take p).mapIdx (dataI k))) := hT
            clear hbel hM hO hT
            by_cases hlt3 : p < D
            · have hlt3' : (p : Int) < D := by omega
              obtain ⟨fb, fo, ⟨xn, xb, xa, xf, xz, lb, lr⟩, rfl, -, hx, vb, vr, f0, f1, f2, f3, f4, f5, f6, hb5, hr, hnm⟩ := DX.out p hlt3
              dsimp only at f0 f1 f2 f3 f4 hb5 hr hnm
              obtain ⟨ba, bc, rfl, -⟩ := hb5.1
              obtain ⟨ra, rc, rfl, -⟩ := hr
              have HF : Hid (o.datas[p]? = some ⟨xn, xb, xa, xf, xz, lb, lr⟩) := hx
              have hb : xb = 1 ∨ xb = 2 ∨ xb = 3 ∨ xb = 4 := by have := RI.out.2.1 _ (List.mem_of_getElem? hx); dsimp only at this; omega
              have NM : Hid (xn.size ≤ maxLen) := hnm
              have LIM : Hid (k * 140 + 70 + p < maxLen) := by unfold Hid maxLen; omega
              replace f0 := cell_any f0 HB2.out
              replace f1 := cell_any f1 HB2.out
              replace f2 := cell_any f2 HB2.out
              replace f3 := cell_any f3 HB2.out
              replace f4 := cell_any f4 HB2.out
              replace f5 := cell_any f5 HB2.out
              replace f6 := cell_any f6 HB2.out
              have N1 : Hid ((T ++ (o.datas.take p).mapIdx (dataI k)) ++ [⟨k, p, true, xn, xb⟩] = T ++ (o.datas.take (p + 1)).mapIdx (dataI k)) := by unfold Hid; rw [mapIdx_next (dataI k) hx, List.append_assoc]; rfl
              have UP2 : Hid (Below wr.heap.size wr (wr.alloc (.cells #[.string xn, .int .i64 xb, .int .i64 xa, .bool xf, .int .i64 xz, .slice ba lb.length bc, .slice ra lr.length rc] 52))) := keep_alloc8 (Below.refl _ _) _
              have e0 : sizeI l ⟨k, p, true, xn, xb⟩ = xz := by unfold sizeI; rw [if_pos rfl, data_at HX.out hx]
              have e1 : alignI l ⟨k, p, true, xn, xb⟩ = xa := by unfold alignI; rw [if_pos rfl, data_at HX.out hx]
              cases hR : offerR H xn ⟨k, xb, xz, xa⟩ with
              | none =>
                have TW : Hid (twiceP (itemsL l)) := by
                  have t := offer_twice (x := ⟨k, p, true, xn, xb⟩) HO.out (by simp; omega) (by rw [e0, e1]; exact hR)
                  exact twice_pre (PRE.out p _ HF.out) t.1 t.2
                have OF : Hid (∀ W, HeldAt W w.heap.size (k * 140 + 70 + p) H → Calls Tryz.prog 38 #[.map (some w.heap.size), .string xn, .agg #[.int .i64 (k : Int), .int .i64 xb, .int .i64 xz, .int .i64 xa]] W fun e w' => e = .returned (.bool false) ∧ Apart (G1 w.heap.size) W w') := fun W hW => (offer_any hW LIM.out xn NM.out ⟨k, xb, xz, xa⟩).mono fun e w' h => by rw [hR] at h; exact ⟨h.1, h.2.2⟩
                clear hx hb5 hnm hb e0 e1 hR hlt
                go_wp2_with (go_at_call 38; refine (OF.out _ (HM.out.later UP2.out)).mono ?_; rintro e w5 ⟨rfl, ap5⟩)
                exact bodyPost_ret (by simp [results, Tryz.results19, go_sem]) rfl ⟨.inr ⟨rfl, TW.out⟩, (HB2.out.trans (UP2.out.mono HB2.out.size)).trans (ap5.low (B := w.heap.size) (fun q e => by rw [e]; exact Nat.le_refl _) (Nat.le_trans HB2.out.size UP2.out.size))⟩
              | some H' =>
                have ST : Hid (heldOk (sizeI l) (alignI l) (T ++ (o.datas.take (p + 1)).mapIdx (dataI k)) H' ∧ noTwice (T ++ (o.datas.take (p + 1)).mapIdx (dataI k))) := by
                  unfold Hid; rw [← N1.out]; exact offer_step (x := ⟨k, p, true, xn, xb⟩) HO.out HT.out (by simp; omega) (by rw [e0, e1]; exact hR)
                have OF : Hid (∀ W, HeldAt W w.heap.size (k * 140 + 70 + p) H → Calls Tryz.prog 38 #[.map (some w.heap.size), .string xn, .agg #[.int .i64 (k : Int), .int .i64 xb, .int .i64 xz, .int .i64 xa]] W fun e w' => e = .returned (.bool true) ∧ HeldAt w' w.heap.size (k * 140 + 70 + p + 1) H' ∧ Apart (G1 w.heap.size) W w') := fun W hW => (offer_any hW LIM.out xn NM.out ⟨k, xb, xz, xa⟩).mono fun e w' h => by rw [hR] at h; exact ⟨h.1, h.2.1 _ rfl, h.2.2⟩
                clear hx hb5 hnm hb e0 e1 hR
                go_wp2_with (go_at_call 38; refine (OF.out _ (HM.out.later UP2.out)).mono ?_; rintro e w5 ⟨rfl, hm5, ap5⟩)
                go_roundw
                case rel => exact ⟨p + 1, by omega, by go_num, ⟨H', hm5, ST.out.1, ST.out.2⟩, (HB2.out.trans (UP2.out.mono HB2.out.size)).trans (ap5.low (B := w.heap.size) (fun q e => by rw [e]; exact Nat.le_refl _) (Nat.le_trans HB2.out.size UP2.out.size))⟩
                case measure => simp [intOf]; omega
            · obtain rfl : p = D := by omega
              have E : o.datas.take p = o.datas := by rw [← EF.out.2.1]; exact List.take_length
              rw [E, LT2.out] at HO HT
              have HM3 : Hid (HeldAt wr w.heap.size ((k + 1) * 140) H) := MapAt.mono HM.out (by have := EF.out; omega)
              go_wp2
              go_roundw
              case rel => exact ⟨k + 1, by omega, by go_num, ⟨H, HM3.out, HO.out, HT.out⟩, HB2.out⟩
              case measure => simp [intOf]; omega
    · obtain rfl : k = n := by omega
      have E : l.take k = l := by rw [← HN.out]; exact List.take_length
      rw [E] at HO HT
      go_wp2
      exact bodyPost_ret (by simp [results, Tryz.results19, go_sem]) rfl ⟨.inl ⟨_, _, _, rfl, HT.out, HM.out, HO.out, Nat.le_refl _⟩, HB.out⟩
open Go.ChangeShapes Go.WideShapes Go.ChangeAt Go.RowKit
set_option linter.unusedVariables false
set_option linter.unusedSimpArgs false
theorem infoRel : (Tryz.prog.info? 55).map (fun i => (i.zero, i.size, i.bytes)) = some (some (.agg #[.int .i64 0, .int .i64 0, .string ⟨#[]⟩, .int .i64 0]), 4, 40) := by kernel_rfl
/-- What holds of blocks that are neither the reader's nor X. -/
def Stable (g X : Nat) (K : World → Prop) : Prop := ∀ W W', K W → W.heap.size ≤ W'.heap.size → (∀ k, k < W.heap.size → k ≠ g → k ≠ X → W'.heap[k]? = W.heap[k]?) → K W'
/-- Within a round: the reader, the new block X, and what else there is. -/
structure Lp (B Z : Nat) (w0 : World) (g X : Nat) (K : World → Prop) (s : St) (cs : List Value) (W : World) : Prop where
  rd : Rd B Z W g s
  xa : XAt W X cs
  k : K W
  ap : Apart (G1 g) w0 W
  lt : X < W.heap.size
  hx : B ≤ X ∧ w0.heap.size ≤ X
theorem Lp.call {B Z : Nat} {w0 : World} {g X : Nat} {K : World → Prop} {s s' : St} {cs : List Value} {W W' : World} (h : Lp B Z w0 g X K s cs W) (HK : Stable g X K) (hr : Rd B Z W' g s') (ha : Apart (G1 g) W W') : Lp B Z w0 g X K s' cs W' := by
  have hg := h.rd.base.1
  have hX := h.hx.1
  exact ⟨hr, h.xa.apart h.lt ha (by show ¬ X = g; omega), HK W W' h.k ha.size fun k h1 h2 _ => ha.block k h1 h2, h.ap.same ha, Nat.lt_of_lt_of_le h.lt ha.size, h.hx⟩
theorem Lp.set {B Z : Nat} {w0 : World} {g X : Nat} {K : World → Prop} {s : St} {cs : List Value} {W : World} (h : Lp B Z w0 g X K s cs W) (HK : Stable g X K) (i : Nat) (hi : i < cs.length) (v : Value) : Lp B Z w0 g X K s (cs.set i v) (W.setCell ⟨X, i, none⟩ v) := by
  have lo : Below X W (W.setCell ⟨X, i, none⟩ v) := low_set v (Nat.le_refl _)
  refine ⟨h.rd.low (low_set v h.hx.1), h.xa.set i hi v, HK W _ h.k lo.size fun k h1 h2 h3 => Below.heap_setCell _ _ _ _ (by simpa using h3), ?_, Nat.lt_of_lt_of_le h.lt lo.size, h.hx⟩
  exact ⟨h.ap.os, h.ap.tape, h.ap.output, Nat.le_trans h.ap.size lo.size, fun k h1 h2 => (lo.block k (Nat.lt_of_lt_of_le h1 h.hx.2)).trans (h.ap.block k h1 h2)⟩
theorem Lp.later {B Z : Nat} {w0 : World} {g X : Nat} {K : World → Prop} {s : St} {cs : List Value} {W W' : World} (h : Lp B Z w0 g X K s cs W) (HK : Stable g X K) (hb : Below W.heap.size W W') : Lp B Z w0 g X K s cs W' :=
  h.call HK (h.rd.later hb) (Apart.of_below hb)
theorem own_lo {w w' : World} {base : Nat} {e : TypeId} {size : Nat} {v : Value} {n : Nat} {xs : List Value} (h : w.ownsRow base e size v n xs) (hk : ∀ k, k < w.heap.size → v.ownBlock = some k → w'.heap[k]? = w.heap[k]?) : w'.ownsRow base e size v n xs := by
  refine ⟨h.1, h.2.imp id fun ⟨g, cap, cur, h1, h2, h3, h4⟩ => ⟨g, cap, cur, h1, h2, ?_, h4⟩⟩
  have hl : g < w.heap.size := by
    rcases Nat.lt_or_ge g w.heap.size with h | h
    · exact h
    · rw [Array.getElem?_eq_none h] at h3; cases h3
  rw [hk g hl (by rw [h1]; rfl)]; exact h3
theorem countR_bd {m : Nat} {s : St} (h : ∀ b, s = .good b → Byt b) : 0 ≤ (countR m s).1 ∧ (countR m s).1 ≤ 65535 := by
  have hn := numR_bd (n := 2) h
  rw [p256_2] at hn
  have ec : (countR m s).1 = (match (mustR (decide ((numR 2 s).1 ≤ m)) (numR 2 s).2).2 with
    | .good b => ((numR 2 s).1, St.good b)
    | .bad e => ((0 : Int), St.bad e)).1 := rfl
  rw [ec]
  split
  · show 0 ≤ (numR 2 s).1 ∧ (numR 2 s).1 ≤ 65535
    omega
  · exact ⟨Int.le_refl _, by show (0 : Int) ≤ 65535; decide⟩
theorem times_bad {α : Type} (f : Rdr α) (n : Nat) (e : Int) : timesR f n (.bad e) = ([], .bad e) := by cases n <;> rfl
theorem times_good {α : Type} (f : Rdr α) (n : Nat) (b : Bs) : timesR f (n + 1) (.good b) = ((f (.good b)).1 :: (timesR f n (f (.good b)).2).1, (timesR f n (f (.good b)).2).2) := rfl
theorem own_more {α : Type} (cells : α → List Value) {w : World} {base : Nat} {e : TypeId} {sz : Nat} {a : Option Addr} {c : Nat} {l : List α} {x : α} (h : w.ownsRow base e sz (.slice a (l.length + 1) c) (l.length + 1) (l.flatMap cells ++ cells x)) :
    w.ownsRow base e sz (.slice a (l.length + 1) c) (l ++ [x]).length ((l ++ [x]).flatMap cells) := by
  rw [List.length_append, List.flatMap_append, List.flatMap_singleton]
  exact h
theorem names_more {l : List RelM} {x : RelM} (h : ∀ r ∈ l, r.name.size ≤ 255) (hx : x.name.size ≤ 255) : ∀ r ∈ l ++ [x], r.name.size ≤ 255 := fun r hr => by
  rcases List.mem_append.mp hr with h1 | h1
  · exact h r h1
  · rw [List.mem_singleton] at h1; subst h1; exact hx
theorem times_more {α : Type} {f : Rdr α} {N k : Nat} {s1 t : St} {l : List α} {b : Bs} {x : α} (h : timesR f N s1 = (l ++ (timesR f (N - k) (.good b)).1, (timesR f (N - k) (.good b)).2)) (hx : f (.good b) = (x, t)) (hk : k < N) :
    timesR f N s1 = ((l ++ [x]) ++ (timesR f (N - (k + 1)) t).1, (timesR f (N - (k + 1)) t).2) := by
  rw [h, show N - k = (N - (k + 1)) + 1 from by omega, times_good, hx, List.append_assoc]
  rfl
theorem apart_low {O : Nat → Prop} {w w1 w2 : World} (h : Apart O w w1) (hb : Below w.heap.size w1 w2) : Apart O w w2 :=
  ⟨hb.os.trans h.os, hb.tape.trans h.tape, hb.output.trans h.output, Nat.le_trans h.size hb.size, fun k h1 h2 => (hb.block k h1).trans (h.block k h1 h2)⟩
/-- A literal's cells, as append reads them. -/
theorem news_new (w : World) (cs : Array Value) (t : TypeId) (news : List Value) (h : cs.toList = news) : ∀ ad, some (⟨w.heap.size, 0, none⟩ : Addr) = some ad → ∀ j u, news[j]? = some u → (w.alloc (.cells cs t)).cell? (ad.add j) = some u := by
  intro ad e j u hu
  cases e
  rw [show (⟨w.heap.size, 0, none⟩ : Addr).add j = ⟨w.heap.size, j, none⟩ from by cases j <;> simp [Addr.add]]
  exact new_cell' w cs t j u (by rw [← Array.getElem?_toList, h]; exact hu)
theorem own_oct {w : World} {base : Nat} {e : TypeId} {size : Nat} {v : Value} {n : Nat} {xs : List Value} (h : w.ownsRow base e size v n xs) : ∀ q, v.ownBlock = some q → base ≤ q ∧ q < w.heap.size := fun q hq => h.lt q hq
end Go.Proofs.YteakbpcmafdikaaGreatDoor
