/- What a name means, where an item stands, what an object says: as the document has it. -/
import Derived.Test.YteakbpcmafdikaaGreatDoorNmMath
import Derived.Test.YteakbpcmafdikaaGreatDoorNmOwn
import Derived.Deep.CutRange
namespace Go.Proofs.YteakbpcmafdikaaGreatDoor
open Go.ChangeShapes Go.WideShapes Go.ChangeAt Go.RowKit
set_option linter.unusedVariables false
set_option linter.unusedSimpArgs false
def noItem : ItemM := ⟨0, 0, false, ⟨#[]⟩, 0⟩
/-- An item's cells. -/
def itC (x : ItemM) : List Value := [.int .i64 (x.obj : Int), .int .i64 (x.at_ : Int), .bool x.data, .string x.name, .int .i64 x.bind]
def itV (x : ItemM) : Value := .agg #[.int .i64 (x.obj : Int), .int .i64 (x.at_ : Int), .bool x.data, .string x.name, .int .i64 x.bind]
theorem itC_len (x : ItemM) : (itC x).length = 5 := rfl
def ItemAt (w : World) (b o : Nat) (x : ItemM) : Prop :=
  w.cell? ⟨b, o, none⟩ = some (.int .i64 (x.obj : Int)) ∧ w.cell? ⟨b, o + 1, none⟩ = some (.int .i64 (x.at_ : Int)) ∧ w.cell? ⟨b, o + 2, none⟩ = some (.bool x.data) ∧ w.cell? ⟨b, o + 3, none⟩ = some (.string x.name) ∧ w.cell? ⟨b, o + 4, none⟩ = some (.int .i64 x.bind)
def IsItems (A : Nat → Prop) (w : World) (v : Value) (l : List ItemM) : Prop := LstA 5 (ItemAt w) A v l
theorem IsItems.keep {A : Nat → Prop} {w w' : World} {v : Value} {l : List ItemM} (h : IsItems A w v l) (hk : Stay A w w') : IsItems A w' v l :=
  LstA.map h (fun _ h => h) fun b o x hb _ hc => ⟨hk.cell hb hc.1, hk.cell hb hc.2.1, hk.cell hb hc.2.2.1, hk.cell hb hc.2.2.2.1, hk.cell hb hc.2.2.2.2⟩
theorem own_items {w : World} {base : Nat} {e : TypeId} {v : Value} {l : List ItemM} (h : w.ownsRow base e 5 v l.length (l.flatMap itC)) : IsItems (fun k => base ≤ k ∧ k < w.heap.size) w v l :=
  own_lst itC_len h fun b o x hx hc => ⟨hc 0 _ rfl, hc 1 _ rfl, hc 2 _ rfl, hc 3 _ rfl, hc 4 _ rfl⟩
theorem XAt.set5 {W : World} {b : Nat} {a0 a1 a2 a3 a4 u0 u1 u2 u3 u4 : Value} (h : XAt W b [a0, a1, a2, a3, a4]) : XAt (((((W.setCell ⟨b, 0, none⟩ u0).setCell ⟨b, 1, none⟩ u1).setCell ⟨b, 2, none⟩ u2).setCell ⟨b, 3, none⟩ u3).setCell ⟨b, 4, none⟩ u4) b [u0, u1, u2, u3, u4] :=
  ((((h.set 0 (by simp) u0).set 1 (by simp) u1).set 2 (by simp) u2).set 3 (by simp) u3).set 4 (by simp) u4
theorem below_set5 {B : Nat} {w W : World} {b : Nat} (h : Below B w W) (hb : B ≤ b) (u0 u1 u2 u3 u4 : Value) : Below B w (((((W.setCell ⟨b, 0, none⟩ u0).setCell ⟨b, 1, none⟩ u1).setCell ⟨b, 2, none⟩ u2).setCell ⟨b, 3, none⟩ u3).setCell ⟨b, 4, none⟩ u4) :=
  ((((h.setCell (p := ⟨b, 0, none⟩) hb _).setCell (p := ⟨b, 1, none⟩) hb _).setCell (p := ⟨b, 2, none⟩) hb _).setCell (p := ⟨b, 3, none⟩) hb _).setCell (p := ⟨b, 4, none⟩) hb _
theorem results_item2 {fn : Func} {p r : Tmp} (h : fn.results = #[.cell p 71, .tmp r]) (tmps : Array Value) (g : Nat) (hp : tmps.getD p undef = .pointer (some ⟨g, 0, none⟩)) (W : World) (a0 a1 a2 a3 a4 : Value) (hA : XAt W g [a0, a1, a2, a3, a4]) :
    (results fn tmps).run Tryz.prog W = .ok (.tuple #[.agg #[a0, a1, a2, a3, a4], tmps.getD r undef]) W := by
  have hp' : tmps[p]?.getD undef = .pointer (some ⟨g, 0, none⟩) := by simpa using hp
  have e := run_loadVar_mid (P := Tryz.prog) W g 0 71 [a0, a1, a2, a3, a4] _ (fun j v hv => by rw [Nat.zero_add]; exact hA.1 j v hv) Tryz.underlying71 rfl (by kernel_rfl)
  simp [results, h, hp', asAddr, e]
/-- An object there. -/
def ObjAt (A : Nat → Prop) (w : World) (b o : Nat) (p : ObjM) : Prop :=
  ∃ vf vd vn, w.cell? ⟨b, o, none⟩ = some vf ∧ w.cell? ⟨b, o + 1, none⟩ = some vd ∧ w.cell? ⟨b, o + 2, none⟩ = some vn ∧ IsFuncs A w vf p.funcs ∧ IsDatas A w vd p.datas ∧ IsNotes A w vn p.notes
def IsObjs (A : Nat → Prop) (w : World) (v : Value) (l : List ObjM) : Prop := LstA 3 (ObjAt A w) A v l
/-- The binds, in their order. -/
def bz (n : Nat) : Int := if n = 0 then 1 else if n = 1 then 2 else 4
def preB (all : List ItemM) (name : ByteArray) (n : Nat) : Prop := ∀ j, j < n → all.find? (bindP (bz j) name) = none
theorem mean_loc {all : List ItemM} {obj : Int} {name : ByteArray} {x : ItemM} (h : all.find? (locP obj name) = some x) : meanZ all obj name = some x := by unfold meanZ; rw [h]; rfl
theorem mean_bind {all : List ItemM} {obj : Int} {name : ByteArray} {x : ItemM} {n : Nat} (h : all.find? (locP obj name) = none) (hp : preB all name n) (hn : n < 3) (hx : all.find? (bindP (bz n) name) = some x) : meanZ all obj name = some x := by
  unfold meanZ
  rw [h]
  rcases (by omega : n = 0 ∨ n = 1 ∨ n = 2) with rfl | rfl | rfl
  · have : all.find? (bindP 1 name) = some x := hx
    rw [this]; rfl
  · have h0 : all.find? (bindP 1 name) = none := hp 0 (by omega)
    have : all.find? (bindP 2 name) = some x := hx
    rw [h0, this]; rfl
  · have h0 : all.find? (bindP 1 name) = none := hp 0 (by omega)
    have h1 : all.find? (bindP 2 name) = none := hp 1 (by omega)
    have : all.find? (bindP 4 name) = some x := hx
    rw [h0, h1, this]; rfl
theorem mean_no {all : List ItemM} {obj : Int} {name : ByteArray} (h : all.find? (locP obj name) = none) (hp : preB all name 3) : meanZ all obj name = none := by
  unfold meanZ
  have h0 : all.find? (bindP 1 name) = none := hp 0 (by omega)
  have h1 : all.find? (bindP 2 name) = none := hp 1 (by omega)
  have h2 : all.find? (bindP 4 name) = none := hp 2 (by omega)
  rw [h, h0, h1, h2]; rfl
theorem preB_next {all : List ItemM} {name : ByteArray} {n : Nat} (h : preB all name n) (hn : all.find? (bindP (bz n) name) = none) : preB all name (n + 1) := fun j hj => by
  rcases (by omega : j < n ∨ j = n) with h1 | rfl
  · exact h j h1
  · exact hn
set_option maxRecDepth 100000 in
set_option maxHeartbeats 8000000 in
theorem mean_any {A : Nat → Prop} {w : World} {v : Value} {l : List ItemM} (obj : Int) (name : ByteArray) (h : IsItems A w v l) (hl : l.length ≤ 100000) :
    Calls Tryz.prog 24 #[v, .int .i64 obj, .string name] w fun e w' => e = .returned (.tuple #[itV ((meanZ l obj name).getD noItem), .bool (meanZ l obj name).isSome]) ∧ Below w.heap.size w w' := by
  obtain ⟨a, c, rfl, -, -, lx⟩ := LstA.open h
  obtain ⟨n, en⟩ : ∃ n, l.length = n := ⟨_, rfl⟩
  rw [en] at hl lx ⊢
  have LX : Hid (∀ k, k < n → ∃ b off x, a = some ⟨b, off, none⟩ ∧ A b ∧ l[k]? = some x ∧ ItemAt w b (off + k * 5) x) := lx
  have HN : Hid (l.length = n) := en
  have hn : (n : Int) ≤ 100000 := by omega
  obtain ⟨R, eR⟩ : ∃ R, meanZ l obj name = R := ⟨_, rfl⟩
  have M1 : Hid (∀ x, l.find? (locP obj name) = some x → R = some x) := fun x h => by rw [← eR]; exact mean_loc h
  have M2 : Hid (∀ n x, l.find? (locP obj name) = none → preB l name n → n < 3 → l.find? (bindP (bz n) name) = some x → R = some x) := fun n x h h1 h2 h3 => by rw [← eR]; exact mean_bind h h1 h2 h3
  have M3 : Hid (l.find? (locP obj name) = none → preB l name 3 → R = none) := fun h h1 => by rw [← eR]; exact mean_no h h1
  rw [eR]
  clear h lx en eR
  have UP : Hid (Below w.heap.size w (w.alloc (.cells #[.int .i64 0, .int .i64 0, .bool false, .string ⟨#[]⟩, .int .i64 0] 71))) := keep_alloc8 (Below.refl _ _) _
  have X1 : Hid (XAt (w.alloc (.cells #[.int .i64 0, .int .i64 0, .bool false, .string ⟨#[]⟩, .int .i64 0] 71)) w.heap.size [.int .i64 0, .int .i64 0, .bool false, .string ⟨#[]⟩, .int .i64 0]) := XAt.new _ _ _
  go_enter Tryz.func24, Tryz.ntmps24
  go_upto_region 1 with fail
  generalize w.alloc (.cells #[.int .i64 0, .int .i64 0, .bool false, .string ⟨#[]⟩, .int .i64 0] 71) = w0 at UP X1 ⊢
  have hX : Hid (w.heap.size < w0.heap.size) := X1.out.lt (by simp)
  go_wp2
  go_loopw [8] (fun i wr => ∃ k : Nat, k ≤ n ∧ i = .int .i64 k ∧ (l.take k).find? (locP obj name) = none ∧ Below w0.heap.size w0 wr) (fun i _ => n - (intOf i).toNat)
  case atStart => exact ⟨0, Nat.zero_le _, rfl, rfl, Below.refl _ _⟩
  case round =>
    obtain ⟨k, hk, rfl, hs, hbel⟩ := hrel
    have HB : Hid (Below w0.heap.size w0 wr) := hbel
    have HS : Hid ((l.take k).find? (locP obj name) = none) := hs
    clear hbel hs
    by_cases hlt : k < n
    · have hlt' : (k : Int) < n := by omega
      obtain ⟨q, off, ⟨xo, xa, xd, xn, xb⟩, rfl, -, hx, x0, x1, x2, x3, x4⟩ := LX.out k hlt
      dsimp only at x0 x1 x2 x3 x4
      have HX : Hid (l[k]? = some ⟨xo, xa, xd, xn, xb⟩) := hx
      replace x0 := cell_any x0 (bnext UP.out HB.out)
      replace x1 := cell_any x1 (bnext UP.out HB.out)
      replace x2 := cell_any x2 (bnext UP.out HB.out)
      replace x3 := cell_any x3 (bnext UP.out HB.out)
      replace x4 := cell_any x4 (bnext UP.out HB.out)
      clear hx
      obtain ⟨B, hB⟩ : ∃ B : Bool, B = locP obj name ⟨xo, xa, xd, xn, xb⟩ := ⟨_, rfl⟩
      have HBd : Hid (B = true ↔ xb = 3 ∧ (xo : Int) = obj ∧ xn = name) := by rw [hB]; exact decide_eq_true_iff
      have HBe : Hid (B = locP obj name ⟨xo, xa, xd, xn, xb⟩) := hB
      have HBf : Hid (¬ (xb = 3 ∧ (xo : Int) = obj ∧ xn = name) → B = false) := fun h => by
        cases hc : B
        · rfl
        · exact absurd (HBd.out.1 hc) h
      clear hB
      go_upto_region 4 with fail
      go_cut [41] from 18 to 40 (fun z wx => z = .bool B ∧ wx = wr)
      case first =>
        by_cases h1 : xb = 3
        rotate_left
        · obtain rfl := HBf.out fun h => h1 h.1
          have g1 : (xb == 3) = false := by simpa using h1
          clear h1 HBd HBe HBf
          go_wp2
          go_meet
          exact ⟨rfl, rfl⟩
        by_cases h2 : (xo : Int) = obj
        rotate_left
        · obtain rfl := HBf.out fun h => h2 h.2.1
          have g1 : (xb == 3) = true := by simpa using h1
          have g2 : ((xo : Int) == obj) = false := by simpa using h2
          clear h1 h2 HBd HBe HBf
          go_wp2
          go_meet
          exact ⟨rfl, rfl⟩
        have g1 : (xb == 3) = true := by simpa using h1
        have g2 : ((xo : Int) == obj) = true := by simpa using h2
        by_cases h3 : xn = name
        · obtain rfl := HBd.out.2 ⟨h1, h2, h3⟩
          subst h3
          clear h1 h2 HBd HBe HBf
          go_wp2
          go_meet
          first | exact ⟨rfl, rfl⟩ | exact ⟨by simp, rfl⟩
        · obtain rfl := HBf.out fun h => h3 h.2.2
          have g3 : (xn.toList == name.toList) = false := str_ne h3
          clear h1 h2 h3 HBd HBe HBf
          go_wp2
          go_meet
          first | exact ⟨rfl, rfl⟩ | exact ⟨by simp [g3], rfl⟩
      obtain ⟨rfl, hwc⟩ := hcut
      obtain rfl := hwc.symm
      clear HBd HBf
      cases B
      · have N1 : Hid ((l.take (k + 1)).find? (locP obj name) = none) := find_none_next HS.out HX.out HBe.out.symm
        go_wp2
        go_roundw
        case rel => exact ⟨k + 1, by omega, by go_num, N1.out, HB.out⟩
        case measure => simp [intOf]; omega
      · have E : Hid (R = some ⟨xo, xa, xd, xn, xb⟩) := M1.out _ (find_some_at HS.out HX.out HBe.out.symm)
        have y0 := (X1.out.later hX.out HB.out).1 0 _ rfl
        have y1 := (X1.out.later hX.out HB.out).1 1 _ rfl
        have y2 := (X1.out.later hX.out HB.out).1 2 _ rfl
        have y3 := (X1.out.later hX.out HB.out).1 3 _ rfl
        have y4 := (X1.out.later hX.out HB.out).1 4 _ rfl
        have fz := (X1.out.later hX.out HB.out).2
        go_wp2
        exact bodyPost_ret (results_item2 Tryz.results24 _ w.heap.size (by first | rfl | simp) _ _ _ _ _ _ (XAt.set5 (X1.out.later hX.out HB.out))) rfl ⟨by rw [E.out]; rfl, below_set5 (bnext UP.out HB.out) (Nat.le_refl _) _ _ _ _ _⟩
    · obtain rfl : k = n := by omega
      have HL : Hid (l.find? (locP obj name) = none) := by have h := HS.out; rwa [← HN.out, List.take_length] at h
      replace M2 : Hid (∀ n x, preB l name n → n < 3 → l.find? (bindP (bz n) name) = some x → R = some x) := fun n x => M2.out n x HL.out
      replace M3 : Hid (preB l name 3 → R = none) := M3.out HL.out
      clear HS HL M1
      go_wp2
      go_loopw [9] (fun i wr => ∃ p : Nat, p ≤ 3 ∧ i = .int .i64 p ∧ preB l name p ∧ Below w0.heap.size w0 wr) (fun i _ => 3 - (intOf i).toNat)
      case atStart => exact ⟨0, Nat.zero_le _, rfl, (fun j hj => by omega), HB.out⟩
      case round =>
        clear HB
        obtain ⟨p, hp, rfl, hs, hbel⟩ := hrel
        have HB : Hid (Below w0.heap.size w0 wr) := hbel
        have HS : Hid (preB l name p) := hs
        clear hbel hs
        by_cases hlt2 : p < 3
        · have hlt2' : (p : Int) < 3 := by omega
          go_upto_region 9 with fail
          go_cut [10] from 50 to 53 (fun z wx => z = .int .i64 (bz p) ∧ Below wr.heap.size wr wx)
          case first =>
            rcases (by omega : p = 0 ∨ p = 1 ∨ p = 2) with rfl | rfl | rfl
            all_goals
              go_wp2
              go_meet
              exact ⟨rfl, keep_alloc8 (Below.refl _ _) _⟩
          obtain ⟨rfl, hwc⟩ := hcut
          have BC : Hid (Below w0.heap.size w0 wc) := bnext HB.out hwc
          clear hwc
          obtain ⟨z, ez⟩ : ∃ z, bz p = z := ⟨_, rfl⟩
          have EZ : Hid (bz p = z) := ez
          rw [ez]
          clear ez
          go_wp2
          go_loopw [11] (fun i wr => ∃ j : Nat, j ≤ k ∧ i = .int .i64 j ∧ (l.take j).find? (bindP z name) = none ∧ Below w0.heap.size w0 wr) (fun i _ => k - (intOf i).toNat)
          case atStart => exact ⟨0, Nat.zero_le _, rfl, rfl, BC.out⟩
          case round =>
            clear HB BC
            obtain ⟨j, hj, rfl, hs, hbel⟩ := hrel
            have HB : Hid (Below w0.heap.size w0 wr) := hbel
            have HT : Hid ((l.take j).find? (bindP z name) = none) := hs
            clear hbel hs
            by_cases hlt3 : j < k
            · have hlt3' : (j : Int) < k := by omega
              obtain ⟨q, off, ⟨xo, xa, xd, xn, xb⟩, rfl, -, hx, x0, x1, x2, x3, x4⟩ := LX.out j hlt3
              dsimp only at x0 x1 x2 x3 x4
              have HX : Hid (l[j]? = some ⟨xo, xa, xd, xn, xb⟩) := hx
              replace x0 := cell_any x0 (bnext UP.out HB.out)
              replace x1 := cell_any x1 (bnext UP.out HB.out)
              replace x2 := cell_any x2 (bnext UP.out HB.out)
              replace x3 := cell_any x3 (bnext UP.out HB.out)
              replace x4 := cell_any x4 (bnext UP.out HB.out)
              clear hx
              by_cases h1 : xb = z ∧ xn = name
              · obtain ⟨rfl, rfl⟩ := h1
                have E : Hid (R = some ⟨xo, xa, xd, xn, xb⟩) := M2.out p _ HS.out hlt2 (by rw [EZ.out]; exact find_some_at HT.out HX.out (by simp [bindP]))
                have y0 := (X1.out.later hX.out HB.out).1 0 _ rfl
                have y1 := (X1.out.later hX.out HB.out).1 1 _ rfl
                have y2 := (X1.out.later hX.out HB.out).1 2 _ rfl
                have y3 := (X1.out.later hX.out HB.out).1 3 _ rfl
                have y4 := (X1.out.later hX.out HB.out).1 4 _ rfl
                have fz := (X1.out.later hX.out HB.out).2
                go_wp2
                exact bodyPost_ret (results_item2 Tryz.results24 _ w.heap.size (by first | rfl | simp) _ _ _ _ _ _ (XAt.set5 (X1.out.later hX.out HB.out))) rfl ⟨by rw [E.out]; rfl, below_set5 (bnext UP.out HB.out) (Nat.le_refl _) _ _ _ _ _⟩
              · have N1 : Hid ((l.take (j + 1)).find? (bindP z name) = none) := find_none_next HT.out HX.out (by simpa [bindP] using fun e => (fun e2 => h1 ⟨e, e2⟩))
                by_cases h2 : xb = z
                · subst h2
                  have g3 : (xn.toList == name.toList) = false := str_ne fun e => h1 ⟨rfl, e⟩
                  clear h1
                  go_wp2
                  go_roundw
                  case rel => exact ⟨j + 1, by omega, by go_num, N1.out, HB.out⟩
                  case measure => simp [intOf]; omega
                · have g1 : (xb == z) = false := by simpa using h2
                  clear h1 h2
                  go_wp2
                  go_roundw
                  case rel => exact ⟨j + 1, by omega, by go_num, N1.out, HB.out⟩
                  case measure => simp [intOf]; omega
            · obtain rfl : j = k := by omega
              have N2 : Hid (preB l name (p + 1)) := preB_next HS.out (by have h := HT.out; rw [← HN.out, List.take_length] at h; rw [EZ.out]; exact h)
              go_wp2
              go_roundw
              case rel => exact ⟨p + 1, by omega, by go_num, N2.out, HB.out⟩
              case measure => simp [intOf]; omega
        · obtain rfl : p = 3 := by omega
          have E : Hid (R = none) := M3.out HS.out
          have y0 := (X1.out.later hX.out HB.out).1 0 _ rfl
          have y1 := (X1.out.later hX.out HB.out).1 1 _ rfl
          have y2 := (X1.out.later hX.out HB.out).1 2 _ rfl
          have y3 := (X1.out.later hX.out HB.out).1 3 _ rfl
          have y4 := (X1.out.later hX.out HB.out).1 4 _ rfl
          have fz := (X1.out.later hX.out HB.out).2
          go_wp2
          exact bodyPost_ret (results_item2 Tryz.results24 _ w.heap.size (by first | rfl | simp) _ _ _ _ _ _ (XAt.set5 (X1.out.later hX.out HB.out))) rfl ⟨by rw [E.out]; rfl, below_set5 (bnext UP.out HB.out) (Nat.le_refl _) _ _ _ _ _⟩
theorem item_beq (x y : ItemM) : (decide ((x.obj : Int) = y.obj) && decide ((x.at_ : Int) = y.at_) && decide (x.data = y.data) && (x.name.toList == y.name.toList) && decide (x.bind = y.bind)) = true ↔ x = y := by
  cases x; cases y
  simp only [Bool.and_eq_true, decide_eq_true_eq, str_beq, ItemM.mk.injEq]
  exact ⟨fun h => ⟨by omega, by omega, h.1.1.2, h.1.2, h.2⟩, fun h => ⟨⟨⟨⟨by omega, by omega⟩, h.2.2.1⟩, h.2.2.2.1⟩, h.2.2.2.2⟩⟩
set_option maxRecDepth 100000 in
theorem eql_item (w : World) (x y : ItemM) (b : Bool) (h : b = true ↔ x = y) : (binOp .eql 71 (itV x) (itV y)).run Tryz.prog w = .ok (.bool b) w := by
  have hb : b = (decide ((x.obj : Int) = y.obj) && decide ((x.at_ : Int) = y.at_) && decide (x.data = y.data) && (x.name.toList == y.name.toList) && decide (x.bind = y.bind)) := by
    rw [Bool.eq_iff_iff, h, item_beq]
  rw [hb]
  unfold itV
  simp [go_sem, Tryz.underlying71, Tryz.underlying3, Tryz.underlying9, Tryz.underlying4]
  repeat' split
  all_goals simp_all
set_option maxRecDepth 100000 in
set_option maxHeartbeats 4000000 in
theorem place_any {A : Nat → Prop} {w : World} {v : Value} {l : List ItemM} (x : ItemM) (h : IsItems A w v l) (hl : l.length ≤ 100000) :
    Calls Tryz.prog 25 #[v, itV x] w fun e w' => e = .returned (.int .i64 (placeZ l x)) ∧ Below w.heap.size w w' := by
  obtain ⟨a, c, rfl, -, -, lx⟩ := LstA.open h
  obtain ⟨n, en⟩ : ∃ n, l.length = n := ⟨_, rfl⟩
  rw [en] at hl lx ⊢
  have LX : Hid (∀ k, k < n → ∃ b off x, a = some ⟨b, off, none⟩ ∧ A b ∧ l[k]? = some x ∧ ItemAt w b (off + k * 5) x) := lx
  have HN : Hid (l.length = n) := en
  have hn : (n : Int) ≤ 100000 := by omega
  obtain ⟨R, eR⟩ : ∃ R, placeZ l x = R := ⟨_, rfl⟩
  have P1 : Hid (∀ k : Nat, (∀ j y, j < k → l[j]? = some y → y ≠ x) → l[k]? = some x → R = k) := fun k h1 h2 => by rw [← eR]; exact place_at h1 h2
  have P2 : Hid ((∀ j y, j < n → l[j]? = some y → y ≠ x) → R = -1) := fun h1 => by rw [← eR]; exact place_none (by rw [HN.out]; exact h1)
  rw [eR]
  clear h lx en eR
  obtain ⟨zo, za, zd, zn, zb⟩ := x
  have UP : Hid (Below w.heap.size w (w.alloc (.cells #[.int .i64 (zo : Int), .int .i64 (za : Int), .bool zd, .string zn, .int .i64 zb] 71))) := keep_alloc8 (Below.refl _ _) _
  have X1 : Hid (XAt (w.alloc (.cells #[.int .i64 (zo : Int), .int .i64 (za : Int), .bool zd, .string zn, .int .i64 zb] 71)) w.heap.size [.int .i64 (zo : Int), .int .i64 (za : Int), .bool zd, .string zn, .int .i64 zb]) := XAt.new _ _ _
  unfold itV
  dsimp only
  go_enter Tryz.func25, Tryz.ntmps25
  go_upto_region 1 with fail
  generalize w.alloc (.cells #[.int .i64 (zo : Int), .int .i64 (za : Int), .bool zd, .string zn, .int .i64 zb] 71) = w0 at UP X1 ⊢
  have hX : Hid (w.heap.size < w0.heap.size) := X1.out.lt (by simp)
  go_wp2
  go_loopw [5] (fun i wr => ∃ k : Nat, k ≤ n ∧ i = .int .i64 k ∧ (∀ j y, j < k → l[j]? = some y → y ≠ ⟨zo, za, zd, zn, zb⟩) ∧ Below w0.heap.size w0 wr) (fun i _ => n - (intOf i).toNat)
  case atStart => exact ⟨0, Nat.zero_le _, rfl, (fun j y hj => by omega), Below.refl _ _⟩
  case round =>
    obtain ⟨k, hk, rfl, hs, hbel⟩ := hrel
    have HB : Hid (Below w0.heap.size w0 wr) := hbel
    have HS : Hid (∀ j y, j < k → l[j]? = some y → y ≠ ⟨zo, za, zd, zn, zb⟩) := hs
    clear hbel hs
    by_cases hlt : k < n
    · have hlt' : (k : Int) < n := by omega
      obtain ⟨q, off, ⟨xo, xa, xd, xn, xb⟩, rfl, -, hx, x0, x1, x2, x3, x4⟩ := LX.out k hlt
      dsimp only at x0 x1 x2 x3 x4
      have HX : Hid (l[k]? = some ⟨xo, xa, xd, xn, xb⟩) := hx
      replace x0 := cell_any x0 (bnext UP.out HB.out)
      replace x1 := cell_any x1 (bnext UP.out HB.out)
      replace x2 := cell_any x2 (bnext UP.out HB.out)
      replace x3 := cell_any x3 (bnext UP.out HB.out)
      replace x4 := cell_any x4 (bnext UP.out HB.out)
      have y0 := (X1.out.later hX.out HB.out).1 0 _ rfl
      have y1 := (X1.out.later hX.out HB.out).1 1 _ rfl
      have y2 := (X1.out.later hX.out HB.out).1 2 _ rfl
      have y3 := (X1.out.later hX.out HB.out).1 3 _ rfl
      have y4 := (X1.out.later hX.out HB.out).1 4 _ rfl
      clear hx
      by_cases e : (⟨xo, xa, xd, xn, xb⟩ : ItemM) = ⟨zo, za, zd, zn, zb⟩
      · have E : Hid (R = k) := P1.out k HS.out (by rw [HX.out, e])
        have eq : ∀ W, (binOp .eql 71 (.agg #[.int .i64 (xo : Int), .int .i64 (xa : Int), .bool xd, .string xn, .int .i64 xb]) (.agg #[.int .i64 (zo : Int), .int .i64 (za : Int), .bool zd, .string zn, .int .i64 zb])).run Tryz.prog W = .ok (.bool true) W := fun W => eql_item W ⟨xo, xa, xd, xn, xb⟩ ⟨zo, za, zd, zn, zb⟩ true ⟨fun _ => e, fun _ => rfl⟩
        clear e
        go_upto_region 4 with fail
        go_quiet (fail)
        go_wp2
        go_ret
        exact ⟨ret_int E.out.symm, below_drewN (bnext UP.out HB.out) _⟩
      · have eq : ∀ W, (binOp .eql 71 (.agg #[.int .i64 (xo : Int), .int .i64 (xa : Int), .bool xd, .string xn, .int .i64 xb]) (.agg #[.int .i64 (zo : Int), .int .i64 (za : Int), .bool zd, .string zn, .int .i64 zb])).run Tryz.prog W = .ok (.bool false) W := fun W => eql_item W ⟨xo, xa, xd, xn, xb⟩ ⟨zo, za, zd, zn, zb⟩ false ⟨(fun h => by cases h), fun h => absurd h e⟩
        have N1 : Hid (∀ j y, j < k + 1 → l[j]? = some y → y ≠ ⟨zo, za, zd, zn, zb⟩) := upto_next (P := fun y : ItemM => y ≠ ⟨zo, za, zd, zn, zb⟩) HS.out HX.out e
        clear e
        go_upto_region 4 with fail
        go_quiet (fail)
        go_wp2
        go_roundw
        case rel => exact ⟨k + 1, by omega, by go_num, N1.out, below_drewN HB.out _⟩
        case measure => simp [intOf]; omega
    · obtain rfl : k = n := by omega
      have E : Hid (R = -1) := P2.out HS.out
      go_wp2
      go_ret
      exact ⟨ret_int E.out.symm, bnext UP.out HB.out⟩
set_option maxRecDepth 100000 in
set_option maxHeartbeats 4000000 in
theorem said_any {A : Nat → Prop} {w : World} {u : Value} {o : ObjM} (name : ByteArray) (kind : Int) (h : IsObj A w u o) (hl : o.notes.length ≤ 100000) :
    Calls Tryz.prog 27 #[u, .string name, .int .i64 kind] w fun e w' => e = .returned (.bool (saidZ o name kind)) ∧ Below w.heap.size w w' := by
  obtain ⟨vf, vd, vn, rfl, hf, hd, hn⟩ := h
  obtain ⟨fa, fc, rfl, -, -, -⟩ := LstA.open hf
  obtain ⟨da, dc, rfl, -, -, -⟩ := LstA.open hd
  obtain ⟨na, nc, rfl, -, -, nx⟩ := LstA.open hn
  generalize o.funcs.length = F
  generalize o.datas.length = D
  obtain ⟨N, eN⟩ : ∃ N, o.notes.length = N := ⟨_, rfl⟩
  rw [eN] at hl nx ⊢
  have NX : Hid (∀ k, k < N → ∃ b off x, na = some ⟨b, off, none⟩ ∧ A b ∧ o.notes[k]? = some x ∧ NoteAt w b (off + k * 2) x) := nx
  have HN : Hid (o.notes.length = N) := eN
  have hN : (N : Int) ≤ 100000 := by omega
  obtain ⟨R, eR⟩ : ∃ R, saidZ o name kind = R := ⟨_, rfl⟩
  have ER : Hid (o.notes.any (fun n => decide (n.name = name ∧ n.kind = kind)) = R) := eR
  rw [eR]
  clear hf hd hn nx eN eR
  have UP : Hid (Below w.heap.size w (w.alloc (.cells #[.slice fa F fc, .slice da D dc, .slice na N nc] 46))) := keep_alloc8 (Below.refl _ _) _
  have X1 : Hid (XAt (w.alloc (.cells #[.slice fa F fc, .slice da D dc, .slice na N nc] 46)) w.heap.size [.slice fa F fc, .slice da D dc, .slice na N nc]) := XAt.new _ _ _
  go_enter Tryz.func27, Tryz.ntmps27
  go_upto_region 1 with fail
  generalize w.alloc (.cells #[.slice fa F fc, .slice da D dc, .slice na N nc] 46) = w0 at UP X1 ⊢
  have hX : Hid (w.heap.size < w0.heap.size) := X1.out.lt (by simp)
  go_wp2
  go_loopw [7] (fun i wr => ∃ k : Nat, k ≤ N ∧ i = .int .i64 k ∧ (o.notes.take k).any (fun n => decide (n.name = name ∧ n.kind = kind)) = false ∧ Below w0.heap.size w0 wr) (fun i _ => N - (intOf i).toNat)
  case atStart => exact ⟨0, Nat.zero_le _, rfl, rfl, Below.refl _ _⟩
  case round =>
    obtain ⟨k, hk, rfl, hs, hbel⟩ := hrel
    have HB : Hid (Below w0.heap.size w0 wr) := hbel
    have HS : Hid ((o.notes.take k).any (fun n => decide (n.name = name ∧ n.kind = kind)) = false) := hs
    have y2 := (X1.out.later hX.out HB.out).1 2 _ rfl
    clear hbel hs
    by_cases hlt : k < N
    · have hlt' : (k : Int) < N := by omega
      obtain ⟨q, off, ⟨xn, xk⟩, rfl, -, hx, x0, x1, -⟩ := NX.out k hlt
      dsimp only at x0 x1
      have HX : Hid (o.notes[k]? = some ⟨xn, xk⟩) := hx
      replace x0 := cell_any x0 (bnext UP.out HB.out)
      replace x1 := cell_any x1 (bnext UP.out HB.out)
      clear hx
      by_cases h1 : xn = name ∧ xk = kind
      · obtain ⟨rfl, rfl⟩ := h1
        have E : Hid (R = true) := by
          unfold Hid
          rw [← ER.out, List.any_eq_true]
          exact ⟨_, List.mem_of_getElem? HX.out, by simp⟩
        go_wp2
        go_ret
        exact ⟨ret_bool E.out.symm, bnext UP.out HB.out⟩
      · have N1 : Hid ((o.notes.take (k + 1)).any (fun n => decide (n.name = name ∧ n.kind = kind)) = false) := by
          unfold Hid
          rw [any_next HX.out, HS.out]
          simpa using fun e e2 => h1 ⟨e, e2⟩
        by_cases h2 : xn = name
        · subst h2
          have g1 : (xk == kind) = false := by simpa using fun e => h1 ⟨rfl, e⟩
          clear h1
          go_wp2
          go_roundw
          case rel => exact ⟨k + 1, by omega, by go_num, N1.out, HB.out⟩
          case measure => simp [intOf]; omega
        · have g1 : (xn.toList == name.toList) = false := str_ne h2
          clear h1 h2
          go_wp2
          go_roundw
          case rel => exact ⟨k + 1, by omega, by go_num, N1.out, HB.out⟩
          case measure => simp [intOf]; omega
    · obtain rfl : k = N := by omega
      have E : Hid (R = false) := by have h := HS.out; rw [← HN.out, List.take_length, ER.out] at h; exact h
      go_wp2
      go_ret
      exact ⟨ret_bool E.out.symm, bnext UP.out HB.out⟩
end Go.Proofs.YteakbpcmafdikaaGreatDoor
