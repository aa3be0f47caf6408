/- What the code puts behind bytes: relocations, notes, functions, data, and lists of them. -/
import Derived.Test.YteakbpcmafdikaaGreatDoorNmPt
namespace Go.Proofs.YteakbpcmafdikaaGreatDoor
open Go.ChangeShapes Go.WideShapes Go.ChangeAt Go.RowKit
set_option linter.unusedVariables false
set_option linter.unusedSimpArgs false
theorem words_len (l : List Int) : (listW (digL 4) l).length = 2 + 4 * l.length := by unfold listW; rw [List.length_append, digL_len, flat4_len]
section
variable {A : Nat → Prop} {base : Nat} {w0 w : World} {v u vl : Value} {out : Bs}
set_option maxRecDepth 100000 in
set_option maxHeartbeats 2000000 in
theorem put_rel {r : RelM} (h : RelV u r) (ok : relOk r) (hown : OwnB base w v out) (hbase : base ≤ w.heap.size) (hsz : out.length + (relW r).length ≤ 3000000) :
    Calls Tryz.prog 107 #[v, u] w (Puts base w v (out ++ relW r)) := by
  obtain ⟨rfl, -⟩ := h
  obtain ⟨xa, xk, xn, xd⟩ := r
  obtain ⟨⟨ka0, ka1⟩, ⟨kk0, kk1⟩, kn, kd0, kd1⟩ := ok
  dsimp only at *
  have OK : Hid (namedB xn = true ∧ (0 ≤ xa ∧ xa ≤ 65535) ∧ (0 ≤ xk ∧ xk ≤ 255) ∧ -1048576 ≤ xd ∧ xd ≤ 1048576) := ⟨kn, ⟨ka0, ka1⟩, ⟨kk0, kk1⟩, kd0, kd1⟩
  have SZ : Hid (out.length + (8 + xn.size) ≤ 3000000) := by rw [relW_len] at hsz; exact hsz
  clear hsz kn ka0 ka1 kk0 kk1
  have UP : Hid (Below w.heap.size w (w.alloc (.cells #[.int .i64 xa, .int .i64 xk, .string xn, .int .i64 xd] 55))) := keep_alloc8 (Below.refl _ _) _
  have X1 : Hid (XAt (w.alloc (.cells #[.int .i64 xa, .int .i64 xk, .string xn, .int .i64 xd] 55)) w.heap.size [.int .i64 xa, .int .i64 xk, .string xn, .int .i64 xd]) := XAt.new _ _ _
  have hX : Hid (w.heap.size < (w.alloc (.cells #[.int .i64 xa, .int .i64 xk, .string xn, .int .i64 xd] 55)).heap.size) := by unfold Hid; simp
  have HNO : Hid (v.ownBlock ≠ some w.heap.size ∧ ∀ q, v.ownBlock = some q → base ≤ q) := ⟨fun e => by have := (own_q hown _ e).2; omega, fun q hq => (own_q hown q hq).1⟩
  have E0 : Hid (Ext base (w.alloc (.cells #[.int .i64 xa, .int .i64 xk, .string xn, .int .i64 xd] 55)) v (w.alloc (.cells #[.int .i64 xa, .int .i64 xk, .string xn, .int .i64 xd] 55)) v out) := Ext.refl (hown.later UP.out)
  have HB : Hid (base ≤ (w.alloc (.cells #[.int .i64 xa, .int .i64 xk, .string xn, .int .i64 xd] 55)).heap.size) := Nat.le_trans hbase UP.out.size
  clear hown hbase
  go_enter Tryz.func107, Tryz.ntmps107
  go_upto_region 1 with fail
  generalize w.alloc (.cells #[.int .i64 xa, .int .i64 xk, .string xn, .int .i64 xd] 55) = w00 at UP X1 hX E0 HB ⊢
  have y0 := X1.out.1 0 _ rfl
  have y1 := X1.out.1 1 _ rfl
  have y2 := X1.out.1 2 _ rfl
  have y3 := X1.out.1 3 _ rfl
  go_wp2_with (first
    | (have q := E3; go_at_call 102; refine (put_num E3.out.own (Nat.le_trans HB.out E3.out.size) (xd + 2147483648) 4 (by have := OK.out; omega) (by have := OK.out; omega) (by omega) (by omega) (by (try simp only [List.length_append, digL_len, nameW_len]); have := SZ.out; omega)).mono ?_; rintro e w4 ⟨v4, rfl, Z⟩; have E4 : Hid (Ext base w00 v w4 v4 (out ++ digL 2 xa ++ digL 1 xk ++ nameW xn ++ digL 4 (xd + 2147483648))) := E3.out.trans Z; clear Z; have y0 := (E4.out.xat X1.out hX.out HNO.out.1).1 0 _ rfl; have y1 := (E4.out.xat X1.out hX.out HNO.out.1).1 1 _ rfl; have y2 := (E4.out.xat X1.out hX.out HNO.out.1).1 2 _ rfl; have y3 := (E4.out.xat X1.out hX.out HNO.out.1).1 3 _ rfl)
    | (have q := E2; go_at_call 103; refine (put_name E2.out.own (Nat.le_trans HB.out E2.out.size) xn OK.out.1 (by (try simp only [List.length_append, digL_len, nameW_len]); have := SZ.out; omega)).mono ?_; rintro e w3 ⟨v3, rfl, Z⟩; have E3 : Hid (Ext base w00 v w3 v3 (out ++ digL 2 xa ++ digL 1 xk ++ nameW xn)) := E2.out.trans Z; clear Z; have y0 := (E3.out.xat X1.out hX.out HNO.out.1).1 0 _ rfl; have y1 := (E3.out.xat X1.out hX.out HNO.out.1).1 1 _ rfl; have y2 := (E3.out.xat X1.out hX.out HNO.out.1).1 2 _ rfl; have y3 := (E3.out.xat X1.out hX.out HNO.out.1).1 3 _ rfl)
    | (have q := E1; go_at_call 102; refine (put_num E1.out.own (Nat.le_trans HB.out E1.out.size) (xk) 1 (by have := OK.out; omega) (by have := OK.out; omega) (by omega) (by omega) (by (try simp only [List.length_append, digL_len, nameW_len]); have := SZ.out; omega)).mono ?_; rintro e w2 ⟨v2, rfl, Z⟩; have E2 : Hid (Ext base w00 v w2 v2 (out ++ digL 2 xa ++ digL 1 xk)) := E1.out.trans Z; clear Z; have y0 := (E2.out.xat X1.out hX.out HNO.out.1).1 0 _ rfl; have y1 := (E2.out.xat X1.out hX.out HNO.out.1).1 1 _ rfl; have y2 := (E2.out.xat X1.out hX.out HNO.out.1).1 2 _ rfl; have y3 := (E2.out.xat X1.out hX.out HNO.out.1).1 3 _ rfl)
    | (have q := E0; go_at_call 102; refine (put_num E0.out.own (Nat.le_trans HB.out E0.out.size) (xa) 2 (by have := OK.out; omega) (by have := OK.out; omega) (by omega) (by omega) (by (try simp only [List.length_append, digL_len, nameW_len]); have := SZ.out; omega)).mono ?_; rintro e w1 ⟨v1, rfl, Z⟩; have E1 : Hid (Ext base w00 v w1 v1 (out ++ digL 2 xa)) := E0.out.trans Z; clear Z; have y0 := (E1.out.xat X1.out hX.out HNO.out.1).1 0 _ rfl; have y1 := (E1.out.xat X1.out hX.out HNO.out.1).1 1 _ rfl; have y2 := (E1.out.xat X1.out hX.out HNO.out.1).1 2 _ rfl; have y3 := (E1.out.xat X1.out hX.out HNO.out.1).1 3 _ rfl))
  go_ret
  have e : out ++ relW ⟨xa, xk, xn, xd⟩ = out ++ digL 2 xa ++ digL 1 xk ++ nameW xn ++ digL 4 (xd + 2147483648) := by unfold relW; simp only [List.append_assoc]
  rw [e]
  exact ⟨v4, rfl, Ext.after UP.out E4.out⟩
set_option maxRecDepth 100000 in
set_option maxHeartbeats 2000000 in
theorem put_note {x : NoteM} (h : NoteV u x) (ok : noteOk x) (hown : OwnB base w v out) (hbase : base ≤ w.heap.size) (hsz : out.length + (noteW x).length ≤ 3000000) :
    Calls Tryz.prog 83 #[v, u] w (Puts base w v (out ++ noteW x)) := by
  obtain ⟨rfl, -⟩ := h
  obtain ⟨xn, xk⟩ := x
  obtain ⟨kn, kk0, kk1⟩ := ok
  dsimp only at *
  have OK : Hid (namedB xn = true ∧ (0 ≤ xk ∧ xk ≤ 255)) := ⟨kn, kk0, kk1⟩
  have SZ : Hid (out.length + (2 + xn.size) ≤ 3000000) := by rw [noteW_len] at hsz; exact hsz
  clear hsz kn kk0 kk1
  have UP : Hid (Below w.heap.size w (w.alloc (.cells #[.string xn, .int .i64 xk] 87))) := keep_alloc8 (Below.refl _ _) _
  have X1 : Hid (XAt (w.alloc (.cells #[.string xn, .int .i64 xk] 87)) w.heap.size [.string xn, .int .i64 xk]) := XAt.new _ _ _
  have hX : Hid (w.heap.size < (w.alloc (.cells #[.string xn, .int .i64 xk] 87)).heap.size) := by unfold Hid; simp
  have HNO : Hid (v.ownBlock ≠ some w.heap.size ∧ ∀ q, v.ownBlock = some q → base ≤ q) := ⟨fun e => by have := (own_q hown _ e).2; omega, fun q hq => (own_q hown q hq).1⟩
  have E0 : Hid (Ext base (w.alloc (.cells #[.string xn, .int .i64 xk] 87)) v (w.alloc (.cells #[.string xn, .int .i64 xk] 87)) v out) := Ext.refl (hown.later UP.out)
  have HB : Hid (base ≤ (w.alloc (.cells #[.string xn, .int .i64 xk] 87)).heap.size) := Nat.le_trans hbase UP.out.size
  clear hown hbase
  go_enter Tryz.func83, Tryz.ntmps83
  go_upto_region 1 with fail
  generalize w.alloc (.cells #[.string xn, .int .i64 xk] 87) = w00 at UP X1 hX E0 HB ⊢
  have y0 := X1.out.1 0 _ rfl
  have y1 := X1.out.1 1 _ rfl
  go_wp2_with (first
    | (have q := E1; go_at_call 102; refine (put_num E1.out.own (Nat.le_trans HB.out E1.out.size) (xk) 1 (by have := OK.out; omega) (by have := OK.out; omega) (by omega) (by omega) (by (try simp only [List.length_append, digL_len, nameW_len]); have := SZ.out; omega)).mono ?_; rintro e w2 ⟨v2, rfl, Z⟩; have E2 : Hid (Ext base w00 v w2 v2 (out ++ nameW xn ++ digL 1 xk)) := E1.out.trans Z; clear Z; have y0 := (E2.out.xat X1.out hX.out HNO.out.1).1 0 _ rfl; have y1 := (E2.out.xat X1.out hX.out HNO.out.1).1 1 _ rfl)
    | (have q := E0; go_at_call 103; refine (put_name E0.out.own (Nat.le_trans HB.out E0.out.size) xn OK.out.1 (by (try simp only [List.length_append, digL_len, nameW_len]); have := SZ.out; omega)).mono ?_; rintro e w1 ⟨v1, rfl, Z⟩; have E1 : Hid (Ext base w00 v w1 v1 (out ++ nameW xn)) := E0.out.trans Z; clear Z; have y0 := (E1.out.xat X1.out hX.out HNO.out.1).1 0 _ rfl; have y1 := (E1.out.xat X1.out hX.out HNO.out.1).1 1 _ rfl))
  go_ret
  have e : out ++ noteW ⟨xn, xk⟩ = out ++ nameW xn ++ digL 1 xk := by unfold noteW; simp only [List.append_assoc]
  rw [e]
  exact ⟨v2, rfl, Ext.after UP.out E2.out⟩
set_option maxRecDepth 100000 in
set_option maxHeartbeats 2000000 in
theorem put_words0 {l : List Int} {T : Bs} (N : World → Value → Prop) (h : IsWords A w0 vl l) (h0 : w0.heap.size ≤ base) (hlow : Below base w0 w) (hl : l.length ≤ 65535) (ok : True)
    (NM : Calls Tryz.prog 102 #[v, .int .i64 l.length, .int .i64 2] w fun e w1 => ∃ v1, e = .returned v1 ∧ N w1 v1) (hN : ∀ w1 v1, N w1 v1 → OwnB base w1 v1 T ∧ Below base w w1 ∧ base ≤ w1.heap.size) (hsz : T.length + (flatW (digL 4) l).length ≤ 3000000) :
    Calls Tryz.prog 104 #[v, vl, .func (.func 105) #[] #[]] w fun e w' => ∃ w1 v1 v', N w1 v1 ∧ e = .returned v' ∧ Ext base w1 v1 w' v' (T ++ flatW (digL 4) l) := by
  obtain ⟨a, c, rfl, lm, -, lx⟩ := LstA.open h.1
  obtain ⟨n, en⟩ : ∃ n, l.length = n := ⟨_, rfl⟩
  rw [en] at lm lx hl NM ⊢
  have LX : Hid (∀ k, k < n → ∃ b off x, a = some ⟨b, off, none⟩ ∧ A b ∧ l[k]? = some x ∧ NumAt .u32 w0 b (off + k * 1) x) := lx
  have EN : Hid (l.length = n) := en
  have HLOW : Hid (w0.heap.size ≤ base ∧ Below base w0 w) := ⟨h0, hlow⟩
  have HNM : Hid (Calls Tryz.prog 102 #[v, .int .i64 n, .int .i64 2] w fun e w1 => ∃ v1, e = .returned v1 ∧ N w1 v1) := NM
  have HN : Hid (∀ w1 v1, N w1 v1 → OwnB base w1 v1 T ∧ Below base w w1 ∧ base ≤ w1.heap.size) := hN
  have HZ : Hid (T.length + (flatW (digL 4) l).length ≤ 3000000) := hsz
  have HOK := Hid.mk0 ok
  have HW := Hid.mk0 h.2
  have hn : (n : Int) ≤ 65535 := by omega
  clear h lx en lm h0 hlow NM hN hsz ok
  go_enter Tryz.func104, Tryz.ntmps104
  go_wp2_with (go_at_call 102; refine HNM.out.mono ?_; rintro e w1 ⟨v1, rfl, hN1⟩)
  have N1 := Hid.mk0 hN1
  obtain ⟨o1, b1, s1⟩ := HN.out w1 v1 hN1
  have Z1 : Hid (Ext base w1 v1 w1 v1 T) := Ext.refl o1
  have LB : Hid (Below base w0 w1 ∧ base ≤ w1.heap.size ∧ ∀ q, v1.ownBlock = some q → base ≤ q) := ⟨HLOW.out.2.trans b1, s1, fun q hq => (own_q o1 q hq).1⟩
  clear hN1 o1 b1 s1
  go_loopw [0, 15] (fun ov iv wr => ∃ k : Nat, k ≤ n ∧ iv = .int .i64 k ∧ Ext base w1 v1 wr ov (T ++ flatW (digL 4) (l.take k))) (fun _ iv _ => n - (intOf iv).toNat)
  case atStart => exact ⟨0, Nat.zero_le _, rfl, by rw [List.take_zero]; show Ext base w1 v1 w1 v1 (T ++ []); rw [List.append_nil]; exact Z1.out⟩
  case round =>
    obtain ⟨k, hk, rfl, he⟩ := hrel
    have HE := Hid.mk0 he
    clear he Z1
    by_cases hlt : k < n
    · have hlt' : (k : Int) < n := by omega
      obtain ⟨q, off, z, rfl, -, hx, x0⟩ := LX.out k hlt
      unfold NumAt at x0
      rw [Nat.mul_one] at x0
      have hzb := HW.out z (List.mem_of_getElem? hx)
      have HZB := Hid.mk0 hzb
      clear hzb
      have HX : Hid (l[k]? = some z) := hx
      have SZ2 : Hid ((T ++ flatW (digL 4) (l.take k)).length + ((digL 4) z).length ≤ 3000000) := by
        have h1 := flat_le2 (wr := (digL 4)) hx
        have := HZ.out
        unfold Hid
        rw [List.length_append]
        omega
      have BW : Hid (Below base w0 wr) := LB.out.1.trans (HE.out.below LB.out.2.2 LB.out.2.1)
      replace x0 := cell_base x0 BW.out (Nat.lt_of_lt_of_le (World.block_lt_of_cell? w0 _ x0) HLOW.out.1)
      clear hx
      go_wp2_with (go_at_call 105; refine (put_word HE.out.own (Nat.le_trans LB.out.2.1 HE.out.size) z HZB.out.1 HZB.out.2 (by have := SZ2.out; rw [digL_len] at this; exact this)).mono ?_; rintro e w3 ⟨v3, rfl, Z⟩)
      go_roundw
      case rel => exact ⟨k + 1, by omega, by go_num, by rw [flat_next HX.out, ← List.append_assoc]; exact HE.out.trans Z⟩
      case measure => simp [intOf]; omega
    · obtain rfl : k = n := by omega
      go_wp2
      go_ret
      have h := HE.out
      rw [← EN.out, List.take_length] at h
      exact ⟨w1, v1, _, N1.out, rfl, h⟩
theorem put_words {l : List Int} (h : IsWords A w0 vl l) (h0 : w0.heap.size ≤ base) (hlow : Below base w0 w) (hown : OwnB base w v out) (hbase : base ≤ w.heap.size) (hl : l.length ≤ 65535) (ok : True) (hsz : out.length + (listW (digL 4) l).length ≤ 3000000) :
    Calls Tryz.prog 104 #[v, vl, .func (.func 105) #[] #[]] w (Puts base w v (out ++ listW (digL 4) l)) := by
  have e : listW (digL 4) l = digL 2 (l.length : Int) ++ flatW (digL 4) l := rfl
  have hz : out.length + 2 + (flatW (digL 4) l).length ≤ 3000000 := by rw [e, List.length_append, digL_len] at hsz; omega
  have hq : ∀ q, v.ownBlock = some q → base ≤ q := fun q hq => (own_q hown q hq).1
  refine (put_words0 (T := out ++ digL 2 (l.length : Int)) (fun w1 v1 => Ext base w v w1 v1 (out ++ digL 2 (l.length : Int))) h h0 hlow hl ok ?_ (fun w1 v1 h => ⟨h.own, h.below hq hbase, Nat.le_trans hbase h.size⟩) (by rw [List.length_append, digL_len]; omega)).mono ?_
  · exact put_num hown hbase (l.length : Int) 2 (by omega) (by omega) (by omega) (by omega) (by omega)
  · rintro e' w' ⟨w1, v1, v', h1, rfl, h2⟩
    rw [e, ← List.append_assoc]
    exact ⟨v', rfl, h1.trans h2⟩
set_option maxRecDepth 100000 in
set_option maxHeartbeats 2000000 in
theorem put_rels0 {l : List RelM} {T : Bs} (N : World → Value → Prop) (h : IsRels A w0 vl l) (h0 : w0.heap.size ≤ base) (hlow : Below base w0 w) (hl : l.length ≤ 65535) (ok : ∀ r ∈ l, relOk r)
    (NM : Calls Tryz.prog 102 #[v, .int .i64 l.length, .int .i64 2] w fun e w1 => ∃ v1, e = .returned v1 ∧ N w1 v1) (hN : ∀ w1 v1, N w1 v1 → OwnB base w1 v1 T ∧ Below base w w1 ∧ base ≤ w1.heap.size) (hsz : T.length + (flatW relW l).length ≤ 3000000) :
    Calls Tryz.prog 106 #[v, vl, .func (.func 107) #[] #[]] w fun e w' => ∃ w1 v1 v', N w1 v1 ∧ e = .returned v' ∧ Ext base w1 v1 w' v' (T ++ flatW relW l) := by
  obtain ⟨a, c, rfl, lm, -, lx⟩ := LstA.open h
  obtain ⟨n, en⟩ : ∃ n, l.length = n := ⟨_, rfl⟩
  rw [en] at lm lx hl NM ⊢
  have LX : Hid (∀ k, k < n → ∃ b off x, a = some ⟨b, off, none⟩ ∧ A b ∧ l[k]? = some x ∧ RelAt w0 b (off + k * 4) x) := lx
  have EN : Hid (l.length = n) := en
  have HLOW : Hid (w0.heap.size ≤ base ∧ Below base w0 w) := ⟨h0, hlow⟩
  have HNM : Hid (Calls Tryz.prog 102 #[v, .int .i64 n, .int .i64 2] w fun e w1 => ∃ v1, e = .returned v1 ∧ N w1 v1) := NM
  have HN : Hid (∀ w1 v1, N w1 v1 → OwnB base w1 v1 T ∧ Below base w w1 ∧ base ≤ w1.heap.size) := hN
  have HZ : Hid (T.length + (flatW relW l).length ≤ 3000000) := hsz
  have HOK := Hid.mk0 ok
  have hn : (n : Int) ≤ 65535 := by omega
  clear h lx en lm h0 hlow NM hN hsz ok
  go_enter Tryz.func106, Tryz.ntmps106
  go_wp2_with (go_at_call 102; refine HNM.out.mono ?_; rintro e w1 ⟨v1, rfl, hN1⟩)
  have N1 := Hid.mk0 hN1
  obtain ⟨o1, b1, s1⟩ := HN.out w1 v1 hN1
  have Z1 : Hid (Ext base w1 v1 w1 v1 T) := Ext.refl o1
  have LB : Hid (Below base w0 w1 ∧ base ≤ w1.heap.size ∧ ∀ q, v1.ownBlock = some q → base ≤ q) := ⟨HLOW.out.2.trans b1, s1, fun q hq => (own_q o1 q hq).1⟩
  clear hN1 o1 b1 s1
  go_loopw [0, 15] (fun ov iv wr => ∃ k : Nat, k ≤ n ∧ iv = .int .i64 k ∧ Ext base w1 v1 wr ov (T ++ flatW relW (l.take k))) (fun _ iv _ => n - (intOf iv).toNat)
  case atStart => exact ⟨0, Nat.zero_le _, rfl, by rw [List.take_zero]; show Ext base w1 v1 w1 v1 (T ++ []); rw [List.append_nil]; exact Z1.out⟩
  case round =>
    obtain ⟨k, hk, rfl, he⟩ := hrel
    have HE := Hid.mk0 he
    clear he Z1
    by_cases hlt : k < n
    · have hlt' : (k : Int) < n := by omega
      obtain ⟨q, off, ⟨xa, xk, xn, xd⟩, rfl, -, hx, x0, x1, x2, x3, hs⟩ := LX.out k hlt
      dsimp only at x0 x1 x2 x3 hs
      have HS := Hid.mk0 hs
      clear hs
      have HX : Hid (l[k]? = some ⟨xa, xk, xn, xd⟩) := hx
      have SZ2 : Hid ((T ++ flatW relW (l.take k)).length + (relW ⟨xa, xk, xn, xd⟩).length ≤ 3000000) := by
        have h1 := flat_le2 (wr := relW) hx
        have := HZ.out
        unfold Hid
        rw [List.length_append]
        omega
      have BW : Hid (Below base w0 wr) := LB.out.1.trans (HE.out.below LB.out.2.2 LB.out.2.1)
      replace x0 := cell_base x0 BW.out (Nat.lt_of_lt_of_le (World.block_lt_of_cell? w0 _ x0) HLOW.out.1)
      replace x1 := cell_base x1 BW.out (Nat.lt_of_lt_of_le (World.block_lt_of_cell? w0 _ x1) HLOW.out.1)
      replace x2 := cell_base x2 BW.out (Nat.lt_of_lt_of_le (World.block_lt_of_cell? w0 _ x2) HLOW.out.1)
      replace x3 := cell_base x3 BW.out (Nat.lt_of_lt_of_le (World.block_lt_of_cell? w0 _ x3) HLOW.out.1)
      clear hx
      go_upto_region 5 with fail
      have UP := keep_alloc8 (Below.refl _ wr) (.cells #[.int .i64 xa, .int .i64 xk, .string xn, .int .i64 xd] 55)
      have HE2 : Hid (Ext base w1 v1 (wr.alloc (.cells #[.int .i64 xa, .int .i64 xk, .string xn, .int .i64 xd] 55)) _ (T ++ flatW relW (l.take k))) := HE.out.later UP
      have X3 : Hid (XAt (wr.alloc (.cells #[.int .i64 xa, .int .i64 xk, .string xn, .int .i64 xd] 55)) wr.heap.size [.int .i64 xa, .int .i64 xk, .string xn, .int .i64 xd]) := XAt.new _ _ _
      generalize wr.alloc (.cells #[.int .i64 xa, .int .i64 xk, .string xn, .int .i64 xd] 55) = w2 at HE2 X3 UP ⊢
      have BW2 : Hid (Below base w0 w2 ∧ base ≤ w2.heap.size) := ⟨LB.out.1.trans (HE2.out.below LB.out.2.2 LB.out.2.1), Nat.le_trans LB.out.2.1 HE2.out.size⟩
      clear UP x0 x1 x2 x3
      have x0 := X3.out.1 0 _ rfl
      have x1 := X3.out.1 1 _ rfl
      have x2 := X3.out.1 2 _ rfl
      have x3 := X3.out.1 3 _ rfl
      go_wp2_with (go_at_call 107; refine (put_rel (r := ⟨xa, xk, xn, xd⟩) ⟨rfl, HS.out⟩ (HOK.out _ (List.mem_of_getElem? HX.out)) HE2.out.own BW2.out.2 SZ2.out).mono ?_; rintro e w3 ⟨v3, rfl, Z⟩)
      go_roundw
      case rel => exact ⟨k + 1, by omega, by go_num, by rw [flat_next HX.out, ← List.append_assoc]; exact HE2.out.trans Z⟩
      case measure => simp [intOf]; omega
    · obtain rfl : k = n := by omega
      go_wp2
      go_ret
      have h := HE.out
      rw [← EN.out, List.take_length] at h
      exact ⟨w1, v1, _, N1.out, rfl, h⟩
theorem put_rels {l : List RelM} (h : IsRels A w0 vl l) (h0 : w0.heap.size ≤ base) (hlow : Below base w0 w) (hown : OwnB base w v out) (hbase : base ≤ w.heap.size) (hl : l.length ≤ 65535) (ok : ∀ r ∈ l, relOk r) (hsz : out.length + (listW relW l).length ≤ 3000000) :
    Calls Tryz.prog 106 #[v, vl, .func (.func 107) #[] #[]] w (Puts base w v (out ++ listW relW l)) := by
  have e : listW relW l = digL 2 (l.length : Int) ++ flatW relW l := rfl
  have hz : out.length + 2 + (flatW relW l).length ≤ 3000000 := by rw [e, List.length_append, digL_len] at hsz; omega
  have hq : ∀ q, v.ownBlock = some q → base ≤ q := fun q hq => (own_q hown q hq).1
  refine (put_rels0 (T := out ++ digL 2 (l.length : Int)) (fun w1 v1 => Ext base w v w1 v1 (out ++ digL 2 (l.length : Int))) h h0 hlow hl ok ?_ (fun w1 v1 h => ⟨h.own, h.below hq hbase, Nat.le_trans hbase h.size⟩) (by rw [List.length_append, digL_len]; omega)).mono ?_
  · exact put_num hown hbase (l.length : Int) 2 (by omega) (by omega) (by omega) (by omega) (by omega)
  · rintro e' w' ⟨w1, v1, v', h1, rfl, h2⟩
    rw [e, ← List.append_assoc]
    exact ⟨v', rfl, h1.trans h2⟩
set_option maxRecDepth 100000 in
set_option maxHeartbeats 2000000 in
theorem put_notes0 {l : List NoteM} {T : Bs} (N : World → Value → Prop) (h : IsNotes A w0 vl l) (h0 : w0.heap.size ≤ base) (hlow : Below base w0 w) (hl : l.length ≤ 65535) (ok : ∀ x ∈ l, noteOk x)
    (NM : Calls Tryz.prog 102 #[v, .int .i64 l.length, .int .i64 2] w fun e w1 => ∃ v1, e = .returned v1 ∧ N w1 v1) (hN : ∀ w1 v1, N w1 v1 → OwnB base w1 v1 T ∧ Below base w w1 ∧ base ≤ w1.heap.size) (hsz : T.length + (flatW noteW l).length ≤ 3000000) :
    Calls Tryz.prog 82 #[v, vl, .func (.func 83) #[] #[]] w fun e w' => ∃ w1 v1 v', N w1 v1 ∧ e = .returned v' ∧ Ext base w1 v1 w' v' (T ++ flatW noteW l) := by
  obtain ⟨a, c, rfl, lm, -, lx⟩ := LstA.open h
  obtain ⟨n, en⟩ : ∃ n, l.length = n := ⟨_, rfl⟩
  rw [en] at lm lx hl NM ⊢
  have LX : Hid (∀ k, k < n → ∃ b off x, a = some ⟨b, off, none⟩ ∧ A b ∧ l[k]? = some x ∧ NoteAt w0 b (off + k * 2) x) := lx
  have EN : Hid (l.length = n) := en
  have HLOW : Hid (w0.heap.size ≤ base ∧ Below base w0 w) := ⟨h0, hlow⟩
  have HNM : Hid (Calls Tryz.prog 102 #[v, .int .i64 n, .int .i64 2] w fun e w1 => ∃ v1, e = .returned v1 ∧ N w1 v1) := NM
  have HN : Hid (∀ w1 v1, N w1 v1 → OwnB base w1 v1 T ∧ Below base w w1 ∧ base ≤ w1.heap.size) := hN
  have HZ : Hid (T.length + (flatW noteW l).length ≤ 3000000) := hsz
  have HOK := Hid.mk0 ok
  have hn : (n : Int) ≤ 65535 := by omega
  clear h lx en lm h0 hlow NM hN hsz ok
  go_enter Tryz.func82, Tryz.ntmps82
  go_wp2_with (go_at_call 102; refine HNM.out.mono ?_; rintro e w1 ⟨v1, rfl, hN1⟩)
  have N1 := Hid.mk0 hN1
  obtain ⟨o1, b1, s1⟩ := HN.out w1 v1 hN1
  have Z1 : Hid (Ext base w1 v1 w1 v1 T) := Ext.refl o1
  have LB : Hid (Below base w0 w1 ∧ base ≤ w1.heap.size ∧ ∀ q, v1.ownBlock = some q → base ≤ q) := ⟨HLOW.out.2.trans b1, s1, fun q hq => (own_q o1 q hq).1⟩
  clear hN1 o1 b1 s1
  go_loopw [0, 15] (fun ov iv wr => ∃ k : Nat, k ≤ n ∧ iv = .int .i64 k ∧ Ext base w1 v1 wr ov (T ++ flatW noteW (l.take k))) (fun _ iv _ => n - (intOf iv).toNat)
  case atStart => exact ⟨0, Nat.zero_le _, rfl, by rw [List.take_zero]; show Ext base w1 v1 w1 v1 (T ++ []); rw [List.append_nil]; exact Z1.out⟩
  case round =>
    obtain ⟨k, hk, rfl, he⟩ := hrel
    have HE := Hid.mk0 he
    clear he Z1
    by_cases hlt : k < n
    · have hlt' : (k : Int) < n := by omega
      obtain ⟨q, off, ⟨xn, xk⟩, rfl, -, hx, x0, x1, hs⟩ := LX.out k hlt
      dsimp only at x0 x1 hs
      have HS := Hid.mk0 hs
      clear hs
      have HX : Hid (l[k]? = some ⟨xn, xk⟩) := hx
      have SZ2 : Hid ((T ++ flatW noteW (l.take k)).length + (noteW ⟨xn, xk⟩).length ≤ 3000000) := by
        have h1 := flat_le2 (wr := noteW) hx
        have := HZ.out
        unfold Hid
        rw [List.length_append]
        omega
      have BW : Hid (Below base w0 wr) := LB.out.1.trans (HE.out.below LB.out.2.2 LB.out.2.1)
      replace x0 := cell_base x0 BW.out (Nat.lt_of_lt_of_le (World.block_lt_of_cell? w0 _ x0) HLOW.out.1)
      replace x1 := cell_base x1 BW.out (Nat.lt_of_lt_of_le (World.block_lt_of_cell? w0 _ x1) HLOW.out.1)
      clear hx
      go_upto_region 5 with fail
      have UP := keep_alloc8 (Below.refl _ wr) (.cells #[.string xn, .int .i64 xk] 87)
      have HE2 : Hid (Ext base w1 v1 (wr.alloc (.cells #[.string xn, .int .i64 xk] 87)) _ (T ++ flatW noteW (l.take k))) := HE.out.later UP
      have X3 : Hid (XAt (wr.alloc (.cells #[.string xn, .int .i64 xk] 87)) wr.heap.size [.string xn, .int .i64 xk]) := XAt.new _ _ _
      generalize wr.alloc (.cells #[.string xn, .int .i64 xk] 87) = w2 at HE2 X3 UP ⊢
      have BW2 : Hid (Below base w0 w2 ∧ base ≤ w2.heap.size) := ⟨LB.out.1.trans (HE2.out.below LB.out.2.2 LB.out.2.1), Nat.le_trans LB.out.2.1 HE2.out.size⟩
      clear UP x0 x1
      have x0 := X3.out.1 0 _ rfl
      have x1 := X3.out.1 1 _ rfl
      go_wp2_with (go_at_call 83; refine (put_note (x := ⟨xn, xk⟩) ⟨rfl, HS.out⟩ (HOK.out _ (List.mem_of_getElem? HX.out)) HE2.out.own BW2.out.2 SZ2.out).mono ?_; rintro e w3 ⟨v3, rfl, Z⟩)
      go_roundw
      case rel => exact ⟨k + 1, by omega, by go_num, by rw [flat_next HX.out, ← List.append_assoc]; exact HE2.out.trans Z⟩
      case measure => simp [intOf]; omega
    · obtain rfl : k = n := by omega
      go_wp2
      go_ret
      have h := HE.out
      rw [← EN.out, List.take_length] at h
      exact ⟨w1, v1, _, N1.out, rfl, h⟩
theorem put_notes {l : List NoteM} (h : IsNotes A w0 vl l) (h0 : w0.heap.size ≤ base) (hlow : Below base w0 w) (hown : OwnB base w v out) (hbase : base ≤ w.heap.size) (hl : l.length ≤ 65535) (ok : ∀ x ∈ l, noteOk x) (hsz : out.length + (listW noteW l).length ≤ 3000000) :
    Calls Tryz.prog 82 #[v, vl, .func (.func 83) #[] #[]] w (Puts base w v (out ++ listW noteW l)) := by
  have e : listW noteW l = digL 2 (l.length : Int) ++ flatW noteW l := rfl
  have hz : out.length + 2 + (flatW noteW l).length ≤ 3000000 := by rw [e, List.length_append, digL_len] at hsz; omega
  have hq : ∀ q, v.ownBlock = some q → base ≤ q := fun q hq => (own_q hown q hq).1
  refine (put_notes0 (T := out ++ digL 2 (l.length : Int)) (fun w1 v1 => Ext base w v w1 v1 (out ++ digL 2 (l.length : Int))) h h0 hlow hl ok ?_ (fun w1 v1 h => ⟨h.own, h.below hq hbase, Nat.le_trans hbase h.size⟩) (by rw [List.length_append, digL_len]; omega)).mono ?_
  · exact put_num hown hbase (l.length : Int) 2 (by omega) (by omega) (by omega) (by omega) (by omega)
  · rintro e' w' ⟨w1, v1, v', h1, rfl, h2⟩
    rw [e, ← List.append_assoc]
    exact ⟨v', rfl, h1.trans h2⟩
set_option maxRecDepth 100000 in
set_option maxHeartbeats 2000000 in
theorem put_func {f : FuncM} (h : FuncV A w0 u f) (ok : funcOk f) (h0 : w0.heap.size ≤ base) (hlow : Below base w0 w) (hown : OwnB base w v out) (hbase : base ≤ w.heap.size) (hsz : out.length + (funcW f).length ≤ 3000000) :
    Calls Tryz.prog 79 #[v, u] w (Puts base w v (out ++ funcW f)) := by
  obtain ⟨vc, vr, rfl, hc, hr, hs⟩ := h
  obtain ⟨xn, xb, xc, xr⟩ := f
  obtain ⟨kn, ⟨kb0, kb1⟩, ⟨kc0, kc1⟩, kr⟩ := ok
  dsimp only at *
  have HC := Hid.mk0 hc
  have HR := Hid.mk0 hr
  obtain ⟨ca, cc, rfl, -, -, -⟩ := LstA.open (id hc.1)
  obtain ⟨ra, rc, rfl, -, -, -⟩ := LstA.open (id hr)
  have OK : Hid (namedB xn = true ∧ (1 ≤ xb ∧ xb ≤ 255) ∧ (xc.length ≤ 2000 ∧ xr.length ≤ 64) ∧ ∀ r ∈ xr, relOk r) := ⟨kn, ⟨kb0, kb1⟩, ⟨kc0, kr.1⟩, kr.2⟩
  have SZ : Hid (out.length + (1 + xn.size + 1 + (2 + 4 * xc.length) + (listW relW xr).length) ≤ 3000000) := by rw [funcW_len] at hsz; exact hsz
  clear hsz hc hr kn kb0 kb1 kc0 kc1 kr hs
  have UP : Hid (Below w.heap.size w (w.alloc (.cells #[.string xn, .int .i64 xb, .slice ca xc.length cc, .slice ra xr.length rc] 50))) := keep_alloc8 (Below.refl _ _) _
  have X1 : Hid (XAt (w.alloc (.cells #[.string xn, .int .i64 xb, .slice ca xc.length cc, .slice ra xr.length rc] 50)) w.heap.size [.string xn, .int .i64 xb, .slice ca xc.length cc, .slice ra xr.length rc]) := XAt.new _ _ _
  have hX : Hid (w.heap.size < (w.alloc (.cells #[.string xn, .int .i64 xb, .slice ca xc.length cc, .slice ra xr.length rc] 50)).heap.size) := by unfold Hid; simp
  have HNO : Hid (v.ownBlock ≠ some w.heap.size ∧ ∀ q, v.ownBlock = some q → base ≤ q) := ⟨fun e => by have := (own_q hown _ e).2; omega, fun q hq => (own_q hown q hq).1⟩
  have E0 : Hid (Ext base (w.alloc (.cells #[.string xn, .int .i64 xb, .slice ca xc.length cc, .slice ra xr.length rc] 50)) v (w.alloc (.cells #[.string xn, .int .i64 xb, .slice ca xc.length cc, .slice ra xr.length rc] 50)) v out) := Ext.refl (hown.later UP.out)
  have HB : Hid (base ≤ (w.alloc (.cells #[.string xn, .int .i64 xb, .slice ca xc.length cc, .slice ra xr.length rc] 50)).heap.size) := Nat.le_trans hbase UP.out.size
  have LOW : Hid (w0.heap.size ≤ base ∧ Below base w0 (w.alloc (.cells #[.string xn, .int .i64 xb, .slice ca xc.length cc, .slice ra xr.length rc] 50))) := ⟨h0, hlow.trans (UP.out.mono hbase)⟩
  clear h0 hlow
  clear hown hbase
  go_enter Tryz.func79, Tryz.ntmps79
  go_upto_region 1 with fail
  generalize w.alloc (.cells #[.string xn, .int .i64 xb, .slice ca xc.length cc, .slice ra xr.length rc] 50) = w00 at UP X1 hX E0 HB LOW ⊢
  have y0 := X1.out.1 0 _ rfl
  have y1 := X1.out.1 1 _ rfl
  have y2 := X1.out.1 2 _ rfl
  have y3 := X1.out.1 3 _ rfl
  go_wp2_with (first
    | (have q := E3; go_at_call 106; refine (put_rels HR.out LOW.out.1 (LOW.out.2.trans (E3.out.below HNO.out.2 HB.out)) E3.out.own (Nat.le_trans HB.out E3.out.size) (by have := OK.out; omega) (OK.out.2.2.2) (by have e9 := words_len xc; (try simp only [List.length_append, digL_len, nameW_len]); have := SZ.out; omega)).mono ?_; rintro e w4 ⟨v4, rfl, Z⟩; have E4 : Hid (Ext base w00 v w4 v4 (out ++ nameW xn ++ digL 1 xb ++ listW (digL 4) xc ++ listW relW xr)) := E3.out.trans Z; clear Z; have y0 := (E4.out.xat X1.out hX.out HNO.out.1).1 0 _ rfl; have y1 := (E4.out.xat X1.out hX.out HNO.out.1).1 1 _ rfl; have y2 := (E4.out.xat X1.out hX.out HNO.out.1).1 2 _ rfl; have y3 := (E4.out.xat X1.out hX.out HNO.out.1).1 3 _ rfl)
    | (have q := E2; go_at_call 104; refine (put_words HC.out LOW.out.1 (LOW.out.2.trans (E2.out.below HNO.out.2 HB.out)) E2.out.own (Nat.le_trans HB.out E2.out.size) (by have := OK.out; omega) trivial (by have e9 := words_len xc; simp only [List.length_append, digL_len, nameW_len]; have := SZ.out; omega)).mono ?_; rintro e w3 ⟨v3, rfl, Z⟩; have E3 : Hid (Ext base w00 v w3 v3 (out ++ nameW xn ++ digL 1 xb ++ listW (digL 4) xc)) := E2.out.trans Z; clear Z; have y0 := (E3.out.xat X1.out hX.out HNO.out.1).1 0 _ rfl; have y1 := (E3.out.xat X1.out hX.out HNO.out.1).1 1 _ rfl; have y2 := (E3.out.xat X1.out hX.out HNO.out.1).1 2 _ rfl; have y3 := (E3.out.xat X1.out hX.out HNO.out.1).1 3 _ rfl)
    | (have q := E1; go_at_call 102; refine (put_num E1.out.own (Nat.le_trans HB.out E1.out.size) (xb) 1 (by have := OK.out; omega) (by have := OK.out; omega) (by omega) (by omega) (by (try simp only [List.length_append, digL_len, nameW_len]); have := SZ.out; omega)).mono ?_; rintro e w2 ⟨v2, rfl, Z⟩; have E2 : Hid (Ext base w00 v w2 v2 (out ++ nameW xn ++ digL 1 xb)) := E1.out.trans Z; clear Z; have y0 := (E2.out.xat X1.out hX.out HNO.out.1).1 0 _ rfl; have y1 := (E2.out.xat X1.out hX.out HNO.out.1).1 1 _ rfl; have y2 := (E2.out.xat X1.out hX.out HNO.out.1).1 2 _ rfl; have y3 := (E2.out.xat X1.out hX.out HNO.out.1).1 3 _ rfl)
    | (have q := E0; go_at_call 103; refine (put_name E0.out.own (Nat.le_trans HB.out E0.out.size) xn OK.out.1 (by (try simp only [List.length_append, digL_len, nameW_len]); have := SZ.out; omega)).mono ?_; rintro e w1 ⟨v1, rfl, Z⟩; have E1 : Hid (Ext base w00 v w1 v1 (out ++ nameW xn)) := E0.out.trans Z; clear Z; have y0 := (E1.out.xat X1.out hX.out HNO.out.1).1 0 _ rfl; have y1 := (E1.out.xat X1.out hX.out HNO.out.1).1 1 _ rfl; have y2 := (E1.out.xat X1.out hX.out HNO.out.1).1 2 _ rfl; have y3 := (E1.out.xat X1.out hX.out HNO.out.1).1 3 _ rfl))
  go_ret
  have e : out ++ funcW ⟨xn, xb, xc, xr⟩ = out ++ nameW xn ++ digL 1 xb ++ listW (digL 4) xc ++ listW relW xr := by unfold funcW; simp only [List.append_assoc]
  rw [e]
  exact ⟨v4, rfl, Ext.after UP.out E4.out⟩
set_option maxRecDepth 100000 in
set_option maxHeartbeats 2000000 in
theorem put_data {d : DataM} (h : DataV A w0 u d) (ok : dataOk d) (h0 : w0.heap.size ≤ base) (hlow : Below base w0 w) (hown : OwnB base w v out) (hbase : base ≤ w.heap.size) (hsz : out.length + (dataW d).length ≤ 3000000) :
    Calls Tryz.prog 81 #[v, u] w (Puts base w v (out ++ dataW d)) := by
  obtain ⟨vc, vr, rfl, hc, hr, hs⟩ := h
  obtain ⟨xn, xb, xa, xf, xz, xc, xr⟩ := d
  obtain ⟨kn, ⟨kb0, kb1⟩, ⟨ka0, ka1⟩, ⟨kz0, kz1⟩, ⟨kc0, kc1⟩, kr⟩ := ok
  dsimp only at *
  have HC := Hid.mk0 hc
  have HR := Hid.mk0 hr
  obtain ⟨ca, cc, rfl, -, -, -⟩ := LstA.open (id hc.1)
  obtain ⟨ra, rc, rfl, -, -, -⟩ := LstA.open (id hr)
  have OK : Hid (namedB xn = true ∧ ((1 ≤ xb ∧ xb ≤ 255) ∧ (0 ≤ xa ∧ xa ≤ 255) ∧ (0 ≤ xz ∧ xz ≤ 65535)) ∧ (xc.length ≤ 4096 ∧ xr.length ≤ 64) ∧ ∀ r ∈ xr, relOk r) := ⟨kn, ⟨⟨kb0, kb1⟩, ⟨ka0, ka1⟩, kz0, kz1⟩, ⟨kc0, kr.1⟩, kr.2⟩
  have SZ : Hid (out.length + (1 + xn.size + 3 + 2 + (2 + xc.length) + (listW relW xr).length) ≤ 3000000) := by rw [dataW_len] at hsz; exact hsz
  clear hsz hc hr kn kb0 kb1 ka0 ka1 kz0 kz1 kc0 kc1 kr hs
  have UP : Hid (Below w.heap.size w (w.alloc (.cells #[.string xn, .int .i64 xb, .int .i64 xa, .bool xf, .int .i64 xz, .slice ca xc.length cc, .slice ra xr.length rc] 52))) := keep_alloc8 (Below.refl _ _) _
  have X1 : Hid (XAt (w.alloc (.cells #[.string xn, .int .i64 xb, .int .i64 xa, .bool xf, .int .i64 xz, .slice ca xc.length cc, .slice ra xr.length rc] 52)) w.heap.size [.string xn, .int .i64 xb, .int .i64 xa, .bool xf, .int .i64 xz, .slice ca xc.length cc, .slice ra xr.length rc]) := XAt.new _ _ _
  have hX : Hid (w.heap.size < (w.alloc (.cells #[.string xn, .int .i64 xb, .int .i64 xa, .bool xf, .int .i64 xz, .slice ca xc.length cc, .slice ra xr.length rc] 52)).heap.size) := by unfold Hid; simp
  have HNO : Hid (v.ownBlock ≠ some w.heap.size ∧ ∀ q, v.ownBlock = some q → base ≤ q) := ⟨fun e => by have := (own_q hown _ e).2; omega, fun q hq => (own_q hown q hq).1⟩
  have E0 : Hid (Ext base (w.alloc (.cells #[.string xn, .int .i64 xb, .int .i64 xa, .bool xf, .int .i64 xz, .slice ca xc.length cc, .slice ra xr.length rc] 52)) v (w.alloc (.cells #[.string xn, .int .i64 xb, .int .i64 xa, .bool xf, .int .i64 xz, .slice ca xc.length cc, .slice ra xr.length rc] 52)) v out) := Ext.refl (hown.later UP.out)
  have HB : Hid (base ≤ (w.alloc (.cells #[.string xn, .int .i64 xb, .int .i64 xa, .bool xf, .int .i64 xz, .slice ca xc.length cc, .slice ra xr.length rc] 52)).heap.size) := Nat.le_trans hbase UP.out.size
  have LOW : Hid (w0.heap.size ≤ base ∧ Below base w0 (w.alloc (.cells #[.string xn, .int .i64 xb, .int .i64 xa, .bool xf, .int .i64 xz, .slice ca xc.length cc, .slice ra xr.length rc] 52))) := ⟨h0, hlow.trans (UP.out.mono hbase)⟩
  clear h0 hlow
  clear hown hbase
  have CSR : Hid (∀ W, Below base w0 W → Src W ca cc xc) := fun W hW => by
    have h := (HC.out.keep (w' := W) fun k _ hk => hW.block k (Nat.lt_of_lt_of_le hk LOW.out.1)).row
    obtain ⟨a', c', e', hh', hb', -⟩ := h
    simp only [Value.slice.injEq] at e'
    obtain ⟨rfl, -, rfl⟩ := e'
    exact src_bytes rfl hh'.1 hb'
  go_enter Tryz.func81, Tryz.ntmps81
  go_upto_region 1 with fail
  generalize w.alloc (.cells #[.string xn, .int .i64 xb, .int .i64 xa, .bool xf, .int .i64 xz, .slice ca xc.length cc, .slice ra xr.length rc] 52) = w00 at UP X1 hX E0 HB LOW ⊢
  have y0 := X1.out.1 0 _ rfl
  have y1 := X1.out.1 1 _ rfl
  have y2 := X1.out.1 2 _ rfl
  have y3 := X1.out.1 3 _ rfl
  have y4 := X1.out.1 4 _ rfl
  have y5 := X1.out.1 5 _ rfl
  have y6 := X1.out.1 6 _ rfl
  go_wp2_with (first
    | (have q := E7; go_at_call 106; refine (put_rels HR.out LOW.out.1 (LOW.out.2.trans (E7.out.below HNO.out.2 HB.out)) E7.out.own (Nat.le_trans HB.out E7.out.size) (by have := OK.out; omega) (OK.out.2.2.2) (by (try simp only [List.length_append, digL_len, nameW_len]); have := SZ.out; omega)).mono ?_; rintro e w8 ⟨v8, rfl, Z⟩; have E8 : Hid (Ext base w00 v w8 v8 (out ++ nameW xn ++ digL 1 xb ++ digL 1 xa ++ digL 1 (fixW xf) ++ digL 2 xz ++ digL 2 (xc.length : Int) ++ xc ++ listW relW xr)) := E7.out.trans Z; clear Z; have y0 := (E8.out.xat X1.out hX.out HNO.out.1).1 0 _ rfl; have y1 := (E8.out.xat X1.out hX.out HNO.out.1).1 1 _ rfl; have y2 := (E8.out.xat X1.out hX.out HNO.out.1).1 2 _ rfl; have y3 := (E8.out.xat X1.out hX.out HNO.out.1).1 3 _ rfl; have y4 := (E8.out.xat X1.out hX.out HNO.out.1).1 4 _ rfl; have y5 := (E8.out.xat X1.out hX.out HNO.out.1).1 5 _ rfl; have y6 := (E8.out.xat X1.out hX.out HNO.out.1).1 6 _ rfl)
    | (have q := E6; at_builtin; refine wpList_ext rfl (.tmp 31) (.tmp 33) rfl base _ _ rfl E6.out.own ca xc.length cc xc rfl rfl (CSR.out _ (LOW.out.2.trans (E6.out.below HNO.out.2 HB.out))) (by (try simp only [List.length_append, digL_len, nameW_len]); have := SZ.out; omega) (Nat.le_trans HB.out E6.out.size) ?_; intro v7 w7 Z; have E7 : Hid (Ext base w00 v w7 v7 (out ++ nameW xn ++ digL 1 xb ++ digL 1 xa ++ digL 1 (fixW xf) ++ digL 2 xz ++ digL 2 (xc.length : Int) ++ xc)) := E6.out.trans Z; clear Z; have y0 := (E7.out.xat X1.out hX.out HNO.out.1).1 0 _ rfl; have y1 := (E7.out.xat X1.out hX.out HNO.out.1).1 1 _ rfl; have y2 := (E7.out.xat X1.out hX.out HNO.out.1).1 2 _ rfl; have y3 := (E7.out.xat X1.out hX.out HNO.out.1).1 3 _ rfl; have y4 := (E7.out.xat X1.out hX.out HNO.out.1).1 4 _ rfl; have y5 := (E7.out.xat X1.out hX.out HNO.out.1).1 5 _ rfl; have y6 := (E7.out.xat X1.out hX.out HNO.out.1).1 6 _ rfl)
    | (have q := E5; go_at_call 102; refine (put_num E5.out.own (Nat.le_trans HB.out E5.out.size) (xc.length) 2 (by have := OK.out; omega) (by have := OK.out; omega) (by omega) (by omega) (by (try simp only [List.length_append, digL_len, nameW_len]); have := SZ.out; omega)).mono ?_; rintro e w6 ⟨v6, rfl, Z⟩; have E6 : Hid (Ext base w00 v w6 v6 (out ++ nameW xn ++ digL 1 xb ++ digL 1 xa ++ digL 1 (fixW xf) ++ digL 2 xz ++ digL 2 (xc.length : Int))) := E5.out.trans Z; clear Z; have y0 := (E6.out.xat X1.out hX.out HNO.out.1).1 0 _ rfl; have y1 := (E6.out.xat X1.out hX.out HNO.out.1).1 1 _ rfl; have y2 := (E6.out.xat X1.out hX.out HNO.out.1).1 2 _ rfl; have y3 := (E6.out.xat X1.out hX.out HNO.out.1).1 3 _ rfl; have y4 := (E6.out.xat X1.out hX.out HNO.out.1).1 4 _ rfl; have y5 := (E6.out.xat X1.out hX.out HNO.out.1).1 5 _ rfl; have y6 := (E6.out.xat X1.out hX.out HNO.out.1).1 6 _ rfl)
    | (have q := E4; go_at_call 102; refine (put_num E4.out.own (Nat.le_trans HB.out E4.out.size) (xz) 2 (by have := OK.out; omega) (by have := OK.out; omega) (by omega) (by omega) (by (try simp only [List.length_append, digL_len, nameW_len]); have := SZ.out; omega)).mono ?_; rintro e w5 ⟨v5, rfl, Z⟩; have E5 : Hid (Ext base w00 v w5 v5 (out ++ nameW xn ++ digL 1 xb ++ digL 1 xa ++ digL 1 (fixW xf) ++ digL 2 xz)) := E4.out.trans Z; clear Z; have y0 := (E5.out.xat X1.out hX.out HNO.out.1).1 0 _ rfl; have y1 := (E5.out.xat X1.out hX.out HNO.out.1).1 1 _ rfl; have y2 := (E5.out.xat X1.out hX.out HNO.out.1).1 2 _ rfl; have y3 := (E5.out.xat X1.out hX.out HNO.out.1).1 3 _ rfl; have y4 := (E5.out.xat X1.out hX.out HNO.out.1).1 4 _ rfl; have y5 := (E5.out.xat X1.out hX.out HNO.out.1).1 5 _ rfl; have y6 := (E5.out.xat X1.out hX.out HNO.out.1).1 6 _ rfl)
    | (have q := E3; go_at_call 102; refine (put_num E3.out.own (Nat.le_trans HB.out E3.out.size) (fixW xf) 1 (by cases xf <;> decide) (by cases xf <;> decide) (by omega) (by omega) (by (try simp only [List.length_append, digL_len, nameW_len]); have := SZ.out; omega)).mono ?_; rintro e w4 ⟨v4, rfl, Z⟩; have E4 : Hid (Ext base w00 v w4 v4 (out ++ nameW xn ++ digL 1 xb ++ digL 1 xa ++ digL 1 (fixW xf))) := E3.out.trans Z; clear Z; have y0 := (E4.out.xat X1.out hX.out HNO.out.1).1 0 _ rfl; have y1 := (E4.out.xat X1.out hX.out HNO.out.1).1 1 _ rfl; have y2 := (E4.out.xat X1.out hX.out HNO.out.1).1 2 _ rfl; have y3 := (E4.out.xat X1.out hX.out HNO.out.1).1 3 _ rfl; have y4 := (E4.out.xat X1.out hX.out HNO.out.1).1 4 _ rfl; have y5 := (E4.out.xat X1.out hX.out HNO.out.1).1 5 _ rfl; have y6 := (E4.out.xat X1.out hX.out HNO.out.1).1 6 _ rfl)
    | (go_at_call 108; refine (flag_any _ _).mono ?_; rintro e wf ⟨rfl, rfl⟩)
    | (have q := E2; go_at_call 102; refine (put_num E2.out.own (Nat.le_trans HB.out E2.out.size) (xa) 1 (by have := OK.out; omega) (by have := OK.out; omega) (by omega) (by omega) (by (try simp only [List.length_append, digL_len, nameW_len]); have := SZ.out; omega)).mono ?_; rintro e w3 ⟨v3, rfl, Z⟩; have E3 : Hid (Ext base w00 v w3 v3 (out ++ nameW xn ++ digL 1 xb ++ digL 1 xa)) := E2.out.trans Z; clear Z; have y0 := (E3.out.xat X1.out hX.out HNO.out.1).1 0 _ rfl; have y1 := (E3.out.xat X1.out hX.out HNO.out.1).1 1 _ rfl; have y2 := (E3.out.xat X1.out hX.out HNO.out.1).1 2 _ rfl; have y3 := (E3.out.xat X1.out hX.out HNO.out.1).1 3 _ rfl; have y4 := (E3.out.xat X1.out hX.out HNO.out.1).1 4 _ rfl; have y5 := (E3.out.xat X1.out hX.out HNO.out.1).1 5 _ rfl; have y6 := (E3.out.xat X1.out hX.out HNO.out.1).1 6 _ rfl)
    | (have q := E1; go_at_call 102; refine (put_num E1.out.own (Nat.le_trans HB.out E1.out.size) (xb) 1 (by have := OK.out; omega) (by have := OK.out; omega) (by omega) (by omega) (by (try simp only [List.length_append, digL_len, nameW_len]); have := SZ.out; omega)).mono ?_; rintro e w2 ⟨v2, rfl, Z⟩; have E2 : Hid (Ext base w00 v w2 v2 (out ++ nameW xn ++ digL 1 xb)) := E1.out.trans Z; clear Z; have y0 := (E2.out.xat X1.out hX.out HNO.out.1).1 0 _ rfl; have y1 := (E2.out.xat X1.out hX.out HNO.out.1).1 1 _ rfl; have y2 := (E2.out.xat X1.out hX.out HNO.out.1).1 2 _ rfl; have y3 := (E2.out.xat X1.out hX.out HNO.out.1).1 3 _ rfl; have y4 := (E2.out.xat X1.out hX.out HNO.out.1).1 4 _ rfl; have y5 := (E2.out.xat X1.out hX.out HNO.out.1).1 5 _ rfl; have y6 := (E2.out.xat X1.out hX.out HNO.out.1).1 6 _ rfl)
    | (have q := E0; go_at_call 103; refine (put_name E0.out.own (Nat.le_trans HB.out E0.out.size) xn OK.out.1 (by (try simp only [List.length_append, digL_len, nameW_len]); have := SZ.out; omega)).mono ?_; rintro e w1 ⟨v1, rfl, Z⟩; have E1 : Hid (Ext base w00 v w1 v1 (out ++ nameW xn)) := E0.out.trans Z; clear Z; have y0 := (E1.out.xat X1.out hX.out HNO.out.1).1 0 _ rfl; have y1 := (E1.out.xat X1.out hX.out HNO.out.1).1 1 _ rfl; have y2 := (E1.out.xat X1.out hX.out HNO.out.1).1 2 _ rfl; have y3 := (E1.out.xat X1.out hX.out HNO.out.1).1 3 _ rfl; have y4 := (E1.out.xat X1.out hX.out HNO.out.1).1 4 _ rfl; have y5 := (E1.out.xat X1.out hX.out HNO.out.1).1 5 _ rfl; have y6 := (E1.out.xat X1.out hX.out HNO.out.1).1 6 _ rfl))
  go_ret
  have e : out ++ dataW ⟨xn, xb, xa, xf, xz, xc, xr⟩ = out ++ nameW xn ++ digL 1 xb ++ digL 1 xa ++ digL 1 (fixW xf) ++ digL 2 xz ++ digL 2 (xc.length : Int) ++ xc ++ listW relW xr := by unfold dataW bytesW; simp only [List.append_assoc]
  rw [e]
  exact ⟨v8, rfl, Ext.after UP.out E8.out⟩
set_option maxRecDepth 100000 in
set_option maxHeartbeats 2000000 in
theorem put_funcs0 {l : List FuncM} {T : Bs} (N : World → Value → Prop) (h : IsFuncs A w0 vl l) (h0 : w0.heap.size ≤ base) (hlow : Below base w0 w) (hl : l.length ≤ 65535) (ok : ∀ f ∈ l, funcOk f)
    (NM : Calls Tryz.prog 102 #[v, .int .i64 l.length, .int .i64 2] w fun e w1 => ∃ v1, e = .returned v1 ∧ N w1 v1) (hN : ∀ w1 v1, N w1 v1 → OwnB base w1 v1 T ∧ Below base w w1 ∧ base ≤ w1.heap.size) (hsz : T.length + (flatW funcW l).length ≤ 3000000) :
    Calls Tryz.prog 78 #[v, vl, .func (.func 79) #[] #[]] w fun e w' => ∃ w1 v1 v', N w1 v1 ∧ e = .returned v' ∧ Ext base w1 v1 w' v' (T ++ flatW funcW l) := by
  obtain ⟨a, c, rfl, lm, -, lx⟩ := LstA.open h
  obtain ⟨n, en⟩ : ∃ n, l.length = n := ⟨_, rfl⟩
  rw [en] at lm lx hl NM ⊢
  have LX : Hid (∀ k, k < n → ∃ b off x, a = some ⟨b, off, none⟩ ∧ A b ∧ l[k]? = some x ∧ FuncAt A w0 b (off + k * 4) x) := lx
  have EN : Hid (l.length = n) := en
  have HLOW : Hid (w0.heap.size ≤ base ∧ Below base w0 w) := ⟨h0, hlow⟩
  have HNM : Hid (Calls Tryz.prog 102 #[v, .int .i64 n, .int .i64 2] w fun e w1 => ∃ v1, e = .returned v1 ∧ N w1 v1) := NM
  have HN : Hid (∀ w1 v1, N w1 v1 → OwnB base w1 v1 T ∧ Below base w w1 ∧ base ≤ w1.heap.size) := hN
  have HZ : Hid (T.length + (flatW funcW l).length ≤ 3000000) := hsz
  have HOK := Hid.mk0 ok
  have hn : (n : Int) ≤ 65535 := by omega
  clear h lx en lm h0 hlow NM hN hsz ok
  go_enter Tryz.func78, Tryz.ntmps78
  go_wp2_with (go_at_call 102; refine HNM.out.mono ?_; rintro e w1 ⟨v1, rfl, hN1⟩)
  have N1 := Hid.mk0 hN1
  obtain ⟨o1, b1, s1⟩ := HN.out w1 v1 hN1
  have Z1 : Hid (Ext base w1 v1 w1 v1 T) := Ext.refl o1
  have LB : Hid (Below base w0 w1 ∧ base ≤ w1.heap.size ∧ ∀ q, v1.ownBlock = some q → base ≤ q) := ⟨HLOW.out.2.trans b1, s1, fun q hq => (own_q o1 q hq).1⟩
  clear hN1 o1 b1 s1
  go_loopw [0, 15] (fun ov iv wr => ∃ k : Nat, k ≤ n ∧ iv = .int .i64 k ∧ Ext base w1 v1 wr ov (T ++ flatW funcW (l.take k))) (fun _ iv _ => n - (intOf iv).toNat)
  case atStart => exact ⟨0, Nat.zero_le _, rfl, by rw [List.take_zero]; show Ext base w1 v1 w1 v1 (T ++ []); rw [List.append_nil]; exact Z1.out⟩
  case round =>
    obtain ⟨k, hk, rfl, he⟩ := hrel
    have HE := Hid.mk0 he
    clear he Z1
    by_cases hlt : k < n
    · have hlt' : (k : Int) < n := by omega
      obtain ⟨q, off, ⟨xn, xb, xc, xr⟩, rfl, -, hx, vc, vr, x0, x1, x2, x3, hc, hr, hs⟩ := LX.out k hlt
      dsimp only at x0 x1 x2 x3 hc hr hs
      obtain ⟨ca, cc, rfl, -, -, -⟩ := LstA.open (id hc.1)
      obtain ⟨ra, rc, rfl, -, -, -⟩ := LstA.open (id hr)
      have HC := Hid.mk0 hc
      have HR := Hid.mk0 hr
      have HS := Hid.mk0 hs
      clear hc hr hs
      have HX : Hid (l[k]? = some ⟨xn, xb, xc, xr⟩) := hx
      have SZ2 : Hid ((T ++ flatW funcW (l.take k)).length + (funcW ⟨xn, xb, xc, xr⟩).length ≤ 3000000) := by
        have h1 := flat_le2 (wr := funcW) hx
        have := HZ.out
        unfold Hid
        rw [List.length_append]
        omega
      have BW : Hid (Below base w0 wr) := LB.out.1.trans (HE.out.below LB.out.2.2 LB.out.2.1)
      replace x0 := cell_base x0 BW.out (Nat.lt_of_lt_of_le (World.block_lt_of_cell? w0 _ x0) HLOW.out.1)
      replace x1 := cell_base x1 BW.out (Nat.lt_of_lt_of_le (World.block_lt_of_cell? w0 _ x1) HLOW.out.1)
      replace x2 := cell_base x2 BW.out (Nat.lt_of_lt_of_le (World.block_lt_of_cell? w0 _ x2) HLOW.out.1)
      replace x3 := cell_base x3 BW.out (Nat.lt_of_lt_of_le (World.block_lt_of_cell? w0 _ x3) HLOW.out.1)
      clear hx
      go_upto_region 5 with fail
      have UP := keep_alloc8 (Below.refl _ wr) (.cells #[.string xn, .int .i64 xb, .slice ca xc.length cc, .slice ra xr.length rc] 50)
      have HE2 : Hid (Ext base w1 v1 (wr.alloc (.cells #[.string xn, .int .i64 xb, .slice ca xc.length cc, .slice ra xr.length rc] 50)) _ (T ++ flatW funcW (l.take k))) := HE.out.later UP
      have X3 : Hid (XAt (wr.alloc (.cells #[.string xn, .int .i64 xb, .slice ca xc.length cc, .slice ra xr.length rc] 50)) wr.heap.size [.string xn, .int .i64 xb, .slice ca xc.length cc, .slice ra xr.length rc]) := XAt.new _ _ _
      generalize wr.alloc (.cells #[.string xn, .int .i64 xb, .slice ca xc.length cc, .slice ra xr.length rc] 50) = w2 at HE2 X3 UP ⊢
      have BW2 : Hid (Below base w0 w2 ∧ base ≤ w2.heap.size) := ⟨LB.out.1.trans (HE2.out.below LB.out.2.2 LB.out.2.1), Nat.le_trans LB.out.2.1 HE2.out.size⟩
      clear UP x0 x1 x2 x3
      have x0 := X3.out.1 0 _ rfl
      have x1 := X3.out.1 1 _ rfl
      have x2 := X3.out.1 2 _ rfl
      have x3 := X3.out.1 3 _ rfl
      go_wp2_with (go_at_call 79; refine (put_func (A := A) (w0 := w0) (f := ⟨xn, xb, xc, xr⟩) ⟨_, _, rfl, HC.out, HR.out, HS.out⟩ (HOK.out _ (List.mem_of_getElem? HX.out)) HLOW.out.1 BW2.out.1 HE2.out.own BW2.out.2 SZ2.out).mono ?_; rintro e w3 ⟨v3, rfl, Z⟩)
      go_roundw
      case rel => exact ⟨k + 1, by omega, by go_num, by rw [flat_next HX.out, ← List.append_assoc]; exact HE2.out.trans Z⟩
      case measure => simp [intOf]; omega
    · obtain rfl : k = n := by omega
      go_wp2
      go_ret
      have h := HE.out
      rw [← EN.out, List.take_length] at h
      exact ⟨w1, v1, _, N1.out, rfl, h⟩
theorem put_funcs {l : List FuncM} (h : IsFuncs A w0 vl l) (h0 : w0.heap.size ≤ base) (hlow : Below base w0 w) (hown : OwnB base w v out) (hbase : base ≤ w.heap.size) (hl : l.length ≤ 65535) (ok : ∀ f ∈ l, funcOk f) (hsz : out.length + (listW funcW l).length ≤ 3000000) :
    Calls Tryz.prog 78 #[v, vl, .func (.func 79) #[] #[]] w (Puts base w v (out ++ listW funcW l)) := by
  have e : listW funcW l = digL 2 (l.length : Int) ++ flatW funcW l := rfl
  have hz : out.length + 2 + (flatW funcW l).length ≤ 3000000 := by rw [e, List.length_append, digL_len] at hsz; omega
  have hq : ∀ q, v.ownBlock = some q → base ≤ q := fun q hq => (own_q hown q hq).1
  refine (put_funcs0 (T := out ++ digL 2 (l.length : Int)) (fun w1 v1 => Ext base w v w1 v1 (out ++ digL 2 (l.length : Int))) h h0 hlow hl ok ?_ (fun w1 v1 h => ⟨h.own, h.below hq hbase, Nat.le_trans hbase h.size⟩) (by rw [List.length_append, digL_len]; omega)).mono ?_
  · exact put_num hown hbase (l.length : Int) 2 (by omega) (by omega) (by omega) (by omega) (by omega)
  · rintro e' w' ⟨w1, v1, v', h1, rfl, h2⟩
    rw [e, ← List.append_assoc]
    exact ⟨v', rfl, h1.trans h2⟩
set_option maxRecDepth 100000 in
set_option maxHeartbeats 2000000 in
theorem put_datas0 {l : List DataM} {T : Bs} (N : World → Value → Prop) (h : IsDatas A w0 vl l) (h0 : w0.heap.size ≤ base) (hlow : Below base w0 w) (hl : l.length ≤ 65535) (ok : ∀ d ∈ l, dataOk d)
    (NM : Calls Tryz.prog 102 #[v, .int .i64 l.length, .int .i64 2] w fun e w1 => ∃ v1, e = .returned v1 ∧ N w1 v1) (hN : ∀ w1 v1, N w1 v1 → OwnB base w1 v1 T ∧ Below base w w1 ∧ base ≤ w1.heap.size) (hsz : T.length + (flatW dataW l).length ≤ 3000000) :
    Calls Tryz.prog 80 #[v, vl, .func (.func 81) #[] #[]] w fun e w' => ∃ w1 v1 v', N w1 v1 ∧ e = .returned v' ∧ Ext base w1 v1 w' v' (T ++ flatW dataW l) := by
  obtain ⟨a, c, rfl, lm, -, lx⟩ := LstA.open h
  obtain ⟨n, en⟩ : ∃ n, l.length = n := ⟨_, rfl⟩
  rw [en] at lm lx hl NM ⊢
  have LX : Hid (∀ k, k < n → ∃ b off x, a = some ⟨b, off, none⟩ ∧ A b ∧ l[k]? = some x ∧ DataAt A w0 b (off + k * 7) x) := lx
  have EN : Hid (l.length = n) := en
  have HLOW : Hid (w0.heap.size ≤ base ∧ Below base w0 w) := ⟨h0, hlow⟩
  have HNM : Hid (Calls Tryz.prog 102 #[v, .int .i64 n, .int .i64 2] w fun e w1 => ∃ v1, e = .returned v1 ∧ N w1 v1) := NM
  have HN : Hid (∀ w1 v1, N w1 v1 → OwnB base w1 v1 T ∧ Below base w w1 ∧ base ≤ w1.heap.size) := hN
  have HZ : Hid (T.length + (flatW dataW l).length ≤ 3000000) := hsz
  have HOK := Hid.mk0 ok
  have hn : (n : Int) ≤ 65535 := by omega
  clear h lx en lm h0 hlow NM hN hsz ok
  go_enter Tryz.func80, Tryz.ntmps80
  go_wp2_with (go_at_call 102; refine HNM.out.mono ?_; rintro e w1 ⟨v1, rfl, hN1⟩)
  have N1 := Hid.mk0 hN1
  obtain ⟨o1, b1, s1⟩ := HN.out w1 v1 hN1
  have Z1 : Hid (Ext base w1 v1 w1 v1 T) := Ext.refl o1
  have LB : Hid (Below base w0 w1 ∧ base ≤ w1.heap.size ∧ ∀ q, v1.ownBlock = some q → base ≤ q) := ⟨HLOW.out.2.trans b1, s1, fun q hq => (own_q o1 q hq).1⟩
  clear hN1 o1 b1 s1
  go_loopw [0, 15] (fun ov iv wr => ∃ k : Nat, k ≤ n ∧ iv = .int .i64 k ∧ Ext base w1 v1 wr ov (T ++ flatW dataW (l.take k))) (fun _ iv _ => n - (intOf iv).toNat)
  case atStart => exact ⟨0, Nat.zero_le _, rfl, by rw [List.take_zero]; show Ext base w1 v1 w1 v1 (T ++ []); rw [List.append_nil]; exact Z1.out⟩
  case round =>
    obtain ⟨k, hk, rfl, he⟩ := hrel
    have HE := Hid.mk0 he
    clear he Z1
    by_cases hlt : k < n
    · have hlt' : (k : Int) < n := by omega
      obtain ⟨q, off, ⟨xn, xb, xa, xf, xz, xc, xr⟩, rfl, -, hx, vc, vr, x0, x1, x2, x3, x4, x5, x6, hc, hr, hs⟩ := LX.out k hlt
      dsimp only at x0 x1 x2 x3 x4 x5 x6 hc hr hs
      obtain ⟨ca, cc, rfl, -, -, -⟩ := LstA.open (id hc.1)
      obtain ⟨ra, rc, rfl, -, -, -⟩ := LstA.open (id hr)
      have HC := Hid.mk0 hc
      have HR := Hid.mk0 hr
      have HS := Hid.mk0 hs
      clear hc hr hs
      have HX : Hid (l[k]? = some ⟨xn, xb, xa, xf, xz, xc, xr⟩) := hx
      have SZ2 : Hid ((T ++ flatW dataW (l.take k)).length + (dataW ⟨xn, xb, xa, xf, xz, xc, xr⟩).length ≤ 3000000) := by
        have h1 := flat_le2 (wr := dataW) hx
        have := HZ.out
        unfold Hid
        rw [List.length_append]
        omega
      have BW : Hid (Below base w0 wr) := LB.out.1.trans (HE.out.below LB.out.2.2 LB.out.2.1)
      replace x0 := cell_base x0 BW.out (Nat.lt_of_lt_of_le (World.block_lt_of_cell? w0 _ x0) HLOW.out.1)
      replace x1 := cell_base x1 BW.out (Nat.lt_of_lt_of_le (World.block_lt_of_cell? w0 _ x1) HLOW.out.1)
      replace x2 := cell_base x2 BW.out (Nat.lt_of_lt_of_le (World.block_lt_of_cell? w0 _ x2) HLOW.out.1)
      replace x3 := cell_base x3 BW.out (Nat.lt_of_lt_of_le (World.block_lt_of_cell? w0 _ x3) HLOW.out.1)
      replace x4 := cell_base x4 BW.out (Nat.lt_of_lt_of_le (World.block_lt_of_cell? w0 _ x4) HLOW.out.1)
      replace x5 := cell_base x5 BW.out (Nat.lt_of_lt_of_le (World.block_lt_of_cell? w0 _ x5) HLOW.out.1)
      replace x6 := cell_base x6 BW.out (Nat.lt_of_lt_of_le (World.block_lt_of_cell? w0 _ x6) HLOW.out.1)
      clear hx
      go_upto_region 5 with fail
      have UP := keep_alloc8 (Below.refl _ wr) (.cells #[.string xn, .int .i64 xb, .int .i64 xa, .bool xf, .int .i64 xz, .slice ca xc.length cc, .slice ra xr.length rc] 52)
      have HE2 : Hid (Ext base w1 v1 (wr.alloc (.cells #[.string xn, .int .i64 xb, .int .i64 xa, .bool xf, .int .i64 xz, .slice ca xc.length cc, .slice ra xr.length rc] 52)) _ (T ++ flatW dataW (l.take k))) := HE.out.later UP
      have X3 : Hid (XAt (wr.alloc (.cells #[.string xn, .int .i64 xb, .int .i64 xa, .bool xf, .int .i64 xz, .slice ca xc.length cc, .slice ra xr.length rc] 52)) wr.heap.size [.string xn, .int .i64 xb, .int .i64 xa, .bool xf, .int .i64 xz, .slice ca xc.length cc, .slice ra xr.length rc]) := XAt.new _ _ _
      generalize wr.alloc (.cells #[.string xn, .int .i64 xb, .int .i64 xa, .bool xf, .int .i64 xz, .slice ca xc.length cc, .slice ra xr.length rc] 52) = w2 at HE2 X3 UP ⊢
      have BW2 : Hid (Below base w0 w2 ∧ base ≤ w2.heap.size) := ⟨LB.out.1.trans (HE2.out.below LB.out.2.2 LB.out.2.1), Nat.le_trans LB.out.2.1 HE2.out.size⟩
      clear UP x0 x1 x2 x3 x4 x5 x6
      have x0 := X3.out.1 0 _ rfl
      have x1 := X3.out.1 1 _ rfl
      have x2 := X3.out.1 2 _ rfl
      have x3 := X3.out.1 3 _ rfl
      have x4 := X3.out.1 4 _ rfl
      have x5 := X3.out.1 5 _ rfl
      have x6 := X3.out.1 6 _ rfl
      go_wp2_with (go_at_call 81; refine (put_data (A := A) (w0 := w0) (d := ⟨xn, xb, xa, xf, xz, xc, xr⟩) ⟨_, _, rfl, HC.out, HR.out, HS.out⟩ (HOK.out _ (List.mem_of_getElem? HX.out)) HLOW.out.1 BW2.out.1 HE2.out.own BW2.out.2 SZ2.out).mono ?_; rintro e w3 ⟨v3, rfl, Z⟩)
      go_roundw
      case rel => exact ⟨k + 1, by omega, by go_num, by rw [flat_next HX.out, ← List.append_assoc]; exact HE2.out.trans Z⟩
      case measure => simp [intOf]; omega
    · obtain rfl : k = n := by omega
      go_wp2
      go_ret
      have h := HE.out
      rw [← EN.out, List.take_length] at h
      exact ⟨w1, v1, _, N1.out, rfl, h⟩
theorem put_datas {l : List DataM} (h : IsDatas A w0 vl l) (h0 : w0.heap.size ≤ base) (hlow : Below base w0 w) (hown : OwnB base w v out) (hbase : base ≤ w.heap.size) (hl : l.length ≤ 65535) (ok : ∀ d ∈ l, dataOk d) (hsz : out.length + (listW dataW l).length ≤ 3000000) :
    Calls Tryz.prog 80 #[v, vl, .func (.func 81) #[] #[]] w (Puts base w v (out ++ listW dataW l)) := by
  have e : listW dataW l = digL 2 (l.length : Int) ++ flatW dataW l := rfl
  have hz : out.length + 2 + (flatW dataW l).length ≤ 3000000 := by rw [e, List.length_append, digL_len] at hsz; omega
  have hq : ∀ q, v.ownBlock = some q → base ≤ q := fun q hq => (own_q hown q hq).1
  refine (put_datas0 (T := out ++ digL 2 (l.length : Int)) (fun w1 v1 => Ext base w v w1 v1 (out ++ digL 2 (l.length : Int))) h h0 hlow hl ok ?_ (fun w1 v1 h => ⟨h.own, h.below hq hbase, Nat.le_trans hbase h.size⟩) (by rw [List.length_append, digL_len]; omega)).mono ?_
  · exact put_num hown hbase (l.length : Int) 2 (by omega) (by omega) (by omega) (by omega) (by omega)
  · rintro e' w' ⟨w1, v1, v', h1, rfl, h2⟩
    rw [e, ← List.append_assoc]
    exact ⟨v', rfl, h1.trans h2⟩
end
end Go.Proofs.YteakbpcmafdikaaGreatDoor
