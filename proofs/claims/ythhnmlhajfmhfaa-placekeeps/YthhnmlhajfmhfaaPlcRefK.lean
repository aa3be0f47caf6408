/- What the document's plan has in memory while it is made. -/
import Derived.Test.YthhnmlhajfmhfaaPlcSet
namespace Go.Proofs.Ythhnmlhajfmhfaa
open Go.ChangeShapes Go.WideShapes Go.ChangeAt Go.RowKit
set_option linter.unusedVariables false
set_option linter.unusedSimpArgs false
/-- The program's box A, the answer's B, the plan's X, and its rows g and h. -/
def RefSt (w0 wr : World) (A B X g h : Nat) (pc : List Value) (F D : Nat) (G DL : List Int) (wd b wt : Int) : Prop :=
  (XAt wr A pc ∧ XAt wr B [.slice none 0 0, .slice none 0 0, .int .i64 0, .int .i64 0, .int .i64 0] ∧
  XAt wr X [.slice (some ⟨g, 0, none⟩) F F, .slice (some ⟨h, 0, none⟩) D D, .int .i64 wd, .int .i64 b, .int .i64 wt] ∧ XAt wr g (nums G) ∧ XAt wr h (nums DL)) ∧
  (Below w0.heap.size w0 wr ∧ w0.heap.size ≤ A ∧ w0.heap.size ≤ B ∧ w0.heap.size ≤ X ∧ w0.heap.size ≤ g ∧ w0.heap.size ≤ h ∧ g < wr.heap.size ∧ h < wr.heap.size ∧ X < wr.heap.size) ∧
  (A ≠ X ∧ A ≠ g ∧ A ≠ h ∧ B ≠ X ∧ B ≠ g ∧ B ≠ h ∧ X ≠ g ∧ X ≠ h ∧ g ≠ h) ∧ G.length = F ∧ DL.length = D
variable {w0 wr : World} {A B X g h : Nat} {pc : List Value} {F D : Nat} {G DL : List Int} {wd b wt : Int}
theorem RefSt.drew (s : RefSt w0 wr A B X g h pc F D G DL wd b wt) : RefSt w0 wr.drew A B X g h pc F D G DL wd b wt :=
  ⟨⟨s.1.1.drew, s.1.2.1.drew, s.1.2.2.1.drew, s.1.2.2.2.1.drew, s.1.2.2.2.2.drew⟩, ⟨s.2.1.1.drew, s.2.1.2⟩, s.2.2⟩
theorem RefSt.drewN (s : RefSt w0 wr A B X g h pc F D G DL wd b wt) (n : Nat) : RefSt w0 (wr.drewN n) A B X g h pc F D G DL wd b wt :=
  ⟨⟨s.1.1.keep rfl, s.1.2.1.keep rfl, s.1.2.2.1.keep rfl, s.1.2.2.2.1.keep rfl, s.1.2.2.2.2.keep rfl⟩, ⟨below_drewN s.2.1.1 _, s.2.1.2⟩, s.2.2⟩
theorem RefSt.setg (s : RefSt w0 wr A B X g h pc F D G DL wd b wt) {k : Nat} (hk : k < F) (x : Int) : RefSt w0 (wr.setCell ⟨g, k, none⟩ (.int .i64 x)) A B X g h pc F D (G.set k x) DL wd b wt := by
  obtain ⟨⟨a1, a2, a3, a4, a5⟩, ⟨b1, b2, b3, b4, b5, b6, b7, b8, b9⟩, ⟨n1, n2, n3, n4, n5, n6, n7, n8, n9⟩, l1, l2⟩ := s
  exact ⟨⟨xat_other a1 n2 _, xat_other a2 n5 _, xat_other a3 n7 _, xnum_set a4 (by omega) x, xat_other a5 n9.symm _⟩, ⟨b1.setCell b5 _, b2, b3, b4, b5, b6, by simpa using b7, by simpa using b8, by simpa using b9⟩, ⟨n1, n2, n3, n4, n5, n6, n7, n8, n9⟩, by rw [List.length_set]; exact l1, l2⟩
theorem RefSt.seth (s : RefSt w0 wr A B X g h pc F D G DL wd b wt) {k : Nat} (hk : k < D) (x : Int) : RefSt w0 (wr.setCell ⟨h, k, none⟩ (.int .i64 x)) A B X g h pc F D G (DL.set k x) wd b wt := by
  obtain ⟨⟨a1, a2, a3, a4, a5⟩, ⟨b1, b2, b3, b4, b5, b6, b7, b8, b9⟩, ⟨n1, n2, n3, n4, n5, n6, n7, n8, n9⟩, l1, l2⟩ := s
  exact ⟨⟨xat_other a1 n3 _, xat_other a2 n6 _, xat_other a3 n8 _, xat_other a4 n9 _, xnum_set a5 (by omega) x⟩, ⟨b1.setCell b6 _, b2, b3, b4, b5, b6, by simpa using b7, by simpa using b8, by simpa using b9⟩, ⟨n1, n2, n3, n4, n5, n6, n7, n8, n9⟩, l1, by rw [List.length_set]; exact l2⟩
theorem RefSt.setX2 (s : RefSt w0 wr A B X g h pc F D G DL wd b wt) (x : Int) : RefSt w0 (wr.setCell ⟨X, 2, none⟩ (.int .i64 x)) A B X g h pc F D G DL x b wt := by
  obtain ⟨⟨a1, a2, a3, a4, a5⟩, ⟨b1, b2, b3, b4, b5, b6, b7, b8, b9⟩, ⟨n1, n2, n3, n4, n5, n6, n7, n8, n9⟩, l1, l2⟩ := s
  exact ⟨⟨xat_other a1 n1 _, xat_other a2 n4 _, a3.set 2 (by simp) _, xat_other a4 n7.symm _, xat_other a5 n8.symm _⟩, ⟨b1.setCell b4 _, b2, b3, b4, b5, b6, by simpa using b7, by simpa using b8, by simpa using b9⟩, ⟨n1, n2, n3, n4, n5, n6, n7, n8, n9⟩, l1, l2⟩
theorem RefSt.setX3 (s : RefSt w0 wr A B X g h pc F D G DL wd b wt) (x : Int) : RefSt w0 (wr.setCell ⟨X, 3, none⟩ (.int .i64 x)) A B X g h pc F D G DL wd x wt := by
  obtain ⟨⟨a1, a2, a3, a4, a5⟩, ⟨b1, b2, b3, b4, b5, b6, b7, b8, b9⟩, ⟨n1, n2, n3, n4, n5, n6, n7, n8, n9⟩, l1, l2⟩ := s
  exact ⟨⟨xat_other a1 n1 _, xat_other a2 n4 _, a3.set 3 (by simp) _, xat_other a4 n7.symm _, xat_other a5 n8.symm _⟩, ⟨b1.setCell b4 _, b2, b3, b4, b5, b6, by simpa using b7, by simpa using b8, by simpa using b9⟩, ⟨n1, n2, n3, n4, n5, n6, n7, n8, n9⟩, l1, l2⟩
theorem RefSt.setX4 (s : RefSt w0 wr A B X g h pc F D G DL wd b wt) (x : Int) : RefSt w0 (wr.setCell ⟨X, 4, none⟩ (.int .i64 x)) A B X g h pc F D G DL wd b x := by
  obtain ⟨⟨a1, a2, a3, a4, a5⟩, ⟨b1, b2, b3, b4, b5, b6, b7, b8, b9⟩, ⟨n1, n2, n3, n4, n5, n6, n7, n8, n9⟩, l1, l2⟩ := s
  exact ⟨⟨xat_other a1 n1 _, xat_other a2 n4 _, a3.set 4 (by simp) _, xat_other a4 n7.symm _, xat_other a5 n8.symm _⟩, ⟨b1.setCell b4 _, b2, b3, b4, b5, b6, by simpa using b7, by simpa using b8, by simpa using b9⟩, ⟨n1, n2, n3, n4, n5, n6, n7, n8, n9⟩, l1, l2⟩
/-- What stands ahead of the turn t. -/
def TurnOk (l : List DatZ) (t : Nat) (DL : List Int) (b wt : Int) : Prop :=
  (t = 0 ∧ DL = List.replicate l.length 0 ∧ b = 0 ∧ wt = 0) ∨ (t = 1 ∧ DL = (fixN l).1 ∧ b = (fixN l).2 ∧ wt = 0) ∨ (t = 2 ∧ DL = (restN l).1 ∧ b = (restN l).2 ∧ wt = writeZ l)
/-- The number that stands in the fourth cell. -/
def x3Of (w : World) (X : Nat) : Int := match w.cell? ⟨X, 3, none⟩ with | some (.int _ n) => n | _ => 0
theorem x3_of {w : World} {X : Nat} {k : IntKind} {n : Int} (h : w.cell? ⟨X, 3, none⟩ = some (.int k n)) : x3Of w X = n := by unfold x3Of; rw [h]
theorem RefSt.x3 (s : RefSt w0 wr A B X g h pc F D G DL wd b wt) : x3Of wr X = b := x3_of (s.1.2.2.1.1 3 _ rfl)
theorem three1 (W : World) (c1 c2 c3 : Array Value) (t1 t2 t3 : TypeId) : XAt (((W.alloc (.cells c1 t1)).alloc (.cells c2 t2)).alloc (.cells c3 t3)) W.heap.size c1.toList :=
  ((XAt.new W c1 t1).later (by simp) (keep_alloc8 (Below.refl _ _) _)).later (by simp; omega) (keep_alloc8 (Below.refl _ _) _)
theorem three2 (W : World) (c1 c2 c3 : Array Value) (t1 t2 t3 : TypeId) : XAt (((W.alloc (.cells c1 t1)).alloc (.cells c2 t2)).alloc (.cells c3 t3)) (W.heap.size + 1) c2.toList := by
  have h := XAt.new (W.alloc (.cells c1 t1)) c2 t2
  rw [World.size_alloc] at h
  exact h.later (by simp) (keep_alloc8 (Below.refl _ _) _)
theorem three3 (W : World) (c1 c2 c3 : Array Value) (t1 t2 t3 : TypeId) : XAt (((W.alloc (.cells c1 t1)).alloc (.cells c2 t2)).alloc (.cells c3 t3)) (W.heap.size + 1 + 1) c3.toList := by
  have h := XAt.new ((W.alloc (.cells c1 t1)).alloc (.cells c2 t2)) c3 t3
  rw [World.size_alloc, World.size_alloc] at h
  exact h
theorem zer {W : World} {b n : Nat} (h : XAt W b (madeCells #[Value.int .i64 0] n).toList) : XAt W b (nums (List.replicate n 0)) := by
  rw [toList_madeCells_one] at h; simpa [nums] using h
theorem ref_mk {W0 : World} (XA : XAt W0 A pc) (XB : XAt W0 B [.slice none 0 0, .slice none 0 0, .int .i64 0, .int .i64 0, .int .i64 0]) (UP : Below w0.heap.size w0 W0) (hA : A < W0.heap.size ∧ B < W0.heap.size ∧ w0.heap.size ≤ A ∧ w0.heap.size ≤ B) (UW : Below W0.heap.size W0 wr)
    (hX : XAt wr X [.slice (some ⟨g, 0, none⟩) F F, .slice (some ⟨h, 0, none⟩) D D, .int .i64 0, .int .i64 0, .int .i64 0]) (hg : XAt wr g (nums (List.replicate F 0))) (hh : XAt wr h (nums (List.replicate D 0)))
    (hs : W0.heap.size ≤ X ∧ W0.heap.size ≤ g ∧ W0.heap.size ≤ h ∧ X < wr.heap.size ∧ g < wr.heap.size ∧ h < wr.heap.size ∧ X ≠ g ∧ X ≠ h ∧ g ≠ h) : RefSt w0 wr.drew A B X g h pc F D (List.replicate F 0) (List.replicate D 0) 0 0 0 :=
  RefSt.drew ⟨⟨XA.later hA.1 UW, XB.later hA.2.1 UW, hX, hg, hh⟩, ⟨UP.trans (UW.mono UP.size), hA.2.2.1, hA.2.2.2, by omega, by omega, by omega, by omega, by omega, by omega⟩, ⟨by omega, by omega, by omega, by omega, by omega, by omega, hs.2.2.2.2.2.2.1, hs.2.2.2.2.2.2.2.1, hs.2.2.2.2.2.2.2.2⟩, by simp, by simp⟩
theorem three_up (W : World) (o1 o2 o3 : Obj) : Below W.heap.size W (((W.alloc o1).alloc o2).alloc o3) := keep_alloc8 (keep_alloc8 (keep_alloc8 (Below.refl _ _) _) _) _
end Go.Proofs.Ythhnmlhajfmhfaa
