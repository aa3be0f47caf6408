/- What the document's own Write returns. -/
import Derived.Test.YtnejpldbokodaaaDoorObjApp
import Derived.ArgAppend
import Derived.Lib.SlBytesConst
namespace Go.Proofs.YtnejpldbokodaaaDoor
open Go.ChangeShapes Go.WideShapes Go.ChangeAt Go.RowKit
set_option linter.unusedVariables false
set_option linter.unusedSimpArgs false
theorem dig4_bytes (x : Int) (h0 : 0 ≤ x) (h1 : x < 4294967296) : (bytesOf x).toList = (digL 4 x).map fun x => .int .u8 x := by
  have e : digL 4 x = [x % 256, x / 256 % 256, x / 65536 % 256, x / 16777216] := by
    show [x % 256, x / 256 % 256, x / 256 / 256 % 256, x / 256 / 256 / 256 % 256] = _
    rw [show x / 256 / 256 % 256 = x / 65536 % 256 from by omega, show x / 256 / 256 / 256 % 256 = x / 16777216 from by omega]
  rw [e]; rfl
theorem flat4_len (l : List Int) : (flatW (digL 4) l).length = 4 * l.length := by
  induction l with
  | nil => rfl
  | cons x l ih => show (digL 4 x ++ flatW (digL 4) l).length = _; rw [List.length_append, digL_len, ih, List.length_cons]; omega
theorem nameW_len (t : ByteArray) : (nameW t).length = 1 + t.size := by unfold nameW; rw [List.length_append, digL_len, bytesL_len]
theorem flat_bound {α : Type} {wr : α → Bs} {B : Nat} {l : List α} (h : ∀ x ∈ l, (wr x).length ≤ B) : (flatW wr l).length ≤ l.length * B := by
  induction l with
  | nil => simp [flatW]
  | cons x l ih =>
    have e : flatW wr (x :: l) = wr x ++ flatW wr l := by simp [flatW]
    rw [e, List.length_append, List.length_cons, Nat.add_mul, Nat.one_mul]
    have := h x (List.mem_cons_self ..)
    have := ih fun y hy => h y (List.mem_cons_of_mem _ hy)
    omega
def relsOk' (l : List RelM) : Prop := l.length ≤ 64 ∧ ∀ r ∈ l, relOk r
def B9 (z : Int) (B : Array Value) : Prop := B.toList = (digL 4 z).map fun x => .int .u8 x
theorem Hid.mk9 {P : Prop} (h : P) : Hid P := h
theorem dig3 {b g f : Int} {x : Bool} (hb : 0 ≤ b ∧ b ≤ 255) (hg : 0 ≤ g ∧ g ≤ 255) (hf : f = fixW x) : #[Value.int .u8 b, .int .u8 g, .int .u8 f].toList = (digL 1 b ++ digL 1 g ++ digL 1 (fixW x)).map fun x => .int .u8 x := by
  rw [dig1 hb.1 (by omega), dig1 hg.1 (by omega), hf, dig1 (by cases x <;> decide) (by cases x <;> decide)]
  rfl
theorem rels_bound {l : List RelM} (h : relsOk' l) : (listW relW l).length ≤ 2562 := by
  unfold listW
  rw [List.length_append, digL_len]
  have := flat_bound (wr := relW) (B := 40) (l := l) fun r hr => by rw [relW_len]; have := named_len (h.2 r hr).2.2.1; omega
  have := h.1
  omega
theorem funcW_len (f : FuncM) : (funcW f).length = 1 + f.name.size + 1 + (2 + 4 * f.code.length) + (listW relW f.rels).length := by
  unfold funcW listW
  simp only [List.length_append, digL_len, nameW_len, flat4_len]
  omega
theorem dataW_len (d : DataM) : (dataW d).length = 1 + d.name.size + 3 + 2 + (2 + d.bytes.length) + (listW relW d.rels).length := by
  unfold dataW bytesW
  simp only [List.length_append, digL_len, nameW_len]
  omega
theorem noteW_len (x : NoteM) : (noteW x).length = 2 + x.name.size := by
  unfold noteW
  simp only [List.length_append, digL_len, nameW_len]
  omega
theorem objW_len (p : ObjM) (h : objOk p) : (flatW funcW p.funcs).length + (flatW dataW p.datas).length + (flatW noteW p.notes).length ≤ 1900000 := by
  have h1 := flat_bound (wr := funcW) (B := 10700) (l := p.funcs) fun f hf => by
    have hk := h.1.2 f hf
    rw [funcW_len]; have := named_len hk.1; have := rels_bound hk.2.2.2; have := hk.2.2.1.1; omega
  have h2 := flat_bound (wr := dataW) (B := 6800) (l := p.datas) fun d hd => by
    have hk := h.2.1.2 d hd
    rw [dataW_len]; have := named_len hk.1; have := rels_bound hk.2.2.2.2.2; have := hk.2.2.2.2.1.1; omega
  have h3 := flat_bound (wr := noteW) (B := 40) (l := p.notes) fun x hx => by
    have hk := h.2.2.2 x hx
    rw [noteW_len]; have := named_len hk.1; omega
  have := h.1.1; have := h.2.1.1; have := h.2.2.1
  omega
end Go.Proofs.YtnejpldbokodaaaDoor
