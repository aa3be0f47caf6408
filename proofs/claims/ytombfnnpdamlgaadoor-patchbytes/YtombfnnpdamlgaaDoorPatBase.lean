/- Programs in memory, with all that they are made of. No condition. -/
import Derived.Test.YtombfnnpdamlgaaDoorPlcKit
import Derived.Test.YtombfnnpdamlgaaDoorObjOwn
namespace Go.Proofs.YtombfnnpdamlgaaDoor
open Go.ChangeShapes Go.WideShapes Go.ChangeAt Go.RowKit
set_option linter.unusedVariables false
set_option linter.unusedSimpArgs false
structure PRelM where
  at_ : Int
  kind : Int
  to : Int
  add : Int
deriving DecidableEq
structure PFuncM where
  name : ByteArray
  keep : Bool
  leaf : Bool
  code : List Int
  rels : List PRelM
structure PDataM where
  align : Int
  fixed : Bool
  size : Int
  bytes : List Int
  rels : List PRelM
structure ProgM where
  funcs : List PFuncM
  datas : List PDataM
  entry : Int
/-- A resolved relocation there. -/
def PRelAt (w : World) (b o : Nat) (r : PRelM) : Prop :=
  w.cell? ⟨b, o, none⟩ = some (.int .i64 r.at_) ∧ w.cell? ⟨b, o + 1, none⟩ = some (.int .i64 r.kind) ∧ w.cell? ⟨b, o + 2, none⟩ = some (.int .i64 r.to) ∧ w.cell? ⟨b, o + 3, none⟩ = some (.int .i64 r.add)
def IsPRels (A : Nat → Prop) (w : World) (v : Value) (l : List PRelM) : Prop := LstA 4 (PRelAt w) A v l
theorem IsPRels.keep {A : Nat → Prop} {w w' : World} {v : Value} {l : List PRelM} (h : IsPRels A w v l) (hk : Stay A w w') : IsPRels A w' v l :=
  LstA.map h (fun _ h => h) fun b o x hb _ hc => ⟨hk.cell hb hc.1, hk.cell hb hc.2.1, hk.cell hb hc.2.2.1, hk.cell hb hc.2.2.2⟩
/-- A function, data of a program there. -/
def PFAt (A : Nat → Prop) (w : World) (b o : Nat) (f : PFuncM) : Prop := ∃ vc vr, w.cell? ⟨b, o, none⟩ = some (.string f.name) ∧ w.cell? ⟨b, o + 1, none⟩ = some (.bool f.keep) ∧ w.cell? ⟨b, o + 2, none⟩ = some (.bool f.leaf) ∧ w.cell? ⟨b, o + 3, none⟩ = some vc ∧ w.cell? ⟨b, o + 4, none⟩ = some vr ∧ IsWords A w vc f.code ∧ IsPRels A w vr f.rels
def PDAt (A : Nat → Prop) (w : World) (b o : Nat) (f : PDataM) : Prop := ∃ vc vr, w.cell? ⟨b, o, none⟩ = some (.int .i64 f.align) ∧ w.cell? ⟨b, o + 1, none⟩ = some (.bool f.fixed) ∧ w.cell? ⟨b, o + 2, none⟩ = some (.int .i64 f.size) ∧ w.cell? ⟨b, o + 3, none⟩ = some vc ∧ w.cell? ⟨b, o + 4, none⟩ = some vr ∧ IsBytes A w vc f.bytes ∧ IsPRels A w vr f.rels
def IsPFs (A : Nat → Prop) (w : World) (v : Value) (l : List PFuncM) : Prop := LstA 5 (PFAt A w) A v l
def IsPDs (A : Nat → Prop) (w : World) (v : Value) (l : List PDataM) : Prop := LstA 5 (PDAt A w) A v l
def IsProg (A : Nat → Prop) (w : World) (v : Value) (p : ProgM) : Prop := ∃ vf vd, v = .agg #[vf, vd, .int .i64 p.entry] ∧ IsPFs A w vf p.funcs ∧ IsPDs A w vd p.datas
theorem PFAt.keep {A : Nat → Prop} {w w' : World} {b o : Nat} {f : PFuncM} (h : PFAt A w b o f) (hk : Stay A w w') (hb : A b) : PFAt A w' b o f := by
  obtain ⟨vc, vr, h1, h2, h3, h4, h5, h6, h7⟩ := h
  exact ⟨vc, vr, hk.cell hb h1, hk.cell hb h2, hk.cell hb h3, hk.cell hb h4, hk.cell hb h5, h6.keep hk, h7.keep hk⟩
theorem PDAt.keep {A : Nat → Prop} {w w' : World} {b o : Nat} {f : PDataM} (h : PDAt A w b o f) (hk : Stay A w w') (hb : A b) : PDAt A w' b o f := by
  obtain ⟨vc, vr, h1, h2, h3, h4, h5, h6, h7⟩ := h
  exact ⟨vc, vr, hk.cell hb h1, hk.cell hb h2, hk.cell hb h3, hk.cell hb h4, hk.cell hb h5, h6.keep hk, h7.keep hk⟩
theorem IsPFs.keep {A : Nat → Prop} {w w' : World} {v : Value} {l : List PFuncM} (h : IsPFs A w v l) (hk : Stay A w w') : IsPFs A w' v l := LstA.map h (fun _ h => h) fun b o x hb _ hc => hc.keep hk hb
theorem IsPDs.keep {A : Nat → Prop} {w w' : World} {v : Value} {l : List PDataM} (h : IsPDs A w v l) (hk : Stay A w w') : IsPDs A w' v l := LstA.map h (fun _ h => h) fun b o x hb _ hc => hc.keep hk hb
theorem IsProg.keep {A : Nat → Prop} {w w' : World} {v : Value} {p : ProgM} (h : IsProg A w v p) (hk : Stay A w w') : IsProg A w' v p := by
  obtain ⟨vf, vd, e, h1, h2⟩ := h
  exact ⟨vf, vd, e, h1.keep hk, h2.keep hk⟩
theorem IsProg.later {A : Nat → Prop} {w w' : World} {v : Value} {p : ProgM} (h : IsProg A w v p) (hb : Below w.heap.size w w') : IsProg A w' v p := h.keep (Stay.of_below hb)
end Go.Proofs.YtombfnnpdamlgaaDoor
