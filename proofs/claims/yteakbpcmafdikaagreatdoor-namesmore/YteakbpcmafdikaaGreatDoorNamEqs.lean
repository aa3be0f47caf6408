/- Programs alike: whole ones. No condition. -/
import Derived.Test.YteakbpcmafdikaaGreatDoorNamEq
namespace Go.Proofs.YteakbpcmafdikaaGreatDoor
open Go.ChangeShapes Go.WideShapes Go.ChangeAt Go.RowKit
set_option linter.unusedVariables false
set_option linter.unusedSimpArgs false
/-- A function, data of a program there. -/
def PFAt (A : Nat → Prop) (w : World) (b o : Nat) (f : PFuncM) : Prop := ∃ vc vr, w.cell? ⟨b, o, none⟩ = some (.string f.name) ∧ w.cell? ⟨b, o + 1, none⟩ = some (.bool f.keep) ∧ w.cell? ⟨b, o + 2, none⟩ = some (.bool f.leaf) ∧ w.cell? ⟨b, o + 3, none⟩ = some vc ∧ w.cell? ⟨b, o + 4, none⟩ = some vr ∧ IsWords A w vc f.code ∧ IsPRels A w vr f.rels
def PDAt (A : Nat → Prop) (w : World) (b o : Nat) (f : PDataM) : Prop := ∃ vc vr, w.cell? ⟨b, o, none⟩ = some (.int .i64 f.align) ∧ w.cell? ⟨b, o + 1, none⟩ = some (.bool f.fixed) ∧ w.cell? ⟨b, o + 2, none⟩ = some (.int .i64 f.size) ∧ w.cell? ⟨b, o + 3, none⟩ = some vc ∧ w.cell? ⟨b, o + 4, none⟩ = some vr ∧ IsBytes A w vc f.bytes ∧ IsPRels A w vr f.rels
def IsPFs (A : Nat → Prop) (w : World) (v : Value) (l : List PFuncM) : Prop := LstA 5 (PFAt A w) A v l
def IsPDs (A : Nat → Prop) (w : World) (v : Value) (l : List PDataM) : Prop := LstA 5 (PDAt A w) A v l
def IsProg (A : Nat → Prop) (w : World) (v : Value) (p : ProgM) : Prop := ∃ vf vd, v = .agg #[vf, vd, .int .i64 p.entry] ∧ IsPFs A w vf p.funcs ∧ IsPDs A w vd p.datas
theorem PFAt.keep {A : Nat → Prop} {w w' : World} {b o : Nat} {f : PFuncM} (h : PFAt A w b o f) (hk : Stay A w w') (hb : A b) : PFAt A w' b o f := by
  obtain ⟨vc, vr, h1, h2, h3, h4, h5, h6, h7⟩ := h
  exact ⟨vc, vr, hk.cell hb h1, hk.cell hb h2, hk.cell hb h3, hk.cell hb h4, hk.cell hb h5, h6.keep hk, h7.keep hk⟩
theorem PDAt.keep {A : Nat → Prop} {w w' : World} {b o : Nat} {f : PDataM} (h : PDAt A w b o f) (hk : Stay A w w') (hb : A b) : PDAt A w' b o f := by
  obtain ⟨vc, vr, h1, h2, h3, h4, h5, h6, h7⟩ := h
  exact ⟨vc, vr, hk.cell hb h1, hk.cell hb h2, hk.cell hb h3, hk.cell hb h4, hk.cell hb h5, h6.keep hk, h7.keep hk⟩
theorem IsPFs.keep {A : Nat → Prop} {w w' : World} {v : Value} {l : List PFuncM} (h : IsPFs A w v l) (hk : Stay A w w') : IsPFs A w' v l := LstA.map h (fun _ h => h) fun b o x hb _ hc => hc.keep hk hb
theorem IsPDs.keep {A : Nat → Prop} {w w' : World} {v : Value} {l : List PDataM} (h : IsPDs A w v l) (hk : Stay A w w') : IsPDs A w' v l := LstA.map h (fun _ h => h) fun b o x hb _ hc => hc.keep hk hb
theorem IsProg.keep {A : Nat → Prop} {w w' : World} {v : Value} {p : ProgM} (h : IsProg A w v p) (hk : Stay A w w') : IsProg A w' v p := by
  obtain ⟨vf, vd, e, h1, h2⟩ := h
  exact ⟨vf, vd, e, h1.keep hk, h2.keep hk⟩
theorem IsProg.later {A : Nat → Prop} {w w' : World} {v : Value} {p : ProgM} (h : IsProg A w v p) (hb : Below w.heap.size w w') : IsProg A w' v p := h.keep (Stay.of_below hb)
theorem isProg_none {A : Nat → Prop} {w : World} : IsProg A w (.agg #[.slice none 0 0, .slice none 0 0, .int .i64 0]) noProg := ⟨_, _, rfl, LstA.nil, LstA.nil⟩
theorem IsPRels.wide {A A' : Nat → Prop} {w : World} {v : Value} {l : List PRelM} (h : IsPRels A w v l) (hA : ∀ k, A k → A' k) : IsPRels A' w v l := LstA.map h hA fun b o x hb _ hc => hc
/-- A program of one's own is a program. -/
theorem Prg.isProg {base : Nat} {vf vd : Value} {LF : List PFX} {LD : List PDX} {W : World} (h : Prg base vf vd LF LD W) (E : Int) : IsProg (fun _ => True) W (.agg #[vf, vd, .int .i64 E]) ⟨LF.map Prod.fst, LD.map Prod.fst, E⟩ := by
  refine ⟨vf, vd, rfl, LstA.fst Prod.fst ?_, LstA.fst Prod.fst ?_⟩
  · refine (own_lst pfxC_len h.f (el := fun b o x => PFAt (fun _ => True) W b o x.1) fun b o x hx hc => ?_).map (fun _ _ => trivial) fun b o x _ _ hc => hc
    obtain ⟨h1, h2, h3⟩ := h.ef x hx
    exact ⟨x.2.1, x.2.2, hc 0 _ rfl, hc 1 _ rfl, hc 2 _ rfl, hc 3 _ rfl, hc 4 _ rfl, (own_words h1 h2).wide fun _ _ => trivial, (own_prels h3).wide fun _ _ => trivial⟩
  · refine (own_lst pdxC_len h.d (el := fun b o x => PDAt (fun _ => True) W b o x.1) fun b o x hx hc => ?_).map (fun _ _ => trivial) fun b o x _ _ hc => hc
    obtain ⟨h1, h2, h3⟩ := h.ed x hx
    exact ⟨x.2.1, x.2.2, hc 0 _ rfl, hc 1 _ rfl, hc 2 _ rfl, hc 3 _ rfl, hc 4 _ rfl, (own_bytesL h1 h2).wide fun _ _ => trivial, (own_prels h3).wide fun _ _ => trivial⟩
set_option maxRecDepth 100000 in
set_option maxHeartbeats 4000000 in
theorem eqf_funcs {A A' : Nat → Prop} {w : World} {v v' : Value} {l m : List PFuncM} (h1 : IsPFs A w v l) (h2 : IsPFs A' w v' m) :
    Calls Tryz.prog 30 #[v, v', .func (.func 31) #[] #[]] w fun e w' => Says e (l = m) ∧ Below w.heap.size w w' := by
  obtain ⟨a, c, rfl, lm, -, lx⟩ := LstA.open h1
  obtain ⟨b, d, rfl, mm, -, mx⟩ := LstA.open h2
  obtain ⟨n, en⟩ : ∃ n, l.length = n := ⟨_, rfl⟩
  rw [en] at lm lx ⊢
  clear h1 h2
  by_cases hlen : m.length = n
  · rw [hlen] at mm mx ⊢
    have LX : Hid (∀ k, k < n → ∃ b off x, a = some ⟨b, off, none⟩ ∧ A b ∧ l[k]? = some x ∧ PFAt A w b (off + k * 5) x) := lx
    have MX : Hid (∀ k, k < n → ∃ c off x, b = some ⟨c, off, none⟩ ∧ A' c ∧ m[k]? = some x ∧ PFAt A' w c (off + k * 5) x) := mx
    have HN : Hid (l.length = n ∧ m.length = n ∧ n ≤ maxLen) := ⟨en, hlen, lm⟩
    have hn : (n : Int) ≤ 9223372036854775807 := by unfold maxLen at lm; omega
    clear lx mx en hlen lm mm
    go_enter Tryz.func30, Tryz.ntmps30
    go_wp2
    go_loopw [17] (fun i wr => ∃ k : Nat, k ≤ n ∧ i = .int .i64 k ∧ (∀ j, j < k → l[j]? = m[j]?) ∧ Below w.heap.size w wr) (fun i _ => n - (intOf i).toNat)
    case atStart => exact ⟨0, Nat.zero_le _, rfl, (fun j hj => by omega), Below.refl _ _⟩
    case round =>
      obtain ⟨k, hk, rfl, hs, hbel⟩ := hrel
      have HB : Hid (Below w.heap.size w wr) := hbel
      have HS : Hid (∀ j, j < k → l[j]? = m[j]?) := hs
      clear hbel hs
      by_cases hlt : k < n
      · have hlt' : (k : Int) < n := by omega
        obtain ⟨q, off, x, rfl, -, hx, xc, xr, x0, x1, x2, x3, x4, x5, x6⟩ := LX.out k hlt
        obtain ⟨q', off', y, rfl, -, hy, yc, yr, y0, y1, y2, y3, y4, y5, y6⟩ := MX.out k hlt
        have HX : Hid (l[k]? = some x ∧ m[k]? = some y) := ⟨hx, hy⟩
        have SM : Hid (∀ W, Below w.heap.size w W → Calls Tryz.prog 31 #[.agg #[.string x.name, .bool x.keep, .bool x.leaf, xc, xr], .agg #[.string y.name, .bool y.keep, .bool y.leaf, yc, yr]] W fun e w' => Says e (x = y) ∧ Below W.heap.size W w') := fun W hW => csamefunc_any ⟨xc, xr, rfl, x5.keep (Stay.of_below hW), x6.keep (Stay.of_below hW)⟩ ⟨yc, yr, rfl, y5.keep (Stay.of_below hW), y6.keep (Stay.of_below hW)⟩
        obtain ⟨xa1, xc1, rfl, -⟩ := x5.1
        obtain ⟨xa2, xc2, rfl, -⟩ := x6
        obtain ⟨ya1, yc1, rfl, -⟩ := y5.1
        obtain ⟨ya2, yc2, rfl, -⟩ := y6
        replace x0 := cell_any x0 HB.out
        replace x1 := cell_any x1 HB.out
        replace x2 := cell_any x2 HB.out
        replace x3 := cell_any x3 HB.out
        replace x4 := cell_any x4 HB.out
        generalize x.code.length = n1 at SM x3
        generalize x.rels.length = n2 at SM x4
        generalize y.code.length = n3 at SM y3
        generalize y.rels.length = n4 at SM y4
        replace y0 := cell_any y0 (keep_alloc8 HB.out (.cells #[.string x.name, .bool x.keep, .bool x.leaf, .slice xa1 n1 xc1, .slice xa2 n2 xc2] 36))
        replace y1 := cell_any y1 (keep_alloc8 HB.out (.cells #[.string x.name, .bool x.keep, .bool x.leaf, .slice xa1 n1 xc1, .slice xa2 n2 xc2] 36))
        replace y2 := cell_any y2 (keep_alloc8 HB.out (.cells #[.string x.name, .bool x.keep, .bool x.leaf, .slice xa1 n1 xc1, .slice xa2 n2 xc2] 36))
        replace y3 := cell_any y3 (keep_alloc8 HB.out (.cells #[.string x.name, .bool x.keep, .bool x.leaf, .slice xa1 n1 xc1, .slice xa2 n2 xc2] 36))
        replace y4 := cell_any y4 (keep_alloc8 HB.out (.cells #[.string x.name, .bool x.keep, .bool x.leaf, .slice xa1 n1 xc1, .slice xa2 n2 xc2] 36))
        have UP2 : Hid (Below w.heap.size w ((wr.alloc (.cells #[.string x.name, .bool x.keep, .bool x.leaf, .slice xa1 n1 xc1, .slice xa2 n2 xc2] 36)).alloc (.cells #[.string y.name, .bool y.keep, .bool y.leaf, .slice ya1 n3 yc1, .slice ya2 n4 yc2] 36))) := keep_alloc8 (keep_alloc8 HB.out _) _
        have XA : Hid (XAt ((wr.alloc (.cells #[.string x.name, .bool x.keep, .bool x.leaf, .slice xa1 n1 xc1, .slice xa2 n2 xc2] 36)).alloc (.cells #[.string y.name, .bool y.keep, .bool y.leaf, .slice ya1 n3 yc1, .slice ya2 n4 yc2] 36)) wr.heap.size [.string x.name, .bool x.keep, .bool x.leaf, .slice xa1 n1 xc1, .slice xa2 n2 xc2]) := (XAt.new wr _ _).later (by simp) (keep_alloc8 (Below.refl _ _) _)
        have XB : Hid (XAt ((wr.alloc (.cells #[.string x.name, .bool x.keep, .bool x.leaf, .slice xa1 n1 xc1, .slice xa2 n2 xc2] 36)).alloc (.cells #[.string y.name, .bool y.keep, .bool y.leaf, .slice ya1 n3 yc1, .slice ya2 n4 yc2] 36)) (wr.heap.size + 1) [.string y.name, .bool y.keep, .bool y.leaf, .slice ya1 n3 yc1, .slice ya2 n4 yc2]) := by
          have := XAt.new (wr.alloc (.cells #[.string x.name, .bool x.keep, .bool x.leaf, .slice xa1 n1 xc1, .slice xa2 n2 xc2] 36)) #[.string y.name, .bool y.keep, .bool y.leaf, .slice ya1 n3 yc1, .slice ya2 n4 yc2] 36
          rwa [World.size_alloc] at this
        clear hx hy
        go_upto_region 7 with fail
        generalize (wr.alloc (.cells #[.string x.name, .bool x.keep, .bool x.leaf, .slice xa1 n1 xc1, .slice xa2 n2 xc2] 36)).alloc (.cells #[.string y.name, .bool y.keep, .bool y.leaf, .slice ya1 n3 yc1, .slice ya2 n4 yc2] 36) = W2 at UP2 XA XB ⊢
        clear x0 x1 x2 x3 x4 y0 y1 y2 y3 y4
        have p0 := XA.out.1 0 _ rfl
        have p1 := XA.out.1 1 _ rfl
        have p2 := XA.out.1 2 _ rfl
        have p3 := XA.out.1 3 _ rfl
        have p4 := XA.out.1 4 _ rfl
        have q0 := XB.out.1 0 _ rfl
        have q1 := XB.out.1 1 _ rfl
        have q2 := XB.out.1 2 _ rfl
        have q3 := XB.out.1 3 _ rfl
        have q4 := XB.out.1 4 _ rfl
        by_cases e : x = y
        · have E : Hid (x = y) := e
          clear e
          go_wp2_with (go_at_call 31; refine (SM.out _ UP2.out).mono ?_; rintro e w1 ⟨hs1, b1⟩; obtain rfl := hs1.yes E.out; clear hs1)
          go_roundw
          case rel => exact ⟨k + 1, by omega, by go_num, same_next HS.out HX.out.1 HX.out.2 E.out, bnext UP2.out b1⟩
          case measure => simp [intOf]; omega
        · have E : Hid (¬ x = y) := e
          clear e
          go_wp2_with (go_at_call 31; refine (SM.out _ UP2.out).mono ?_; rintro e w1 ⟨hs1, b1⟩; obtain rfl := hs1.no E.out; clear hs1)
          go_ret
          exact ⟨says_of (iff_no (list_at_ne HX.out.1 HX.out.2 E.out)), bnext UP2.out b1⟩
      · obtain rfl : k = n := by omega
        go_wp2
        go_ret
        exact ⟨says_of (iff_yes (list_upto HN.out.1 HN.out.2.1 HS.out)), HB.out⟩
  · have ne : ((n : Int) != (m.length : Int)) = true := by simp; omega
    have E : Hid (¬ l = m) := list_len_ne (by omega)
    clear lx mx
    go_enter Tryz.func30, Tryz.ntmps30
    go_wp2
    go_ret
    exact ⟨says_of (iff_no E.out), Below.refl _ _⟩
set_option maxRecDepth 100000 in
set_option maxHeartbeats 4000000 in
theorem eqf_datas {A A' : Nat → Prop} {w : World} {v v' : Value} {l m : List PDataM} (h1 : IsPDs A w v l) (h2 : IsPDs A' w v' m) :
    Calls Tryz.prog 32 #[v, v', .func (.func 33) #[] #[]] w fun e w' => Says e (l = m) ∧ Below w.heap.size w w' := by
  obtain ⟨a, c, rfl, lm, -, lx⟩ := LstA.open h1
  obtain ⟨b, d, rfl, mm, -, mx⟩ := LstA.open h2
  obtain ⟨n, en⟩ : ∃ n, l.length = n := ⟨_, rfl⟩
  rw [en] at lm lx ⊢
  clear h1 h2
  by_cases hlen : m.length = n
  · rw [hlen] at mm mx ⊢
    have LX : Hid (∀ k, k < n → ∃ b off x, a = some ⟨b, off, none⟩ ∧ A b ∧ l[k]? = some x ∧ PDAt A w b (off + k * 5) x) := lx
    have MX : Hid (∀ k, k < n → ∃ c off x, b = some ⟨c, off, none⟩ ∧ A' c ∧ m[k]? = some x ∧ PDAt A' w c (off + k * 5) x) := mx
    have HN : Hid (l.length = n ∧ m.length = n ∧ n ≤ maxLen) := ⟨en, hlen, lm⟩
    have hn : (n : Int) ≤ 9223372036854775807 := by unfold maxLen at lm; omega
    clear lx mx en hlen lm mm
    go_enter Tryz.func32, Tryz.ntmps32
    go_wp2
    go_loopw [17] (fun i wr => ∃ k : Nat, k ≤ n ∧ i = .int .i64 k ∧ (∀ j, j < k → l[j]? = m[j]?) ∧ Below w.heap.size w wr) (fun i _ => n - (intOf i).toNat)
    case atStart => exact ⟨0, Nat.zero_le _, rfl, (fun j hj => by omega), Below.refl _ _⟩
    case round =>
      obtain ⟨k, hk, rfl, hs, hbel⟩ := hrel
      have HB : Hid (Below w.heap.size w wr) := hbel
      have HS : Hid (∀ j, j < k → l[j]? = m[j]?) := hs
      clear hbel hs
      by_cases hlt : k < n
      · have hlt' : (k : Int) < n := by omega
        obtain ⟨q, off, x, rfl, -, hx, xc, xr, x0, x1, x2, x3, x4, x5, x6⟩ := LX.out k hlt
        obtain ⟨q', off', y, rfl, -, hy, yc, yr, y0, y1, y2, y3, y4, y5, y6⟩ := MX.out k hlt
        have HX : Hid (l[k]? = some x ∧ m[k]? = some y) := ⟨hx, hy⟩
        have SM : Hid (∀ W, Below w.heap.size w W → Calls Tryz.prog 33 #[.agg #[.int .i64 x.align, .bool x.fixed, .int .i64 x.size, xc, xr], .agg #[.int .i64 y.align, .bool y.fixed, .int .i64 y.size, yc, yr]] W fun e w' => Says e (x = y) ∧ Below W.heap.size W w') := fun W hW => csamedata_any ⟨xc, xr, rfl, x5.keep (Stay.of_below hW), x6.keep (Stay.of_below hW)⟩ ⟨yc, yr, rfl, y5.keep (Stay.of_below hW), y6.keep (Stay.of_below hW)⟩
        obtain ⟨xa1, xc1, rfl, -⟩ := x5.1
        obtain ⟨xa2, xc2, rfl, -⟩ := x6
        obtain ⟨ya1, yc1, rfl, -⟩ := y5.1
        obtain ⟨ya2, yc2, rfl, -⟩ := y6
        replace x0 := cell_any x0 HB.out
        replace x1 := cell_any x1 HB.out
        replace x2 := cell_any x2 HB.out
        replace x3 := cell_any x3 HB.out
        replace x4 := cell_any x4 HB.out
        generalize x.bytes.length = n1 at SM x3
        generalize x.rels.length = n2 at SM x4
        generalize y.bytes.length = n3 at SM y3
        generalize y.rels.length = n4 at SM y4
        replace y0 := cell_any y0 (keep_alloc8 HB.out (.cells #[.int .i64 x.align, .bool x.fixed, .int .i64 x.size, .slice xa1 n1 xc1, .slice xa2 n2 xc2] 41))
        replace y1 := cell_any y1 (keep_alloc8 HB.out (.cells #[.int .i64 x.align, .bool x.fixed, .int .i64 x.size, .slice xa1 n1 xc1, .slice xa2 n2 xc2] 41))
        replace y2 := cell_any y2 (keep_alloc8 HB.out (.cells #[.int .i64 x.align, .bool x.fixed, .int .i64 x.size, .slice xa1 n1 xc1, .slice xa2 n2 xc2] 41))
        replace y3 := cell_any y3 (keep_alloc8 HB.out (.cells #[.int .i64 x.align, .bool x.fixed, .int .i64 x.size, .slice xa1 n1 xc1, .slice xa2 n2 xc2] 41))
        replace y4 := cell_any y4 (keep_alloc8 HB.out (.cells #[.int .i64 x.align, .bool x.fixed, .int .i64 x.size, .slice xa1 n1 xc1, .slice xa2 n2 xc2] 41))
        have UP2 : Hid (Below w.heap.size w ((wr.alloc (.cells #[.int .i64 x.align, .bool x.fixed, .int .i64 x.size, .slice xa1 n1 xc1, .slice xa2 n2 xc2] 41)).alloc (.cells #[.int .i64 y.align, .bool y.fixed, .int .i64 y.size, .slice ya1 n3 yc1, .slice ya2 n4 yc2] 41))) := keep_alloc8 (keep_alloc8 HB.out _) _
        have XA : Hid (XAt ((wr.alloc (.cells #[.int .i64 x.align, .bool x.fixed, .int .i64 x.size, .slice xa1 n1 xc1, .slice xa2 n2 xc2] 41)).alloc (.cells #[.int .i64 y.align, .bool y.fixed, .int .i64 y.size, .slice ya1 n3 yc1, .slice ya2 n4 yc2] 41)) wr.heap.size [.int .i64 x.align, .bool x.fixed, .int .i64 x.size, .slice xa1 n1 xc1, .slice xa2 n2 xc2]) := (XAt.new wr _ _).later (by simp) (keep_alloc8 (Below.refl _ _) _)
        have XB : Hid (XAt ((wr.alloc (.cells #[.int .i64 x.align, .bool x.fixed, .int .i64 x.size, .slice xa1 n1 xc1, .slice xa2 n2 xc2] 41)).alloc (.cells #[.int .i64 y.align, .bool y.fixed, .int .i64 y.size, .slice ya1 n3 yc1, .slice ya2 n4 yc2] 41)) (wr.heap.size + 1) [.int .i64 y.align, .bool y.fixed, .int .i64 y.size, .slice ya1 n3 yc1, .slice ya2 n4 yc2]) := by
          have := XAt.new (wr.alloc (.cells #[.int .i64 x.align, .bool x.fixed, .int .i64 x.size, .slice xa1 n1 xc1, .slice xa2 n2 xc2] 41)) #[.int .i64 y.align, .bool y.fixed, .int .i64 y.size, .slice ya1 n3 yc1, .slice ya2 n4 yc2] 41
          rwa [World.size_alloc] at this
        clear hx hy
        go_upto_region 7 with fail
        generalize (wr.alloc (.cells #[.int .i64 x.align, .bool x.fixed, .int .i64 x.size, .slice xa1 n1 xc1, .slice xa2 n2 xc2] 41)).alloc (.cells #[.int .i64 y.align, .bool y.fixed, .int .i64 y.size, .slice ya1 n3 yc1, .slice ya2 n4 yc2] 41) = W2 at UP2 XA XB ⊢
        clear x0 x1 x2 x3 x4 y0 y1 y2 y3 y4
        have p0 := XA.out.1 0 _ rfl
        have p1 := XA.out.1 1 _ rfl
        have p2 := XA.out.1 2 _ rfl
        have p3 := XA.out.1 3 _ rfl
        have p4 := XA.out.1 4 _ rfl
        have q0 := XB.out.1 0 _ rfl
        have q1 := XB.out.1 1 _ rfl
        have q2 := XB.out.1 2 _ rfl
        have q3 := XB.out.1 3 _ rfl
        have q4 := XB.out.1 4 _ rfl
        by_cases e : x = y
        · have E : Hid (x = y) := e
          clear e
          go_wp2_with (go_at_call 33; refine (SM.out _ UP2.out).mono ?_; rintro e w1 ⟨hs1, b1⟩; obtain rfl := hs1.yes E.out; clear hs1)
          go_roundw
          case rel => exact ⟨k + 1, by omega, by go_num, same_next HS.out HX.out.1 HX.out.2 E.out, bnext UP2.out b1⟩
          case measure => simp [intOf]; omega
        · have E : Hid (¬ x = y) := e
          clear e
          go_wp2_with (go_at_call 33; refine (SM.out _ UP2.out).mono ?_; rintro e w1 ⟨hs1, b1⟩; obtain rfl := hs1.no E.out; clear hs1)
          go_ret
          exact ⟨says_of (iff_no (list_at_ne HX.out.1 HX.out.2 E.out)), bnext UP2.out b1⟩
      · obtain rfl : k = n := by omega
        go_wp2
        go_ret
        exact ⟨says_of (iff_yes (list_upto HN.out.1 HN.out.2.1 HS.out)), HB.out⟩
  · have ne : ((n : Int) != (m.length : Int)) = true := by simp; omega
    have E : Hid (¬ l = m) := list_len_ne (by omega)
    clear lx mx
    go_enter Tryz.func32, Tryz.ntmps32
    go_wp2
    go_ret
    exact ⟨says_of (iff_no E.out), Below.refl _ _⟩
set_option maxRecDepth 100000 in
set_option maxHeartbeats 4000000 in
theorem same11_any {A A' : Nat → Prop} {w : World} {u v : Value} {p q : ProgM} (h1 : IsProg A w u p) (h2 : IsProg A' w v q) : Calls Tryz.prog 14 #[u, v] w fun e w' => Says e (p = q) ∧ Below w.heap.size w w' := by
  obtain ⟨vf, vd, rfl, hf, hd⟩ := h1
  obtain ⟨uf, ud, rfl, kf, kd⟩ := h2
  have FC : Hid (∀ W, Below w.heap.size w W → Calls Tryz.prog 30 #[vf, uf, .func (.func 31) #[] #[]] W fun e w' => Says e (p.funcs = q.funcs) ∧ Below W.heap.size W w') := fun W hW => eqf_funcs (hf.keep (Stay.of_below hW)) (kf.keep (Stay.of_below hW))
  have DC : Hid (∀ W, Below w.heap.size w W → Calls Tryz.prog 32 #[vd, ud, .func (.func 33) #[] #[]] W fun e w' => Says e (p.datas = q.datas) ∧ Below W.heap.size W w') := fun W hW => eqf_datas (hd.keep (Stay.of_below hW)) (kd.keep (Stay.of_below hW))
  obtain ⟨a1, c1, rfl, -⟩ := hf
  obtain ⟨a2, c2, rfl, -⟩ := hd
  obtain ⟨a3, c3, rfl, -⟩ := kf
  obtain ⟨a4, c4, rfl, -⟩ := kd
  obtain ⟨pf, pd, pe⟩ := p
  obtain ⟨qf, qd, qe⟩ := q
  dsimp only at *
  generalize pf.length = n1 at FC
  generalize pd.length = n2 at DC
  generalize qf.length = n3 at FC
  generalize qd.length = n4 at DC
  have UP : Hid (Below w.heap.size w ((w.alloc (.cells #[.slice a1 n1 c1, .slice a2 n2 c2, .int .i64 pe] 28)).alloc (.cells #[.slice a3 n3 c3, .slice a4 n4 c4, .int .i64 qe] 28))) := keep_alloc8 (keep_alloc8 (Below.refl _ _) _) _
  have XA : Hid (XAt ((w.alloc (.cells #[.slice a1 n1 c1, .slice a2 n2 c2, .int .i64 pe] 28)).alloc (.cells #[.slice a3 n3 c3, .slice a4 n4 c4, .int .i64 qe] 28)) w.heap.size [.slice a1 n1 c1, .slice a2 n2 c2, .int .i64 pe]) := (XAt.new w _ _).later (by simp) (keep_alloc8 (Below.refl _ _) _)
  have XB : Hid (XAt ((w.alloc (.cells #[.slice a1 n1 c1, .slice a2 n2 c2, .int .i64 pe] 28)).alloc (.cells #[.slice a3 n3 c3, .slice a4 n4 c4, .int .i64 qe] 28)) (w.heap.size + 1) [.slice a3 n3 c3, .slice a4 n4 c4, .int .i64 qe]) := by
    have := XAt.new (w.alloc (.cells #[.slice a1 n1 c1, .slice a2 n2 c2, .int .i64 pe] 28)) #[.slice a3 n3 c3, .slice a4 n4 c4, .int .i64 qe] 28
    rwa [World.size_alloc] at this
  go_enter Tryz.func14, Tryz.ntmps14
  go_upto_region 1 with fail
  generalize ((w.alloc (.cells #[.slice a1 n1 c1, .slice a2 n2 c2, .int .i64 pe] 28)).alloc (.cells #[.slice a3 n3 c3, .slice a4 n4 c4, .int .i64 qe] 28)) = w0 at UP XA XB ⊢
  have ha : Hid (w.heap.size < w0.heap.size) := XA.out.lt (by simp)
  have hb : Hid (w.heap.size + 1 < w0.heap.size) := XB.out.lt (by simp)
  have p0 := XA.out.1 0 _ rfl
  have q0 := XB.out.1 0 _ rfl
  have p1 := XA.out.1 1 _ rfl
  have q1 := XB.out.1 1 _ rfl
  have p2 := XA.out.1 2 _ rfl
  have q2 := XB.out.1 2 _ rfl
  by_cases e2 : pe = qe
  rotate_left
  · have g2 : (pe == qe) = false := by simpa using e2
    have E : Hid (¬ (⟨pf, pd, pe⟩ : ProgM) = ⟨qf, qd, qe⟩) := fun h => e2 (by simp only [ProgM.mk.injEq] at h; exact h.2.2)
    clear e2
    go_wp2
    go_ret
    exact ⟨⟨_, rfl, iff_no E.out⟩, UP.out⟩
  subst e2
  have g2 : (pe == pe) = true := by simp
  by_cases e3 : pf = qf
  rotate_left
  · have E3 : Hid (¬ pf = qf) := e3
    have E : Hid (¬ (⟨pf, pd, pe⟩ : ProgM) = ⟨qf, qd, pe⟩) := fun h => E3.out (by simp only [ProgM.mk.injEq] at h; exact h.1)
    clear e3
    go_wp2_with (go_at_call 30; refine (FC.out _ UP.out).mono ?_; rintro e w1 ⟨hs1, b1⟩; obtain rfl := hs1.no E3.out; clear hs1)
    go_ret
    exact ⟨⟨_, rfl, iff_no E.out⟩, bnext UP.out b1⟩
  subst e3
  by_cases e4 : pd = qd
  rotate_left
  · have E4 : Hid (¬ pd = qd) := e4
    have E : Hid (¬ (⟨pf, pd, pe⟩ : ProgM) = ⟨pf, qd, pe⟩) := fun h => E4.out (by simp only [ProgM.mk.injEq] at h; exact h.2.1)
    clear e4
    go_wp2_with (first
      | (go_at_call 32; refine (DC.out _ (bnext UP.out b1)).mono ?_; rintro e w2 ⟨hs2, b2⟩; obtain rfl := hs2.no E4.out; clear hs2)
      | (go_at_call 30; refine (FC.out _ UP.out).mono ?_; rintro e w1 ⟨hs1, b1⟩; obtain rfl := hs1.yes (by first | rfl | trivial); clear hs1; clear p1 q1; have p1 := (XA.out.later ha.out b1).1 1 _ rfl; have q1 := (XB.out.later hb.out b1).1 1 _ rfl))
    go_ret
    exact ⟨⟨_, rfl, iff_no E.out⟩, bnext UP.out (bnext b1 b2)⟩
  subst e4
  go_wp2_with (first
    | (go_at_call 32; refine (DC.out _ (bnext UP.out b1)).mono ?_; rintro e w2 ⟨hs2, b2⟩; obtain rfl := hs2.yes (by first | rfl | trivial); clear hs2)
    | (go_at_call 30; refine (FC.out _ UP.out).mono ?_; rintro e w1 ⟨hs1, b1⟩; obtain rfl := hs1.yes (by first | rfl | trivial); clear hs1; clear p1 q1; have p1 := (XA.out.later ha.out b1).1 1 _ rfl; have q1 := (XB.out.later hb.out b1).1 1 _ rfl))
  go_ret
  exact ⟨⟨_, rfl, iff_yes (by first | rfl | trivial)⟩, bnext UP.out (bnext b1 b2)⟩
end Go.Proofs.YteakbpcmafdikaaGreatDoor
