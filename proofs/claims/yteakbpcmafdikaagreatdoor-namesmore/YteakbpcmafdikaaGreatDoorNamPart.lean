/- A function and data as a program has them. No condition. -/
import Derived.Test.YteakbpcmafdikaaGreatDoorNmMean
namespace Go.Proofs.YteakbpcmafdikaaGreatDoor
open Go.ChangeShapes Go.WideShapes Go.ChangeAt Go.RowKit Go.Maps
set_option linter.unusedVariables false
set_option linter.unusedSimpArgs false
/-! ### Copies -/
theorem infoU32 : (Tryz.prog.info? 53).map (fun i => (i.zero, i.size, i.bytes)) = some (some (.int .u32 0), 1, 4) := by kernel_rfl
theorem infoU8 : (Tryz.prog.info? 5).map (fun i => (i.zero, i.size, i.bytes)) = some (some (.int .u8 0), 1, 1) := by kernel_rfl
theorem num_cells {k : IntKind} {A : Nat → Prop} {w : World} {v : Value} {l : List Int} (h : LstA 1 (NumAt k w) A v l) : ∃ a c, v = .slice a l.length c ∧ (a = none → l.length = 0 ∧ c = 0) ∧ ∀ ad, a = some ad → ∀ j u, (l.map fun x => Value.int k x)[j]? = some u → w.cell? (ad.add j) = some u := by
  obtain ⟨a, c, rfl, hh, hA, hl⟩ := h
  refine ⟨a, c, rfl, head_nil hh.1, fun ad ha j u hu => ?_⟩
  rcases hl with rfl | ⟨b, off, e, hc⟩
  · simp at hu
  · rw [e] at ha
    cases ha
    rw [List.getElem?_map, Option.map_eq_some_iff] at hu
    obtain ⟨x, hx, rfl⟩ := hu
    rw [addr_add11]
    have := hc j x hx
    rwa [Nat.mul_one] at this
theorem num_one (k : IntKind) (l : List Int) : ∀ u ∈ (l.map fun x => Value.int k x), u.oneCell' = true := fun u hu => by
  obtain ⟨x, -, rfl⟩ := List.mem_map.1 hu
  rfl
set_option maxRecDepth 100000 in
theorem copied_words {A : Nat → Prop} {w : World} {v : Value} {l : List Int} (h : IsWords A w v l) (hl : l.length ≤ 100000) :
    Calls Tryz.prog 61 #[v] w fun e w' => (∃ v', e = .returned v' ∧ w'.ownsRow w.heap.size 53 1 v' l.length (l.map fun x => .int .u32 x)) ∧ Below w.heap.size w w' := by
  obtain ⟨a, c, rfl, hn, hc⟩ := num_cells h.1
  obtain ⟨i0, hi, hiz, hsz, hby⟩ := info_parts infoU32
  have HC : Hid (∀ ad, a = some ad → ∀ j u, (l.map fun x => Value.int .u32 x)[j]? = some u → w.cell? (ad.add j) = some u) := hc
  have HN : Hid (a = none → l.length = 0 ∧ c = 0) := hn
  have IF : Hid (Tryz.prog.info? 53 = some i0 ∧ i0.zero = some (.int .u32 0) ∧ i0.size = 1 ∧ i0.bytes = 4) := ⟨hi, hiz, hsz, hby⟩
  have LL : Hid (0 + l.length ≤ maxLen ∧ (0 + l.length) * 4 ≤ 140737488355328) := ⟨by unfold maxLen; omega, by omega⟩
  have LM : Hid ((l.map fun x => Value.int .u32 x).length = l.length * 1) := by simp [Hid]
  clear h hn hc hi hiz hsz hby
  go_enter Tryz.func61, Tryz.ntmps61
  go_wp2_with (at_builtin; refine wpList_append_all _ (by rfl) (.const (.slice none 0 0)) (.tmp 3) 33 (by rfl) w.heap.size 53 i0 _ 1 4 Tryz.underlying33 IF.out.1 IF.out.2.1 IF.out.2.2.1 IF.out.2.2.2 rfl (by decide) (.slice none 0 0) 0 [] (by rfl) (World.ownsRow_nil _ _ _ _) a l.length c (l.map fun x => .int .u32 x) (by rfl) LM.out HN.out HC.out (num_one _ _) LL.out.1 LL.out.2 (Nat.le_refl _) ?_; intro a1 c1 w1 own1 gr1)
  go_ret
  refine ⟨⟨_, rfl, ?_⟩, (Below.refl _ _).grown gr1 (Nat.le_refl _) fun q hq => by cases hq⟩
  rw [Nat.zero_add, List.nil_append] at own1
  exact own1
set_option maxRecDepth 100000 in
theorem copied_bytes {A : Nat → Prop} {w : World} {v : Value} {l : List Int} (h : IsBytes A w v l) (hl : l.length ≤ 100000) :
    Calls Tryz.prog 62 #[v] w fun e w' => (∃ v', e = .returned v' ∧ w'.ownsRow w.heap.size 5 1 v' l.length (l.map fun x => .int .u8 x)) ∧ Below w.heap.size w w' := by
  obtain ⟨a, c, rfl, hn, hc⟩ := num_cells h.1
  obtain ⟨i0, hi, hiz, hsz, hby⟩ := info_parts infoU8
  have HC : Hid (∀ ad, a = some ad → ∀ j u, (l.map fun x => Value.int .u8 x)[j]? = some u → w.cell? (ad.add j) = some u) := hc
  have HN : Hid (a = none → l.length = 0 ∧ c = 0) := hn
  have IF : Hid (Tryz.prog.info? 5 = some i0 ∧ i0.zero = some (.int .u8 0) ∧ i0.size = 1 ∧ i0.bytes = 1) := ⟨hi, hiz, hsz, hby⟩
  have LL : Hid (0 + l.length ≤ maxLen ∧ (0 + l.length) * 1 ≤ 140737488355328) := ⟨by unfold maxLen; omega, by omega⟩
  have LM : Hid ((l.map fun x => Value.int .u8 x).length = l.length * 1) := by simp [Hid]
  clear h hn hc hi hiz hsz hby
  go_enter Tryz.func62, Tryz.ntmps62
  go_wp2_with (at_builtin; refine wpList_append_all _ (by rfl) (.const (.slice none 0 0)) (.tmp 3) 39 (by rfl) w.heap.size 5 i0 _ 1 1 Tryz.underlying39 IF.out.1 IF.out.2.1 IF.out.2.2.1 IF.out.2.2.2 rfl (by decide) (.slice none 0 0) 0 [] (by rfl) (World.ownsRow_nil _ _ _ _) a l.length c (l.map fun x => .int .u8 x) (by rfl) LM.out HN.out HC.out (num_one _ _) LL.out.1 LL.out.2 (Nat.le_refl _) ?_; intro a1 c1 w1 own1 gr1)
  go_ret
  refine ⟨⟨_, rfl, ?_⟩, (Below.refl _ _).grown gr1 (Nat.le_refl _) fun q hq => by cases hq⟩
  rw [Nat.zero_add, List.nil_append] at own1
  exact own1
/-! ### What is said of a function -/
theorem eql_note (w : World) (r q : NoteM) (b : Bool) (h : b = true ↔ r = q) : (binOp .eql 87 (.agg #[.string r.name, .int .i64 r.kind]) (.agg #[.string q.name, .int .i64 q.kind])).run Tryz.prog w = .ok (.bool b) w := by
  have hb : b = ((r.name.toList == q.name.toList) && decide (r.kind = q.kind)) := by
    rw [Bool.eq_iff_iff, h, Bool.and_eq_true, decide_eq_true_eq, str_beq]
    cases r; cases q
    simp
  rw [hb]
  simp [go_sem, Tryz.underlying87, Tryz.underlying3, Tryz.underlying9]
  repeat' split
  all_goals simp_all
set_option maxRecDepth 100000 in
set_option maxHeartbeats 2000000 in
theorem index_note {A : Nat → Prop} {w : World} {v : Value} {l : List NoteM} (name : ByteArray) (kind : Int) (h : IsNotes A w v l) (hl : l.length ≤ 100000) :
    Calls Tryz.prog 70 #[v, .agg #[.string name, .int .i64 kind]] w fun e w' => (∃ r : Int, e = .returned (.int .i64 r) ∧ (r ≥ 0 ↔ l.any (fun n => decide (n.name = name ∧ n.kind = kind)) = true)) ∧ Below w.heap.size w w' := by
  obtain ⟨a, c, rfl, -, -, lx⟩ := LstA.open h
  obtain ⟨n, en⟩ : ∃ n, l.length = n := ⟨_, rfl⟩
  rw [en] at hl lx ⊢
  have LX : Hid (∀ k, k < n → ∃ b off x, a = some ⟨b, off, none⟩ ∧ A b ∧ l[k]? = some x ∧ NoteAt w b (off + k * 2) x) := lx
  have HN : Hid (l.length = n) := en
  have hn : (n : Int) ≤ 100000 := by omega
  clear h lx en
  have UP : Hid (Below w.heap.size w (w.alloc (.cells #[.string name, .int .i64 kind] 87))) := keep_alloc8 (Below.refl _ _) _
  have X1 : Hid (XAt (w.alloc (.cells #[.string name, .int .i64 kind] 87)) w.heap.size [.string name, .int .i64 kind]) := XAt.new _ _ _
  go_enter Tryz.func70, Tryz.ntmps70
  go_upto_region 1 with fail
  generalize w.alloc (.cells #[.string name, .int .i64 kind] 87) = w0 at UP X1 ⊢
  have hX : Hid (w.heap.size < w0.heap.size) := X1.out.lt (by simp)
  go_wp2
  go_loopw [8] (fun i wr => ∃ k : Nat, k ≤ n ∧ i = .int .i64 k ∧ (l.take k).any (fun n => decide (n.name = name ∧ n.kind = kind)) = false ∧ Below w0.heap.size w0 wr) (fun i _ => n - (intOf i).toNat)
  case atStart => exact ⟨0, Nat.zero_le _, rfl, rfl, Below.refl _ _⟩
  case round =>
    obtain ⟨k, hk, rfl, hs, hbel⟩ := hrel
    have HB : Hid (Below w0.heap.size w0 wr) := hbel
    have HS : Hid ((l.take k).any (fun n => decide (n.name = name ∧ n.kind = kind)) = false) := hs
    have y0 := (X1.out.later hX.out HB.out).1 0 _ rfl
    have y1 := (X1.out.later hX.out HB.out).1 1 _ rfl
    clear hbel hs
    by_cases hlt : k < n
    · have hlt' : (k : Int) < n := by omega
      obtain ⟨q, off, ⟨xn, xk⟩, rfl, -, hx, x0, x1, -⟩ := LX.out k hlt
      dsimp only at x0 x1
      have HX : Hid (l[k]? = some ⟨xn, xk⟩) := hx
      replace x0 := cell_any x0 (bnext UP.out HB.out)
      replace x1 := cell_any x1 (bnext UP.out HB.out)
      clear hx
      by_cases h1 : xn = name ∧ xk = kind
      · have eq : ∀ W, (binOp .eql 87 (.agg #[.string name, .int .i64 kind]) (.agg #[.string xn, .int .i64 xk])).run Tryz.prog W = .ok (.bool true) W := fun W => eql_note W ⟨name, kind⟩ ⟨xn, xk⟩ true ⟨fun _ => by rw [h1.1, h1.2], fun _ => rfl⟩
        have E : Hid (l.any (fun n => decide (n.name = name ∧ n.kind = kind)) = true) := List.any_eq_true.2 ⟨_, List.mem_of_getElem? HX.out, by simpa using h1⟩
        clear h1
        go_upto_region 4 with fail
        go_quiet (fail)
        go_wp2
        go_ret
        exact ⟨⟨_, rfl, ⟨fun _ => E.out, fun _ => by omega⟩⟩, below_drewN (bnext UP.out HB.out) _⟩
      · have eq : ∀ W, (binOp .eql 87 (.agg #[.string name, .int .i64 kind]) (.agg #[.string xn, .int .i64 xk])).run Tryz.prog W = .ok (.bool false) W := fun W => eql_note W ⟨name, kind⟩ ⟨xn, xk⟩ false ⟨(fun h => by cases h), fun h => absurd (by cases h; exact ⟨rfl, rfl⟩) h1⟩
        have N1 : Hid ((l.take (k + 1)).any (fun n => decide (n.name = name ∧ n.kind = kind)) = false) := by
          unfold Hid
          rw [any_next HX.out, HS.out]
          simpa using fun e e2 => h1 ⟨e, e2⟩
        clear h1
        go_upto_region 4 with fail
        go_quiet (fail)
        go_wp2
        go_roundw
        case rel => exact ⟨k + 1, by omega, by go_num, N1.out, below_drewN HB.out _⟩
        case measure => simp [intOf]; omega
    · obtain rfl : k = n := by omega
      have E : Hid (l.any (fun n => decide (n.name = name ∧ n.kind = kind)) = false) := by have h := HS.out; rwa [← HN.out, List.take_length] at h
      go_wp2
      go_ret
      exact ⟨⟨_, rfl, ⟨fun h => absurd h (by omega), fun h => by rw [E.out] at h; cases h⟩⟩, bnext UP.out HB.out⟩
set_option maxRecDepth 100000 in
set_option maxHeartbeats 1000000 in
theorem contains_note {A : Nat → Prop} {w : World} {v : Value} {l : List NoteM} (name : ByteArray) (kind : Int) (h : IsNotes A w v l) (hl : l.length ≤ 100000) :
    Calls Tryz.prog 60 #[v, .agg #[.string name, .int .i64 kind]] w fun e w' => e = .returned (.bool (l.any (fun n => decide (n.name = name ∧ n.kind = kind)))) ∧ Below w.heap.size w w' := by
  have IX : Hid (∀ W, Below w.heap.size w W → Calls Tryz.prog 70 #[v, .agg #[.string name, .int .i64 kind]] W fun e w' => (∃ r : Int, e = .returned (.int .i64 r) ∧ (r ≥ 0 ↔ l.any (fun n => decide (n.name = name ∧ n.kind = kind)) = true)) ∧ Below W.heap.size W w') := fun W hW => index_note name kind (h.keep (Stay.of_below hW)) hl
  obtain ⟨a, c, rfl, -, -, -⟩ := LstA.open h
  obtain ⟨C, eC⟩ : ∃ C, l.any (fun n => decide (n.name = name ∧ n.kind = kind)) = C := ⟨_, rfl⟩
  rw [eC] at IX ⊢
  generalize l.length = n at IX
  have UP : Hid (Below w.heap.size w (w.alloc (.cells #[.string name, .int .i64 kind] 87))) := keep_alloc8 (Below.refl _ _) _
  clear h hl eC
  go_enter Tryz.func60, Tryz.ntmps60
  go_wp2_with (go_at_call 70; refine (IX.out _ UP.out).mono ?_; rintro e w1 ⟨⟨r, rfl, hr⟩, b1⟩; have HR : Hid (r ≥ 0 ↔ C = true) := hr; clear hr)
  all_goals
    go_ret
    refine ⟨?_, bnext UP.out b1⟩
    have hr := HR.out
    congr 2
    cases C <;> simp_all
set_option maxRecDepth 100000 in
set_option maxHeartbeats 1000000 in
theorem said_cl {A : Nat → Prop} {w : World} {l : List NoteM} {na : Option Addr} {nc bn bf : Nat} {name : ByteArray} {bd : Int} {vc vr : Value} (kind : Int) (h : IsNotes A w (.slice na l.length nc) l) (hl : l.length ≤ 100000)
    (hn : XAt w bn [.slice na l.length nc]) (hf : XAt w bf [.string name, .int .i64 bd, vc, vr]) :
    Calls Tryz.prog 59 #[.int .i64 kind, .pointer (some ⟨bn, 0, none⟩), .pointer (some ⟨bf, 0, none⟩)] w fun e w' => e = .returned (.bool (l.any (fun n => decide (n.name = name ∧ n.kind = kind)))) ∧ Below w.heap.size w w' := by
  have CT : Hid (Calls Tryz.prog 60 #[.slice na l.length nc, .agg #[.string name, .int .i64 kind]] w fun e w' => e = .returned (.bool (l.any (fun n => decide (n.name = name ∧ n.kind = kind)))) ∧ Below w.heap.size w w') := contains_note name kind h hl
  have n0 := hn.1 0 _ rfl
  have f0 := hf.1 0 _ rfl
  generalize l.any (fun n => decide (n.name = name ∧ n.kind = kind)) = C at CT ⊢
  generalize l.length = n at CT n0
  clear h hl hn hf
  go_enter Tryz.func59, Tryz.ntmps59
  go_wp2_with (go_at_call 60; refine CT.out.mono ?_; rintro e w1 ⟨rfl, b1⟩)
  go_ret
  exact ⟨rfl, b1⟩
set_option maxRecDepth 100000 in
set_option maxHeartbeats 4000000 in
theorem function_any {A : Nat → Prop} {w : World} {o : ObjM} {vn vc vr : Value} {f : FuncM} {ra : Option Addr} {rn rc : Nat} (hn : IsNotes A w vn o.notes) (hl : o.notes.length ≤ 100000) (hc : IsWords A w vc f.code) (hlc : f.code.length ≤ 100000) (hr : ∃ a n c, vr = .slice a n c) :
    Calls Tryz.prog 42 #[vn, .agg #[.string f.name, .int .i64 f.bind, vc, vr], .slice ra rn rc] w fun e w' => (∃ v', e = .returned (.agg #[.string f.name, .bool (saidZ o f.name 1), .bool (saidZ o f.name 2), v', .slice ra rn rc]) ∧ w'.ownsRow w.heap.size 53 1 v' f.code.length (f.code.map fun x => .int .u32 x)) ∧ Below w.heap.size w w' := by
  obtain ⟨fn, fb, fcode, frels⟩ := f
  dsimp only at hc hlc ⊢
  obtain ⟨na, nc, rfl, -, -, -⟩ := LstA.open hn
  obtain ⟨xa, xn, xc, rfl⟩ := hr
  obtain ⟨ca, cc, rfl, -⟩ := id hc.1
  have CP : Hid (∀ W, Below w.heap.size w W → Calls Tryz.prog 61 #[.slice ca fcode.length cc] W fun e w' => (∃ v', e = .returned v' ∧ w'.ownsRow W.heap.size 53 1 v' fcode.length (fcode.map fun x => .int .u32 x)) ∧ Below W.heap.size W w') := fun W hW => copied_words (hc.keep (Stay.of_below hW)) hlc
  have SD : Hid (∀ W (kind : Int), Below w.heap.size w W → XAt W w.heap.size [.slice na o.notes.length nc] → XAt W (w.heap.size + 1) [.string fn, .int .i64 fb, .slice ca fcode.length cc, .slice xa xn xc] → Calls Tryz.prog 59 #[.int .i64 kind, .pointer (some ⟨w.heap.size, 0, none⟩), .pointer (some ⟨w.heap.size + 1, 0, none⟩)] W fun e w' => e = .returned (.bool (saidZ o fn kind)) ∧ Below W.heap.size W w') := fun W kind hW h1 h2 => said_cl kind (hn.keep (Stay.of_below hW)) hl h1 h2
  generalize o.notes.length = n at SD
  obtain ⟨s1, es1⟩ : ∃ s1, saidZ o fn 1 = s1 := ⟨_, rfl⟩
  obtain ⟨s2, es2⟩ : ∃ s2, saidZ o fn 2 = s2 := ⟨_, rfl⟩
  have SD1 := (show Hid _ from fun W => SD.out W 1)
  have SD2 := (show Hid _ from fun W => SD.out W 2)
  rw [es1] at SD1 ⊢
  rw [es2] at SD2 ⊢
  generalize fcode.length = m at CP SD1 SD2 ⊢
  generalize (fcode.map fun x => Value.int .u32 x) = cs at CP ⊢
  clear hn hl hc hlc SD es1 es2
  have UP : Hid (Below w.heap.size w (((w.alloc (.cells #[.slice na n nc] 44)).alloc (.cells #[.string fn, .int .i64 fb, .slice ca m cc, .slice xa xn xc] 50)).alloc (.cells #[.string ⟨#[]⟩, .bool false, .bool false, .slice none 0 0, .slice none 0 0] 36))) := keep_alloc8 (keep_alloc8 (keep_alloc8 (Below.refl _ _) _) _) _
  have XN : Hid (XAt (((w.alloc (.cells #[.slice na n nc] 44)).alloc (.cells #[.string fn, .int .i64 fb, .slice ca m cc, .slice xa xn xc] 50)).alloc (.cells #[.string ⟨#[]⟩, .bool false, .bool false, .slice none 0 0, .slice none 0 0] 36)) w.heap.size [.slice na n nc]) := (XAt.new w _ _).later (by simp) (keep_alloc8 (keep_alloc8 (Below.refl _ _) _) _)
  have XF : Hid (XAt (((w.alloc (.cells #[.slice na n nc] 44)).alloc (.cells #[.string fn, .int .i64 fb, .slice ca m cc, .slice xa xn xc] 50)).alloc (.cells #[.string ⟨#[]⟩, .bool false, .bool false, .slice none 0 0, .slice none 0 0] 36)) (w.heap.size + 1) [.string fn, .int .i64 fb, .slice ca m cc, .slice xa xn xc]) := by
    have := (XAt.new (w.alloc (.cells #[.slice na n nc] 44)) #[.string fn, .int .i64 fb, .slice ca m cc, .slice xa xn xc] 50).later (by simp) (keep_alloc8 (Below.refl _ _) (.cells #[.string ⟨#[]⟩, .bool false, .bool false, .slice none 0 0, .slice none 0 0] 36))
    rwa [World.size_alloc] at this
  have XP : Hid (XAt (((w.alloc (.cells #[.slice na n nc] 44)).alloc (.cells #[.string fn, .int .i64 fb, .slice ca m cc, .slice xa xn xc] 50)).alloc (.cells #[.string ⟨#[]⟩, .bool false, .bool false, .slice none 0 0, .slice none 0 0] 36)) (w.heap.size + 2) [.string ⟨#[]⟩, .bool false, .bool false, .slice none 0 0, .slice none 0 0]) := by
    have := XAt.new ((w.alloc (.cells #[.slice na n nc] 44)).alloc (.cells #[.string fn, .int .i64 fb, .slice ca m cc, .slice xa xn xc] 50)) #[.string ⟨#[]⟩, .bool false, .bool false, .slice none 0 0, .slice none 0 0] 36
    rwa [World.size_alloc, World.size_alloc] at this
  have SZ : Hid ((((w.alloc (.cells #[.slice na n nc] 44)).alloc (.cells #[.string fn, .int .i64 fb, .slice ca m cc, .slice xa xn xc] 50)).alloc (.cells #[.string ⟨#[]⟩, .bool false, .bool false, .slice none 0 0, .slice none 0 0] 36)).heap.size = w.heap.size + 3) := by unfold Hid; simp
  go_enter Tryz.func42, Tryz.ntmps42
  go_upto_region 2 with fail
  generalize ((w.alloc (.cells #[.slice na n nc] 44)).alloc (.cells #[.string fn, .int .i64 fb, .slice ca m cc, .slice xa xn xc] 50)).alloc (.cells #[.string ⟨#[]⟩, .bool false, .bool false, .slice none 0 0, .slice none 0 0] 36) = W1 at UP XN XF XP SZ ⊢
  have S1 : Hid (∀ W, (W.cell? ⟨w.heap.size + 1, 0, none⟩ = some (.string fn) ∧ W.cell? ⟨w.heap.size + 1, 2, none⟩ = some (.slice ca m cc) ∧ Below (w.heap.size + 2) W1 W) → Calls Tryz.prog 59 #[.int .i64 1, .pointer (some ⟨w.heap.size, 0, none⟩), .pointer (some ⟨w.heap.size + 1, 0, none⟩)] W fun e w' => e = .returned (.bool s1) ∧ Below W.heap.size W w') := fun W hS => SD1.out W (UP.out.trans (hS.2.2.mono (by omega))) (XN.out.keep (hS.2.2.block _ (by omega))) (XF.out.keep (hS.2.2.block _ (by omega)))
  have S2 : Hid (∀ W, (W.cell? ⟨w.heap.size + 1, 0, none⟩ = some (.string fn) ∧ W.cell? ⟨w.heap.size + 1, 2, none⟩ = some (.slice ca m cc) ∧ Below (w.heap.size + 2) W1 W) → Calls Tryz.prog 59 #[.int .i64 2, .pointer (some ⟨w.heap.size, 0, none⟩), .pointer (some ⟨w.heap.size + 1, 0, none⟩)] W fun e w' => e = .returned (.bool s2) ∧ Below W.heap.size W w') := fun W hS => SD2.out W (UP.out.trans (hS.2.2.mono (by omega))) (XN.out.keep (hS.2.2.block _ (by omega))) (XF.out.keep (hS.2.2.block _ (by omega)))
  have S3 : Hid (∀ W, (W.cell? ⟨w.heap.size + 1, 0, none⟩ = some (.string fn) ∧ W.cell? ⟨w.heap.size + 1, 2, none⟩ = some (.slice ca m cc) ∧ Below (w.heap.size + 2) W1 W) → Calls Tryz.prog 61 #[.slice ca m cc] W fun e w' => (∃ v', e = .returned v' ∧ w'.ownsRow W.heap.size 53 1 v' m cs) ∧ Below W.heap.size W w') := fun W hS => CP.out W (UP.out.trans (hS.2.2.mono (by omega)))
  have KS : Hid (∀ W W', (W.cell? ⟨w.heap.size + 1, 0, none⟩ = some (.string fn) ∧ W.cell? ⟨w.heap.size + 1, 2, none⟩ = some (.slice ca m cc) ∧ Below (w.heap.size + 2) W1 W) → Below W.heap.size W W' → (W'.cell? ⟨w.heap.size + 1, 0, none⟩ = some (.string fn) ∧ W'.cell? ⟨w.heap.size + 1, 2, none⟩ = some (.slice ca m cc) ∧ Below (w.heap.size + 2) W1 W')) := fun W W' h hb => ⟨cell_any h.1 hb, cell_any h.2.1 hb, h.2.2.trans (hb.mono (by have := h.2.2.size; have := SZ.out; omega))⟩
  have KT : Hid (∀ W i u, (W.cell? ⟨w.heap.size + 1, 0, none⟩ = some (.string fn) ∧ W.cell? ⟨w.heap.size + 1, 2, none⟩ = some (.slice ca m cc) ∧ Below (w.heap.size + 2) W1 W) → ((W.setCell ⟨w.heap.size + 2, i, none⟩ u).cell? ⟨w.heap.size + 1, 0, none⟩ = some (.string fn) ∧ (W.setCell ⟨w.heap.size + 2, i, none⟩ u).cell? ⟨w.heap.size + 1, 2, none⟩ = some (.slice ca m cc) ∧ Below (w.heap.size + 2) W1 (W.setCell ⟨w.heap.size + 2, i, none⟩ u))) := fun W i u h => ⟨(World.cell?_setCell_far _ _ _ _ (by simp)).trans h.1, (World.cell?_setCell_far _ _ _ _ (by simp)).trans h.2.1, h.2.2.setCell (p := ⟨w.heap.size + 2, i, none⟩) (Nat.le_refl _) _⟩
  have S0 : Hid ((W1.drew.cell? ⟨w.heap.size + 1, 0, none⟩ = some (.string fn) ∧ W1.drew.cell? ⟨w.heap.size + 1, 2, none⟩ = some (.slice ca m cc) ∧ Below (w.heap.size + 2) W1 W1.drew)) := ⟨XF.out.1 0 _ rfl, XF.out.1 2 _ rfl, (Below.refl _ _).drew⟩
  clear SD1 SD2 CP
  have SZ2 : Hid (w.heap.size + 2 < W1.heap.size) := by have := SZ.out; unfold Hid; omega
  go_region_held3 (fun W => W.cell? ⟨w.heap.size + 1, 0, none⟩ = some (.string fn) ∧ W.cell? ⟨w.heap.size + 1, 2, none⟩ = some (.slice ca m cc) ∧ Below (w.heap.size + 2) W1 W)
    (first
    | with_reducible exact S0.out
    | with_reducible exact KS.out _ _ (by assumption) b5
    | with_reducible exact KS.out _ _ (by assumption) b6
    | with_reducible exact KS.out _ _ (by assumption) b7
    | (with_reducible refine KT.out _ _ _ (KT.out _ _ _ (KT.out _ _ _ (KT.out _ _ _ (KT.out _ _ _ ?_)))); assumption))
    (first
    | (go_at_call 59; refine (S1.out _ (by assumption)).mono ?_; rintro e w5 ⟨rfl, b5⟩; have XP5 : Hid (XAt w5 (w.heap.size + 2) [.string ⟨#[]⟩, .bool false, .bool false, .slice none 0 0, .slice none 0 0] ∧ w.heap.size + 2 < w5.heap.size) := ⟨XP.out.later SZ2.out ((Below.refl _ _).drew.trans b5), Nat.lt_of_lt_of_le SZ2.out b5.size⟩)
    | (go_at_call 59; refine (S2.out _ (by assumption)).mono ?_; rintro e w6 ⟨rfl, b6⟩; have XP6 : Hid (XAt w6 (w.heap.size + 2) [.string ⟨#[]⟩, .bool false, .bool false, .slice none 0 0, .slice none 0 0] ∧ w.heap.size + 2 < w6.heap.size) := ⟨XP5.out.1.later XP5.out.2 b6, Nat.lt_of_lt_of_le XP5.out.2 b6.size⟩)
    | (go_at_call 61; refine (S3.out _ (by assumption)).mono ?_; rintro e w7 ⟨⟨v', rfl, own7⟩, b7⟩; obtain ⟨ka, kc, rfl⟩ := own_form own7; have OW7 : Hid (w7.ownsRow w.heap.size 53 1 (.slice ka m kc) m cs) := own_mono11 own7 (by have := XP6.out.2; omega); have NE7 : Hid (∀ q, (Value.slice ka m kc).ownBlock = some q → q ≠ w.heap.size + 2) := (fun q hq => by have h1 := (own_oct own7 q hq).1; have := XP6.out.2; omega); have XP7 : Hid (XAt w7 (w.heap.size + 2) [.string ⟨#[]⟩, .bool false, .bool false, .slice none 0 0, .slice none 0 0]) := XP6.out.1.later XP6.out.2 b7; have p0 := XP7.out.1 0 _ rfl; have p1 := XP7.out.1 1 _ rfl; have p2 := XP7.out.1 2 _ rfl; have p3 := XP7.out.1 3 _ rfl; have p4 := XP7.out.1 4 _ rfl; have fz := XP7.out.2; clear own7))
  go_wp2
  refine bodyPost_ret (results_cell Tryz.results42 _ (w.heap.size + 2) (by first | rfl | simp) _ [.string fn, .bool s1, .bool s2, .slice ka m kc, .slice ra rn rc] (XAt.set5 XP7.out) Tryz.underlying36 rfl (by kernel_rfl)) rfl ⟨⟨_, rfl, own_lo OW7.out fun q h1 h2 => ?_⟩, ?_⟩
  · have h3 := NE7.out q h2
    exact (Below.heap_setCell _ _ _ _ (by simpa using h3)).trans ((Below.heap_setCell _ _ _ _ (by simpa using h3)).trans ((Below.heap_setCell _ _ _ _ (by simpa using h3)).trans ((Below.heap_setCell _ _ _ _ (by simpa using h3)).trans (Below.heap_setCell _ _ _ _ (by simpa using h3)))))
  · exact below_set5 (bnext UP.out (bnext (bnext ((Below.refl _ _).drew.trans b5) b6) b7)) (by omega) _ _ _ _ _
set_option maxRecDepth 100000 in
set_option maxHeartbeats 4000000 in
theorem data11_any {A : Nat → Prop} {w : World} {vb vr : Value} {d : DataM} {ra : Option Addr} {rn rc : Nat} (hc : IsBytes A w vb d.bytes) (hlc : d.bytes.length ≤ 100000) (hr : ∃ a n c, vr = .slice a n c) :
    Calls Tryz.prog 43 #[.agg #[.string d.name, .int .i64 d.bind, .int .i64 d.align, .bool d.fixed, .int .i64 d.size, vb, vr], .slice ra rn rc] w fun e w' => (∃ v', e = .returned (.agg #[.int .i64 d.align, .bool d.fixed, .int .i64 d.size, v', .slice ra rn rc]) ∧ w'.ownsRow w.heap.size 5 1 v' d.bytes.length (d.bytes.map fun x => .int .u8 x)) ∧ Below w.heap.size w w' := by
  obtain ⟨dn, db, da, df, dz, dbytes, drels⟩ := d
  dsimp only at hc hlc ⊢
  obtain ⟨xa, xn, xc, rfl⟩ := hr
  obtain ⟨ca, cc, rfl, -⟩ := id hc.1
  have CP : Hid (∀ W, Below w.heap.size w W → Calls Tryz.prog 62 #[.slice ca dbytes.length cc] W fun e w' => (∃ v', e = .returned v' ∧ w'.ownsRow W.heap.size 5 1 v' dbytes.length (dbytes.map fun x => .int .u8 x)) ∧ Below W.heap.size W w') := fun W hW => copied_bytes (hc.keep (Stay.of_below hW)) hlc
  generalize dbytes.length = m at CP ⊢
  generalize (dbytes.map fun x => Value.int .u8 x) = cs at CP ⊢
  clear hc hlc
  have UP : Hid (Below w.heap.size w ((w.alloc (.cells #[.string dn, .int .i64 db, .int .i64 da, .bool df, .int .i64 dz, .slice ca m cc, .slice xa xn xc] 52)).alloc (.cells #[.int .i64 0, .bool false, .int .i64 0, .slice none 0 0, .slice none 0 0] 41))) := keep_alloc8 (keep_alloc8 (Below.refl _ _) _) _
  have XF : Hid (XAt ((w.alloc (.cells #[.string dn, .int .i64 db, .int .i64 da, .bool df, .int .i64 dz, .slice ca m cc, .slice xa xn xc] 52)).alloc (.cells #[.int .i64 0, .bool false, .int .i64 0, .slice none 0 0, .slice none 0 0] 41)) w.heap.size [.string dn, .int .i64 db, .int .i64 da, .bool df, .int .i64 dz, .slice ca m cc, .slice xa xn xc]) := (XAt.new w _ _).later (by simp) (keep_alloc8 (Below.refl _ _) _)
  have XP : Hid (XAt ((w.alloc (.cells #[.string dn, .int .i64 db, .int .i64 da, .bool df, .int .i64 dz, .slice ca m cc, .slice xa xn xc] 52)).alloc (.cells #[.int .i64 0, .bool false, .int .i64 0, .slice none 0 0, .slice none 0 0] 41)) (w.heap.size + 1) [.int .i64 0, .bool false, .int .i64 0, .slice none 0 0, .slice none 0 0]) := by
    have := XAt.new (w.alloc (.cells #[.string dn, .int .i64 db, .int .i64 da, .bool df, .int .i64 dz, .slice ca m cc, .slice xa xn xc] 52)) #[.int .i64 0, .bool false, .int .i64 0, .slice none 0 0, .slice none 0 0] 41
    rwa [World.size_alloc] at this
  have SZ : Hid (((w.alloc (.cells #[.string dn, .int .i64 db, .int .i64 da, .bool df, .int .i64 dz, .slice ca m cc, .slice xa xn xc] 52)).alloc (.cells #[.int .i64 0, .bool false, .int .i64 0, .slice none 0 0, .slice none 0 0] 41)).heap.size = w.heap.size + 2) := by unfold Hid; simp
  go_enter Tryz.func43, Tryz.ntmps43
  go_upto_region 1 with fail
  generalize (w.alloc (.cells #[.string dn, .int .i64 db, .int .i64 da, .bool df, .int .i64 dz, .slice ca m cc, .slice xa xn xc] 52)).alloc (.cells #[.int .i64 0, .bool false, .int .i64 0, .slice none 0 0, .slice none 0 0] 41) = W1 at UP XF XP SZ ⊢
  have S3 : Hid (∀ W, (W.cell? ⟨w.heap.size, 2, none⟩ = some (.int .i64 da) ∧ W.cell? ⟨w.heap.size, 3, none⟩ = some (.bool df) ∧ W.cell? ⟨w.heap.size, 4, none⟩ = some (.int .i64 dz) ∧ W.cell? ⟨w.heap.size, 5, none⟩ = some (.slice ca m cc) ∧ Below (w.heap.size + 1) W1 W) → Calls Tryz.prog 62 #[.slice ca m cc] W fun e w' => (∃ v', e = .returned v' ∧ w'.ownsRow W.heap.size 5 1 v' m cs) ∧ Below W.heap.size W w') := fun W hS => CP.out W (UP.out.trans (hS.2.2.2.2.mono (by omega)))
  have KS : Hid (∀ W W', (W.cell? ⟨w.heap.size, 2, none⟩ = some (.int .i64 da) ∧ W.cell? ⟨w.heap.size, 3, none⟩ = some (.bool df) ∧ W.cell? ⟨w.heap.size, 4, none⟩ = some (.int .i64 dz) ∧ W.cell? ⟨w.heap.size, 5, none⟩ = some (.slice ca m cc) ∧ Below (w.heap.size + 1) W1 W) → Below W.heap.size W W' → (W'.cell? ⟨w.heap.size, 2, none⟩ = some (.int .i64 da) ∧ W'.cell? ⟨w.heap.size, 3, none⟩ = some (.bool df) ∧ W'.cell? ⟨w.heap.size, 4, none⟩ = some (.int .i64 dz) ∧ W'.cell? ⟨w.heap.size, 5, none⟩ = some (.slice ca m cc) ∧ Below (w.heap.size + 1) W1 W')) := fun W W' h hb => ⟨cell_any h.1 hb, cell_any h.2.1 hb, cell_any h.2.2.1 hb, cell_any h.2.2.2.1 hb, h.2.2.2.2.trans (hb.mono (by have := h.2.2.2.2.size; have := SZ.out; omega))⟩
  have KT : Hid (∀ W i u, (W.cell? ⟨w.heap.size, 2, none⟩ = some (.int .i64 da) ∧ W.cell? ⟨w.heap.size, 3, none⟩ = some (.bool df) ∧ W.cell? ⟨w.heap.size, 4, none⟩ = some (.int .i64 dz) ∧ W.cell? ⟨w.heap.size, 5, none⟩ = some (.slice ca m cc) ∧ Below (w.heap.size + 1) W1 W) → ((W.setCell ⟨w.heap.size + 1, i, none⟩ u).cell? ⟨w.heap.size, 2, none⟩ = some (.int .i64 da) ∧ (W.setCell ⟨w.heap.size + 1, i, none⟩ u).cell? ⟨w.heap.size, 3, none⟩ = some (.bool df) ∧ (W.setCell ⟨w.heap.size + 1, i, none⟩ u).cell? ⟨w.heap.size, 4, none⟩ = some (.int .i64 dz) ∧ (W.setCell ⟨w.heap.size + 1, i, none⟩ u).cell? ⟨w.heap.size, 5, none⟩ = some (.slice ca m cc) ∧ Below (w.heap.size + 1) W1 (W.setCell ⟨w.heap.size + 1, i, none⟩ u))) := fun W i u h => ⟨(World.cell?_setCell_far _ _ _ _ (by simp)).trans h.1, (World.cell?_setCell_far _ _ _ _ (by simp)).trans h.2.1, (World.cell?_setCell_far _ _ _ _ (by simp)).trans h.2.2.1, (World.cell?_setCell_far _ _ _ _ (by simp)).trans h.2.2.2.1, h.2.2.2.2.setCell (p := ⟨w.heap.size + 1, i, none⟩) (Nat.le_refl _) _⟩
  have S0 : Hid ((W1.drew.cell? ⟨w.heap.size, 2, none⟩ = some (.int .i64 da) ∧ W1.drew.cell? ⟨w.heap.size, 3, none⟩ = some (.bool df) ∧ W1.drew.cell? ⟨w.heap.size, 4, none⟩ = some (.int .i64 dz) ∧ W1.drew.cell? ⟨w.heap.size, 5, none⟩ = some (.slice ca m cc) ∧ Below (w.heap.size + 1) W1 W1.drew)) := ⟨XF.out.1 2 _ rfl, XF.out.1 3 _ rfl, XF.out.1 4 _ rfl, XF.out.1 5 _ rfl, (Below.refl _ _).drew⟩
  have SZ2 : Hid (w.heap.size + 1 < W1.heap.size) := by have := SZ.out; unfold Hid; omega
  clear CP
  go_region_held3 (fun W => W.cell? ⟨w.heap.size, 2, none⟩ = some (.int .i64 da) ∧ W.cell? ⟨w.heap.size, 3, none⟩ = some (.bool df) ∧ W.cell? ⟨w.heap.size, 4, none⟩ = some (.int .i64 dz) ∧ W.cell? ⟨w.heap.size, 5, none⟩ = some (.slice ca m cc) ∧ Below (w.heap.size + 1) W1 W)
    (first
    | with_reducible exact S0.out
    | with_reducible exact KS.out _ _ (by assumption) b7
    | (with_reducible refine KT.out _ _ _ (KT.out _ _ _ (KT.out _ _ _ (KT.out _ _ _ (KT.out _ _ _ ?_)))); assumption))
    (first
    | (go_at_call 62; refine (S3.out _ (by assumption)).mono ?_; rintro e w7 ⟨⟨v', rfl, own7⟩, b7⟩; obtain ⟨ka, kc, rfl⟩ := own_form own7; have B7 : Hid (Below W1.heap.size W1 w7) := (Below.refl _ _).drew.trans b7; have OW7 : Hid (w7.ownsRow w.heap.size 5 1 (.slice ka m kc) m cs) := own_mono11 own7 (by have := SZ2.out; show w.heap.size ≤ W1.heap.size; omega); have NE7 : Hid (∀ q, (Value.slice ka m kc).ownBlock = some q → q ≠ w.heap.size + 1) := (fun q hq => by have h1 : W1.heap.size ≤ q := (own_oct own7 q hq).1; have := SZ2.out; omega); have XP7 : Hid (XAt w7 (w.heap.size + 1) [.int .i64 0, .bool false, .int .i64 0, .slice none 0 0, .slice none 0 0]) := XP.out.later SZ2.out B7.out; have p0 := XP7.out.1 0 _ rfl; have p1 := XP7.out.1 1 _ rfl; have p2 := XP7.out.1 2 _ rfl; have p3 := XP7.out.1 3 _ rfl; have p4 := XP7.out.1 4 _ rfl; have fz := XP7.out.2; clear own7))
  go_wp2
  refine bodyPost_ret (results_cell Tryz.results43 _ (w.heap.size + 1) (by first | rfl | simp) _ [.int .i64 da, .bool df, .int .i64 dz, .slice ka m kc, .slice ra rn rc] (XAt.set5 XP7.out) Tryz.underlying41 rfl (by kernel_rfl)) rfl ⟨⟨_, rfl, own_lo OW7.out fun q h1 h2 => ?_⟩, ?_⟩
  · have h3 := NE7.out q h2
    exact (Below.heap_setCell _ _ _ _ (by simpa using h3)).trans ((Below.heap_setCell _ _ _ _ (by simpa using h3)).trans ((Below.heap_setCell _ _ _ _ (by simpa using h3)).trans ((Below.heap_setCell _ _ _ _ (by simpa using h3)).trans (Below.heap_setCell _ _ _ _ (by simpa using h3)))))
  · exact below_set5 (bnext UP.out B7.out) (by omega) _ _ _ _ _
end Go.Proofs.YteakbpcmafdikaaGreatDoor
