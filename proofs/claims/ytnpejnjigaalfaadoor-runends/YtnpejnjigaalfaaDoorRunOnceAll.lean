/- A step looks at the last place and the first byte of input alone. What run.step returns: a step of a state with lists of its own, the places to go back to written over. What run.step returns. -/
import Derived.Test.YtnpejnjigaalfaaDoorRunSpec
import Derived.Test.YtnpejnjigaalfaaDoorRunOwnAll
import Derived.Test.YtnpejnjigaalfaaDoorRunStep
namespace Go.Proofs.YtnpejnjigaalfaaDoor
open Go.ChangeShapes Go.WideShapes Go.ChangeAt Go.RowKit
set_option linter.unusedVariables false
set_option linter.unusedSimpArgs false
/-- The state, shown no more of its lists than a step looks at. -/
def nearZ (s : St) : St := { s with bn := s.bn - (s.bn - 1), bf := fun k => s.bf (k + (s.bn - 1)), inn := min s.inn 1 }
/-- What comes of it, joined with what wasn't shown. -/
def joinZ (s t : St) : St := { t with bn := (s.bn - 1) + t.bn, bf := fun k => if k < s.bn - 1 then s.bf k else t.bf (k - (s.bn - 1)), inn := s.inn - (min s.inn 1 - t.inn), inf := fun k => s.inf (k + (min s.inn 1 - t.inn)) }
theorem fit_near {N : Nat} {s : St} (h : Fit N s) : Fit 1 (nearZ s) :=
  ⟨h.r0, h.r, h.at_, fun k hk => h.bf _ (by simp only [nearZ] at hk; omega), by simp only [nearZ]; omega, h.mn, by have := h.inn; simp only [nearZ]; omega, h.on_, h.wt, h.cd, h.ft, h.mf, h.inf⟩
theorem join_same (s t : St) (h1 : t.bn = s.bn - (s.bn - 1)) (h2 : t.bf = fun k => s.bf (k + (s.bn - 1))) (h3 : t.inn = min s.inn 1) : joinZ s t = { t with bn := s.bn, bf := s.bf, inn := s.inn, inf := s.inf } := by
  unfold joinZ
  rw [h1, h2, h3]
  simp only [St.mk.injEq, true_and, and_true]
  refine ⟨by omega, ?_, by omega, ?_⟩
  · funext k
    by_cases h : k < s.bn - 1
    · rw [if_pos h]
    · rw [if_neg h, show k - (s.bn - 1) + (s.bn - 1) = k from by omega]
  · funext k
    rw [Nat.sub_self, Nat.add_zero]
theorem op_join (op a b c i : Int) (s : St) : joinZ s (opZ op a b c i (nearZ s)) = opZ op a b c i s ∧ (opZ op a b c i (nearZ s)).inn ≤ min s.inn 1 := by
  have L : min s.inn 1 ≤ min s.inn 1 := Nat.le_refl _
  unfold opZ
  by_cases e0 : op = 0
  · rw [if_pos e0, if_pos e0]; exact ⟨join_same s _ rfl rfl rfl, L⟩
  rw [if_neg e0, if_neg e0]
  by_cases e25 : op = 25
  · rw [if_pos e25, if_pos e25]; exact ⟨join_same s _ rfl rfl rfl, L⟩
  rw [if_neg e25, if_neg e25]
  by_cases e21 : op = 21
  · rw [if_pos e21, if_pos e21]
    by_cases g : s.bn = 0
    · rw [if_pos g, if_pos (show (nearZ s).bn = 0 by simp only [nearZ]; omega)]; exact ⟨join_same s _ rfl rfl rfl, L⟩
    · rw [if_neg g, if_neg (show ¬ (nearZ s).bn = 0 by simp only [nearZ]; omega)]
      refine ⟨?_, L⟩
      simp only [joinZ, nearZ, St.mk.injEq, true_and, and_true]
      refine ⟨by congr 1; omega, by omega, ?_, by omega, ?_⟩
      · funext k
        by_cases h : k < s.bn - 1
        · rw [if_pos h]
        · rw [if_neg h, show k - (s.bn - 1) + (s.bn - 1) = k from by omega]
      · funext k
        rw [Nat.sub_self, Nat.add_zero]
  rw [if_neg e21, if_neg e21]
  by_cases e11 : op = 11 ∨ op = 13
  · rw [if_pos e11, if_pos e11]
    by_cases g : okB s.mn (whereZ s b i) (op == 11) = true
    · rw [if_pos g, if_pos (show okB (nearZ s).mn (whereZ (nearZ s) b i) (op == 11) = true from g)]; exact ⟨join_same s _ rfl rfl rfl, L⟩
    · rw [if_neg g, if_neg (show ¬ okB (nearZ s).mn (whereZ (nearZ s) b i) (op == 11) = true from g)]; exact ⟨join_same s _ rfl rfl rfl, L⟩
  rw [if_neg e11, if_neg e11]
  by_cases e12 : op = 12 ∨ op = 14
  · rw [if_pos e12, if_pos e12]
    by_cases g : saveB s.mn (whereZ s b i) (op == 12) s.wt = true
    · rw [if_pos g, if_pos (show saveB (nearZ s).mn (whereZ (nearZ s) b i) (op == 12) (nearZ s).wt = true from g)]; exact ⟨join_same s _ rfl rfl rfl, L⟩
    · rw [if_neg g, if_neg (show ¬ saveB (nearZ s).mn (whereZ (nearZ s) b i) (op == 12) (nearZ s).wt = true from g)]; exact ⟨join_same s _ rfl rfl rfl, L⟩
  rw [if_neg e12, if_neg e12]
  by_cases e22 : op = 22
  · rw [if_pos e22, if_pos e22]
    by_cases g : s.inn = 0
    · rw [if_pos g, if_pos (show (nearZ s).inn = 0 by simp only [nearZ]; omega)]; exact ⟨join_same s _ rfl rfl rfl, L⟩
    · rw [if_neg g, if_neg (show ¬ (nearZ s).inn = 0 by simp only [nearZ]; omega)]
      refine ⟨?_, by simp only [nearZ]; omega⟩
      simp only [joinZ, nearZ, St.mk.injEq, true_and, and_true]
      refine ⟨by omega, ?_, by omega, ?_⟩
      · funext k
        by_cases h : k < s.bn - 1
        · rw [if_pos h]
        · rw [if_neg h, show k - (s.bn - 1) + (s.bn - 1) = k from by omega]
      · funext k
        rw [show min s.inn 1 - (min s.inn 1 - 1) = 1 from by omega]
  rw [if_neg e22, if_neg e22]
  by_cases e23 : op = 23
  · rw [if_pos e23, if_pos e23]
    by_cases g : s.on_ < 4096
    · rw [if_pos g, if_pos (show (nearZ s).on_ < 4096 from g)]; exact ⟨join_same s _ rfl rfl rfl, L⟩
    · rw [if_neg g, if_neg (show ¬ (nearZ s).on_ < 4096 from g)]; exact ⟨join_same s _ rfl rfl rfl, L⟩
  rw [if_neg e23, if_neg e23]
  by_cases e24 : op = 24
  · rw [if_pos e24, if_pos e24]; exact ⟨join_same s _ rfl rfl rfl, L⟩
  rw [if_neg e24, if_neg e24]
  by_cases e19 : op = 19
  · rw [if_pos e19, if_pos e19]; exact ⟨join_same s _ rfl rfl rfl, L⟩
  rw [if_neg e19, if_neg e19]
  by_cases e20 : op = 20
  · rw [if_pos e20, if_pos e20]
    refine ⟨?_, L⟩
    simp only [joinZ, nearZ, St.mk.injEq, true_and, and_true]
    refine ⟨by omega, ?_, by omega, ?_⟩
    · funext k
      by_cases h : k < s.bn - 1
      · rw [if_pos h, if_neg (by omega)]
      · rw [if_neg h]
        by_cases h2 : k = s.bn
        · exact (if_pos (show k - (s.bn - 1) = s.bn - (s.bn - 1) by omega)).trans (if_pos h2).symm
        · exact (if_neg (show ¬ k - (s.bn - 1) = s.bn - (s.bn - 1) by omega)).trans ((congrArg s.bf (show k - (s.bn - 1) + (s.bn - 1) = k by omega)).trans (if_neg h2).symm)
    · funext k
      rw [Nat.sub_self, Nat.add_zero]
  rw [if_neg e20, if_neg e20]
  by_cases e15 : 15 ≤ op ∧ op ≤ 18
  · rw [if_pos e15, if_pos e15]; exact ⟨join_same s _ rfl rfl rfl, L⟩
  · rw [if_neg e15, if_neg e15]; exact ⟨join_same s _ rfl rfl rfl, L⟩
theorem join_near (n : Nat) (f : Nat → Int) (s : St) : joinZ s (stepY n f (nearZ s)) = stepY n f s ∧ (stepY n f (nearZ s)).inn ≤ min s.inn 1 := by
  have L : min s.inn 1 ≤ min s.inn 1 := Nat.le_refl _
  unfold stepY
  by_cases h : s.en = true
  · rw [if_pos h, if_pos (show (nearZ s).en = true from h)]; exact ⟨join_same s _ rfl rfl rfl, L⟩
  rw [if_neg h, if_neg (show ¬ (nearZ s).en = true from h)]
  by_cases h0 : s.at_ < 0
  · rw [if_pos h0, if_pos (show (nearZ s).at_ < 0 from h0)]; exact ⟨join_same s _ rfl rfl rfl, L⟩
  rw [if_neg h0, if_neg (show ¬ (nearZ s).at_ < 0 from h0)]
  unfold stepZ
  rw [if_neg h, if_neg (show ¬ (nearZ s).en = true from h)]
  by_cases h1 : (n : Int) ≤ s.at_
  · rw [if_pos h1, if_pos (show (n : Int) ≤ (nearZ s).at_ from h1)]; exact ⟨join_same s _ rfl rfl rfl, L⟩
  rw [if_neg h1, if_neg (show ¬ (n : Int) ≤ (nearZ s).at_ from h1)]
  by_cases hk : okG (f s.at_.toNat) = true
  · rw [if_pos hk, if_pos (show okG (f (nearZ s).at_.toNat) = true from hk)]; exact op_join _ _ _ _ _ s
  · rw [if_neg hk, if_neg (show ¬ okG (f (nearZ s).at_.toNat) = true from hk)]; exact ⟨join_same s _ rfl rfl rfl, L⟩
open Go.ChangeShapes Go.WideShapes Go.ChangeAt Go.RowKit
set_option linter.unusedVariables false
set_option linter.unusedSimpArgs false
section
variable {P : Program} {w : World} {ops : Array Oper} {rest : List Oper} {op : Oper} {a : Act} {Q : Exit → Act → World → Prop}
theorem wpList_max (hgd : op.guard = none) (x y : Operand) (t t' : TypeId) (ho : op.op = .call { callee := .builtin .max, args := #[x, y], argTypes := #[t, t'] }) (p q : Int) (hx : a.eval x = .int .i64 p) (hy : a.eval y = .int .i64 q) (r : Int) (hr : (if q > p then q else p) = r)
    (h : wpList P ops Q rest (a.put op.dst (.int .i64 r)) w) : wpList P ops Q (op :: rest) a w :=
  wpList_plain hgd fun _ hK => by
    unfold Oper.wp execOp
    simp only [ho, resolve, invoke, builtin, Sem.run_bind, Sem.run_pure, Result.andThen_ok, List.map_toArray, List.map_cons, List.map_nil, hx, hy, run_max_int2, hr]
    exact hK _ _ h
theorem wpList_min (hgd : op.guard = none) (x y : Operand) (t t' : TypeId) (ho : op.op = .call { callee := .builtin .min, args := #[x, y], argTypes := #[t, t'] }) (p q : Int) (hx : a.eval x = .int .i64 p) (hy : a.eval y = .int .i64 q) (r : Int) (hr : (if q < p then q else p) = r)
    (h : wpList P ops Q rest (a.put op.dst (.int .i64 r)) w) : wpList P ops Q (op :: rest) a w :=
  wpList_plain hgd fun _ hK => by
    unfold Oper.wp execOp
    simp only [ho, resolve, invoke, builtin, Sem.run_bind, Sem.run_pure, Result.andThen_ok, List.map_toArray, List.map_cons, List.map_nil, hx, hy, run_min_int2, hr]
    exact hK _ _ h
theorem add_zero_addr (p : Addr) : p.add 0 = p := by simp [Addr.add]
/-- 'x[:k]' -/
theorem wpList_slice_to (hgd : op.guard = none) (t : TypeId) (x y : Operand) (ho : op.op = .slice t x none (some y) none) (ad : Option Addr) (n c k : Nat) (hx : a.eval x = .slice ad n c) (hy : a.eval y = .int .i64 k) (hk : k ≤ c) (ht : P.underlying t = some (.slice (P.elem t))) (hs : ∀ w, (sizeOf (P.elem t)).run P w = .ok 1 w)
    (h : wpList P ops Q rest (a.put op.dst (.slice ad k c)) w) : wpList P ops Q (op :: rest) a w :=
  wpList_plain hgd fun _ hK => by
    have e : sliced ad 0 k c 1 = .slice ad k c := by
      unfold sliced
      congr 1
      split
      · rfl
      · cases ad <;> simp [Addr.add]
    unfold Oper.wp execOp
    simp only [ho, Option.map_none, Option.map_some, hx, hy, Sem.run_bind, Sem.run_pure, Result.andThen_ok, run_sliceAt_slice w t _ _ _ _ ht, run_slice_h w t ad n c ht .i64 (k : Int) (by omega) (by omega), hs, Int.toNat_natCast, e]
    exact hK _ _ h
/-- Where 'x[k:]' begins. -/
def fromA (ad : Option Addr) (c k : Nat) : Option Addr := if c = k then ad else ad.map (·.add k)
/-- 'x[k:]' -/
theorem wpList_slice_from (hgd : op.guard = none) (t : TypeId) (x y : Operand) (ho : op.op = .slice t x (some y) none none) (ad : Option Addr) (n c k : Nat) (kv : Int) (hx : a.eval x = .slice ad n c) (hy : a.eval y = .int .i64 kv) (hkv : kv = k) (hk : k ≤ n) (ht : P.underlying t = some (.slice (P.elem t))) (hs : ∀ w, (sizeOf (P.elem t)).run P w = .ok 1 w)
    (h : wpList P ops Q rest (a.put op.dst (.slice (fromA ad c k) (n - k) (c - k))) w) : wpList P ops Q (op :: rest) a w :=
  wpList_plain hgd fun _ hK => by
    subst hkv
    have e : sliced ad k n c 1 = .slice (fromA ad c k) (n - k) (c - k) := by
      unfold sliced fromA
      rw [Nat.mul_one]
    unfold Oper.wp execOp
    simp only [ho, Option.map_none, Option.map_some, hx, hy, Sem.run_bind, Sem.run_pure, Result.andThen_ok, run_sliceAt_slice w t _ _ _ _ ht, run_slice_l w t ad n c ht .i64 (k : Int) (by omega) (by omega), hs, Int.toNat_natCast, e]
    exact hK _ _ h
/-- 'append(buf, xs...)', buf the call's own: and where it lies then. -/
theorem wpList_append_where (hgd : op.guard = none) (s x : Operand) (t : TypeId)
    (ho : op.op = .call { callee := .builtin .append, args := #[s, x], argTypes := #[t, t] })
    (base : Nat) (e : TypeId) (i : TypeInfo) (z : Value) (size bytes : Nat) (ht : P.underlying t = some (.slice e)) (hi : P.info? e = some i) (hz : i.zero = some z)
    (hsize : i.size = size) (hby : i.bytes = bytes) (hzs : z.cells.size = size) (hsz : 0 < size)
    (v : Value) (n : Nat) (xs : List Value) (hs : a.eval s = v) (hown : w.ownsRow base e size v n xs)
    (sp : Option Addr) (m c : Nat) (news : List Value) (hx : a.eval x = .slice sp m c) (hl : news.length = m * size) (hnil : sp = none → m = 0 ∧ c = 0) (hnews : ∀ ad, sp = some ad → ∀ j u, news[j]? = some u → w.cell? (ad.add j) = some u) (h1 : ∀ u ∈ news, u.oneCell' = true)
    (h63 : n + m ≤ maxLen) (hbytes : (n + m) * bytes ≤ 140737488355328) (hbase : base ≤ w.heap.size)
    (h : ∀ a' cap' w', w'.ownsRow base e size (.slice a' (n + m) cap') (n + m) (xs ++ news) → w.grownBy w' v.ownBlock → (∀ q, a' = some q → v.ownBlock = some q.block ∨ q.block = w.heap.size) → wpList P ops Q rest (a.put op.dst (.slice a' (n + m) cap')) w') : wpList P ops Q (op :: rest) a w :=
  wpList_plain hgd fun _ hK => by
    have hr : ∃ a' cap' w', (Builtin.append_ #[t, t] op.type #[v, .slice sp m c]).run P w = .ok (.slice a' (n + m) cap') w' ∧ w'.ownsRow base e size (.slice a' (n + m) cap') (n + m) (xs ++ news) ∧ w.grownBy w' v.ownBlock ∧ (∀ q, a' = some q → v.ownBlock = some q.block ∨ q.block = w.heap.size) := by
      cases sp with
      | none =>
        obtain ⟨rfl, rfl⟩ := hnil rfl
        obtain rfl : news = [] := List.eq_nil_of_length_eq_zero (by simpa using hl)
        obtain ⟨a, cap, rfl⟩ := own_form hown
        exact ⟨a, cap, w, run_append_owned_none (P := P) (w := w) base t op.type e i size ht hi _ n xs hown, by simpa using hown, World.grownBy.refl w _, fun q e => .inl (by rw [e]; rfl)⟩
      | some ad =>
        obtain ⟨v', w', hr, h2, h3, _, h5⟩ := run_append_own_at (P := P) w base t op.type e i z size bytes ht hi hz hsize hby hzs hsz v n xs hown ad m c news hl (hnews ad rfl) h1 h63 hbytes hbase
        obtain ⟨a, cap, rfl⟩ := own_form h2
        refine ⟨a, cap, w', hr, h2, h3, fun q e => ?_⟩
        subst e
        rcases h5 with h5 | h5
        · exact .inl (by rw [← h5]; rfl)
        · exact .inr (by simpa [Value.ownBlock] using h5)
    obtain ⟨a', cap', w', hr, h2, h3, h4⟩ := hr
    unfold Oper.wp execOp
    simp only [ho, resolve, invoke, builtin, Sem.run_bind, Sem.run_pure, Result.andThen_ok, List.map_toArray, List.map_cons, List.map_nil, hs, hx, hr]
    exact hK _ _ (h a' cap' w' h2 h3 h4)
end
theorem szIn (w : World) : (sizeOf (Tryd.prog.elem 33)).run Tryd.prog w = .ok 1 w := by go_simp
theorem szBy (w : World) : (sizeOf (Tryd.prog.elem 23)).run Tryd.prog w = .ok 1 w := by go_simp
theorem unI : Tryd.prog.underlying 33 = some (.slice (Tryd.prog.elem 33)) := by kernel_rfl
theorem unB : Tryd.prog.underlying 23 = some (.slice (Tryd.prog.elem 23)) := by kernel_rfl
theorem fromA_nil {ad : Option Addr} {c k : Nat} (h : fromA ad c k = none) : ad = none := by
  unfold fromA at h
  split at h
  · exact h
  · simpa using h
theorem fromA_head {ad : Option Addr} {n c k : Nat} (h : Head ad n c) (hk : k ≤ n) : Head (fromA ad c k) (n - k) (c - k) :=
  ⟨by have := h.1; omega, fun e => by have := h.2 (fromA_nil e); omega⟩
theorem fromA_block {ad : Option Addr} {c k : Nat} {x : Addr} (h : fromA ad c k = some x) : ∃ y, ad = some y ∧ x.block = y.block := by
  unfold fromA at h
  split at h
  · exact ⟨x, h, rfl⟩
  · cases ad with
    | none => cases h
    | some y => simp only [Option.map_some, Option.some.injEq] at h; exact ⟨y, rfl, by rw [← h]; simp only [Addr.add]; split <;> rfl⟩
theorem fromA_row {kd : IntKind} {w : World} {ad : Option Addr} {n c k : Nat} {f : Nat → Int} (h : RowK kd w ad n f) (hh : Head ad n c) (hk : k ≤ n) : RowK kd w (fromA ad c k) (n - k) (fun j => f (j + k)) := by
  refine ⟨fun j => h.1 _, ?_⟩
  by_cases e : n - k = 0
  · exact .inl e
  · obtain h0 | ⟨b, off, rfl, hc⟩ := h.2
    · omega
    · right
      refine ⟨b, off + k, ?_, fun i hi => ?_⟩
      · unfold fromA
        rw [if_neg (by have := hh.1; omega)]
        simp [Addr.add]
      · have := hc (i + k) (by omega)
        rwa [show off + (i + k) = off + k + i from by omega] at this
theorem fromA_bytes {w : World} {ad : Option Addr} {n c k : Nat} {f : Nat → Int} (h : Bytes w ad n f) (hh : Head ad n c) (hk : k ≤ n) : Bytes w (fromA ad c k) (n - k) (fun j => f (j + k)) :=
  ⟨fun j => h.1 _, (fromA_row (bytes_rowK' h) hh hk).2⟩
theorem bytes_few {w : World} {ad : Option Addr} {n m : Nat} {f : Nat → Int} (h : Bytes w ad n f) (hm : m ≤ n) : Bytes w ad m f :=
  ⟨h.1, by
    obtain h0 | ⟨b, off, e, hc⟩ := h.2
    · exact .inl (by omega)
    · exact .inr ⟨b, off, e, fun i hi => hc i (by omega)⟩⟩
/-- The places to go back to are another row, behind which one block alone was written to; no other list lies there. -/
theorem st_glue {w w' : World} {C : Array Value} {t : St} {r : Option Nat} (h : IsSt w (.agg C) t) (hg : w.grownBy w' r) (hr : ∀ q, r = some q → AvoidsAt C 19 q ∧ AvoidsAt C 20 q ∧ AvoidsAt C 21 q) (a : Option Addr) (n c : Nat) (f : Nat → Int) (hrow : Head a n c ∧ RowK .i64 w' a n f) :
    IsSt w' (.agg (C.setIfInBounds 17 (.slice a n c))) { t with bn := n, bf := f } := by
  obtain ⟨ba, bc, ma, mc, ia, ic, oa, oc, eC, -, ⟨m1, m2⟩, ⟨i1, i2⟩, o1, o2⟩ := st_cells h
  refine ⟨a, c, ma, mc, ia, ic, oa, oc, by rw [eC]; rfl, hrow, ⟨m1, bytes_grown m2 hg fun hn x e q => ?_⟩, ⟨i1, bytes_grown i2 hg fun hn x e q => ?_⟩, o1, bytes_grown o2 hg fun hn x e q => ?_⟩
  · exact (hr _ q.symm).1 x t.mn mc (by rw [eC, e]; rfl) hn rfl
  · exact (hr _ q.symm).2.1 x t.inn ic (by rw [eC, e]; rfl) hn rfl
  · exact (hr _ q.symm).2.2 x t.on_ oc (by rw [eC, e]; rfl) hn rfl
open Go.ChangeShapes Go.WideShapes Go.ChangeAt Go.RowKit
set_option linter.unusedVariables false
set_option linter.unusedSimpArgs false
set_option maxRecDepth 100000 in
set_option maxHeartbeats 4000000 in
theorem step_own {w : World} {C : Array Value} {s : St} {N B : Nat} (hv : IsSt w (.agg C) s) (hs : Fit N s) (hN : N ≤ 4000) (hO : Own B w C s.bn s.bf) (hB : B ≤ w.heap.size) (a : Option Addr) (n c : Nat) (f : Nat → Int) (hn : n ≤ 1000) (hw : RowK .u32 w a n f) (hT : Tab w) :
    Calls Tryd.prog 29 #[.slice a n c, .agg C] w fun e w' => ∃ C', e = .returned (.agg C') ∧ IsSt w' (.agg C') (stepY n f s) ∧ Own B w' C' (stepY n f s).bn (stepY n f s).bf ∧ Below B w w' := by
  have B0 : Hid (Boxed w ((w.alloc (.cells C 37)).alloc (.cells noSt 37)) w.heap.size (w.heap.size + 1) C C s) := Boxed.new hv _ _
  have CR : Hid (RowK .u32 w a n f) := hw
  have HT : Hid (Tab w) := hT
  have HS : Hid (Fit 1 (nearZ s)) := fit_near hs
  have HO : Hid (Own B w C s.bn s.bf) := hO
  obtain ⟨J1, J2⟩ := join_near n f s
  have HJ1 : Hid (joinZ s (stepY n f (nearZ s)) = stepY n f s) := J1
  have HJ2 : Hid ((stepY n f (nearZ s)).inn ≤ min s.inn 1) := J2
  have hbn : (s.bn : Int) ≤ 4000 := by have := hs.bn; omega
  have hin : (s.inn : Int) ≤ 1000 := by have := hs.inn; omega
  have FT : Hid (Fit 2 (stepY n f (nearZ s))) := fit_step HS.out hn
  clear hv hw hT hs hO J1 J2
  go_enter Tryd.func29, Tryd.ntmps29
  go_upto_region 1 with fail
  rw [noSt_def]
  generalize (w.alloc (.cells C 37)).alloc (.cells noSt 37) = w0 at B0 ⊢
  obtain ⟨ba, bc, ma, mc, ia, ic, oa, oc, eC, ⟨hb1, hb2⟩, ⟨-, hm2⟩, ⟨hi1, hi2⟩, -⟩ := st_cells B0.out.st
  have D17 : Hid (C[17]? = some (.slice ba s.bn bc)) := by rw [eC]; rfl
  have D19 : Hid (C[19]? = some (.slice ma s.mn mc)) := by rw [eC]; rfl
  have D20 : Hid (C[20]? = some (.slice ia s.inn ic)) := by rw [eC]; rfl
  have x17 : w0.cell? ⟨w.heap.size, 17, none⟩ = some (.slice ba s.bn bc) := B0.out.at_ 17 _ D17.out
  have x20 : w0.cell? ⟨w.heap.size, 20, none⟩ = some (.slice ia s.inn ic) := B0.out.at_ 20 _ D20.out
  have hbc := hb1.1
  have hic := hi1.1
  have HB1 : Hid (Head ba s.bn bc ∧ RowK .i64 w0 ba s.bn s.bf) := ⟨hb1, hb2⟩
  have HI1 : Hid (Head ia s.inn ic ∧ Bytes w0 ia s.inn s.inf) := ⟨hi1, hi2⟩
  have HM1 : Hid (Bytes w0 ma s.mn s.mf) := hm2
  clear hb1 hb2 hi1 hi2 hm2 eC
  obtain ⟨d, ed⟩ : ∃ d, s.bn - 1 = d := ⟨_, rfl⟩
  have hd : d ≤ s.bn := by omega
  obtain ⟨i0, ei⟩ : ∃ i0, min s.inn 1 = i0 := ⟨_, rfl⟩
  have hi0 : i0 ≤ s.inn := by omega
  go_upto_region 2 with (first
    | ((with_reducible show wpList _ _ _ (Oper.mk _ (Op.call { callee := .builtin .max, args := _, argTypes := _ }) _ _ _ _ :: _) _ _); refine wpList_max rfl (.tmp 13) _ _ _ rfl _ _ rfl rfl (d : Int) (by split <;> omega) ?_)
    | ((with_reducible show wpList _ _ _ (Oper.mk _ (Op.slice _ _ _ _ _) _ _ _ _ :: _) _ _); refine wpList_slice_to rfl 33 (.tmp 9) (.tmp 14) rfl ba s.bn bc d rfl rfl (by omega) unI szIn ?_))
  have E25 := (st_shape B0.out.st).1
  have hs0 : w.heap.size + 1 < w0.heap.size := by have := B0.out.hb; omega
  go_upto_region 3 with (first
    | ((with_reducible show wpList _ _ _ (Oper.mk _ (Op.load _ _) _ _ _ _ :: _) _ _); refine wpList_load_if (by rfl) 37 (.tmp 3) rfl w.heap.size 0 rfl C.toList _ (at_range B0.out.at_) Tryd.underlying37 rfl (st_info B0.out.st).2 ?_)
    | ((with_reducible show wpList _ _ _ (Oper.mk _ (Op.store _ _ _) _ _ _ _ :: _) _ _); refine wpList_store_fresh rfl 37 (.tmp 6) (.tmp 16) rfl w0 _ _ C rfl rfl (by rw [E25]; rfl) (st_info B0.out.st).1 (st_shape B0.out.st).2 ?_; intro w1 b1 A1 F1))
  have x17' := cell_later' x17 b1
  have x20' := cell_later' x20 b1
  have hb1 : Hid (Below w0.heap.size w0 w1) := b1
  generalize eg2 : w0.heap.size = g2 at A1 F1 hs0 ⊢
  have y17 : w1.cell? ⟨g2, 17, none⟩ = some (.slice ba s.bn bc) := A1.out 17 _ D17.out
  have fz17 : w1.frozen? ⟨g2, 17, none⟩ = false := F1.out 17
  clear x17 x20 b1
  go_upto_region 4 with ((with_reducible show wpList _ _ _ (Oper.mk _ (Op.slice _ _ _ _ _) _ _ _ _ :: _) _ _); refine wpList_slice_from rfl 33 (.tmp 18) (.tmp 20) rfl ba s.bn bc d _ rfl rfl rfl hd unI szIn ?_)
  have A2 : Hid (At (w1.setCell ⟨g2, 17, none⟩ (.slice (fromA ba bc d) (s.bn - d) (bc - d))) g2 (C.setIfInBounds 17 (.slice (fromA ba bc d) (s.bn - d) (bc - d)))) := A1.out.set 17 (by omega) _
  have F2 : Hid (∀ q, (w1.setCell ⟨g2, 17, none⟩ (.slice (fromA ba bc d) (s.bn - d) (bc - d))).frozen? ⟨g2, q, none⟩ = false) := fun q => by simpa using F1.out q
  have b2 : Hid (Below w0.heap.size w0 (w1.setCell ⟨g2, 17, none⟩ (.slice (fromA ba bc d) (s.bn - d) (bc - d)))) := hb1.out.setCell (p := ⟨g2, 17, none⟩) (by simp only []; omega) _
  have x20 : (w1.setCell ⟨g2, 17, none⟩ (.slice (fromA ba bc d) (s.bn - d) (bc - d))).cell? ⟨w.heap.size, 20, none⟩ = some (.slice ia s.inn ic) := by
    rw [World.cell?_setCell_other _ _ _ _ (fun e => by have := congrArg Addr.block e; simp only [] at this; omega)]; exact x20'
  clear x17' x20' y17 fz17 A1 F1 hb1
  generalize w1.setCell ⟨g2, 17, none⟩ (.slice (fromA ba bc d) (s.bn - d) (bc - d)) = w2 at A2 F2 b2 x20 ⊢
  clear w1
  have y20 : w2.cell? ⟨g2, 20, none⟩ = some (.slice ia s.inn ic) := A2.out 20 _ ((get_ne (by omega)).trans D20.out)
  have fz20 : w2.frozen? ⟨g2, 20, none⟩ = false := F2.out 20
  go_upto_region 5 with (first
    | ((with_reducible show wpList _ _ _ (Oper.mk _ (Op.call { callee := .builtin .min, args := _, argTypes := _ }) _ _ _ _ :: _) _ _); refine wpList_min rfl (.tmp 27) _ _ _ rfl _ _ rfl rfl (i0 : Int) (by split <;> omega) ?_)
    | ((with_reducible show wpList _ _ _ (Oper.mk _ (Op.slice _ _ _ _ _) _ _ _ _ :: _) _ _); refine wpList_slice_to rfl 23 (.tmp 24) (.tmp 28) rfl ia s.inn ic i0 rfl rfl (by omega) unB szBy ?_))
  obtain ⟨C1, eC1⟩ : ∃ C1, (C.setIfInBounds 17 (.slice (fromA ba bc d) (s.bn - d) (bc - d))).setIfInBounds 20 (.slice ia i0 ic) = C1 := ⟨_, rfl⟩
  have A3 : Hid (At (w2.setCell ⟨g2, 20, none⟩ (.slice ia i0 ic)) g2 C1) := by
    have h := A2.out.set 20 (by rw [Array.size_setIfInBounds]; omega) (.slice ia i0 ic)
    rw [eC1] at h; exact h
  have b3 : Hid (Below w0.heap.size w0 (w2.setCell ⟨g2, 20, none⟩ (.slice ia i0 ic))) := b2.out.setCell (p := ⟨g2, 20, none⟩) (by simp only []; omega) _
  clear x20 y20 fz20 A2 F2 b2
  generalize w2.setCell ⟨g2, 20, none⟩ (.slice ia i0 ic) = w3 at A3 b3 ⊢
  clear w2
  have I3 : Hid (IsSt w3 (.agg C1) (nearZ s)) := by
    have h1 := put_bk (B0.out.st.later b3.out) (fromA ba bc d) (s.bn - d) (bc - d) (fun j => s.bf (j + d)) ⟨fromA_head HB1.out.1 hd, fromA_row (HB1.out.2.later b3.out) HB1.out.1 hd⟩
    have h2 := put_in h1 ia i0 ic s.inf ⟨⟨by omega, HI1.out.1.2⟩, bytes_few (HI1.out.2.later b3.out) hi0⟩
    rw [eC1] at h2
    unfold nearZ
    rw [ed, ei]
    exact h2
  have G17 : Hid (C1[17]? = some (.slice (fromA ba bc d) (s.bn - d) (bc - d))) := by rw [← eC1]; exact (get_ne (by omega)).trans (get_put (by omega))
  have G19 : Hid (C1[19]? = C[19]?) := by rw [← eC1]; exact (get_ne (by omega)).trans (get_ne (by omega))
  have G20 : Hid (C1[20]? = some (.slice ia i0 ic)) := by rw [← eC1]; exact get_put (by rw [Array.size_setIfInBounds]; omega)
  have G21 : Hid (C1[21]? = C[21]?) := by rw [← eC1]; exact (get_ne (by omega)).trans (get_ne (by omega))
  have V1 : Hid (∀ g, Avoids C g → Avoids C1 g) := fun g h0 => by
    rw [← eC1]
    refine (h0.put (fun x n' c' e hn' => ?_) 17).put (fun x n' c' e hn' => ?_) 20
    · simp only [Value.slice.injEq] at e
      obtain ⟨y, e1, e2⟩ := fromA_block e.1
      rw [e2]
      exact h0 17 y s.bn bc (by rw [D17.out, e1]) (by omega)
    · simp only [Value.slice.injEq] at e
      exact h0 20 x s.inn ic (by rw [D20.out, e.1]) (by omega)
  have P1 : Hid (∀ x, ba = some x → AvoidsAt C1 19 x.block ∧ AvoidsAt C1 20 x.block ∧ AvoidsAt C1 21 x.block) := fun x e => by
    obtain ⟨h1, h2, h3⟩ := HO.out.apart x s.bn bc (by rw [D17.out, e])
    refine ⟨fun y n' c' e hn' => h1 y n' c' (by rw [← G19.out]; exact e) hn', fun y n' c' e hn' => ?_, fun y n' c' e hn' => h3 y n' c' (by rw [← G21.out]; exact e) hn'⟩
    rw [G20.out] at e
    simp only [Option.some.injEq, Value.slice.injEq] at e
    exact h2 y s.inn ic (by rw [D20.out, e.1]) (by omega)
  clear eC1
  obtain ⟨t, et⟩ : ∃ t, stepY n f (nearZ s) = t := ⟨_, rfl⟩
  have ST : Hid (Calls Tryd.prog 46 #[.slice a n c, .agg C1] w3 (StPost w3 C1 t)) := by
    rw [← et]
    exact step_y I3.out HS.out (by omega) a n c f hn (CR.out.later (bnext B0.out.bel b3.out)) (HT.out.later (bnext B0.out.bel b3.out))
  rw [et] at HJ1 HJ2 FT
  go_upto_region 6 with (first
    | ((with_reducible show wpList _ _ _ (Oper.mk _ (Op.load _ _) _ _ _ _ :: _) _ _); refine wpList_load_if (by rfl) 37 (.tmp 6) rfl g2 0 rfl C1.toList _ (at_range A3.out) Tryd.underlying37 rfl (st_info I3.out).2 ?_)
    | (go_at_call 46; refine ST.out.mono ?_; rintro e w4 ⟨C4, rfl, h4, v4, b4⟩)
    | ((with_reducible show wpList _ _ _ (Oper.mk _ (Op.store _ _ _) _ _ _ _ :: _) _ _); refine wpList_store_fresh rfl 37 (.tmp 7) (.tmp 33) rfl w4 _ _ C4 rfl rfl (by rw [(st_shape h4).1]; rfl) (st_info h4).1 (st_shape h4).2 ?_; intro w5 b5 A5 F5))
  have H4 : Hid (IsSt w4 (.agg C4) t) := h4
  have H5 : Hid (IsSt w5 (.agg C4) t) := h4.later b5
  have V4 : Hid (Onward w3 w4 C1 C4) := v4
  have b35 : Hid (Below w3.heap.size w3 w5) := bnext b4 b5
  have b45 : Hid (Below w4.heap.size w4 w5) := b5
  have b05 : Hid (Below w0.heap.size w0 w5) := bnext b3.out b35.out
  have bw5 : Hid (Below w.heap.size w w5) := bnext B0.out.bel b05.out
  obtain ⟨ba4, bc4, ma4, mc4, ia4, ic4, oa4, oc4, eC4, ⟨hb4, hbr4⟩, -⟩ := st_cells H5.out
  have E17 : Hid (C4[17]? = some (.slice ba4 t.bn bc4)) := by rw [eC4]; rfl
  have E20 : Hid (C4[20]? = some (.slice ia4 t.inn ic4)) := by rw [eC4]; rfl
  have lt5 : w4.heap.size < w5.heap.size := World.block_lt_of_cell? w5 ⟨w4.heap.size, 17, none⟩ (A5.out 17 _ E17.out)
  have lt4 : w3.heap.size ≤ w4.heap.size := b4.size
  have lt3 : w0.heap.size ≤ w3.heap.size := b3.out.size
  have l3 : g2 < w3.heap.size := World.block_lt_of_cell? w3 ⟨g2, 20, none⟩ (A3.out 20 _ G20.out)
  have z20 : w5.cell? ⟨g2, 20, none⟩ = some (.slice ia i0 ic) := cell_later' (A3.out 20 _ G20.out) b35.out
  have x20 : w5.cell? ⟨w.heap.size, 20, none⟩ = some (.slice ia s.inn ic) := cell_later' (B0.out.at_ 20 _ D20.out) b05.out
  have TH : Hid (w5.there (w.heap.size + 1) 0 25) := there_later B0.out.room b05.out
  obtain ⟨g5, eg5⟩ : ∃ g5, w4.heap.size = g5 := ⟨_, rfl⟩
  rw [eg5] at A5 F5 lt5 lt4 ⊢
  have y17 : w5.cell? ⟨g5, 17, none⟩ = some (.slice ba4 t.bn bc4) := A5.out 17 _ E17.out
  have RB4 : Hid (Head ba4 t.bn bc4 ∧ RowK .i64 w5 ba4 t.bn t.bf) := ⟨hb4, hbr4⟩
  clear eC4 hb4 hbr4 h4 v4 b4 b5 ST
  have tbn : t.bn ≤ 2 := FT.out.bn
  have tin : t.inn ≤ i0 := by have := HJ2.out; omega
  obtain ⟨a0, c0, e0, o0⟩ := HO.out.row
  have e0' := e0
  rw [D17.out] at e0
  simp only [Option.some.injEq, Value.slice.injEq, true_and] at e0
  obtain ⟨rfl, rfl⟩ := e0
  obtain ⟨r, er⟩ : ∃ r, (Value.slice ba d bc).ownBlock = r := ⟨_, rfl⟩
  have HR : Hid (∀ q, r = some q → B ≤ q ∧ q < w.heap.size) := fun q hq => by
    rw [← er] at hq
    exact o0.lt q (by cases ba <;> exact hq)
  have RX : Hid (∀ q, r = some q → ∃ x, ba = some x ∧ x.block = q) := fun q hq => by
    rw [← er] at hq
    cases ba with
    | none => cases hq
    | some x => exact ⟨x, rfl, by simpa [Value.ownBlock] using hq⟩
  have OD : Hid (w5.ownsRow B 3 1 (.slice ba d bc) d (cellsK .i64 d s.bf)) := own_keeps (own_take o0 d hd) (grown_below bw5.out none) (fun q hq e => by cases e)
  obtain ⟨i9, hi9, hz0, hz1, hz2⟩ := info_parts slI
  have hB5 : B ≤ w5.heap.size := Nat.le_trans hB bw5.out.size
  have hd9 : (d : Int) ≤ 4000 := by omega
  clear o0 e0'
  go_upto_region 7 with (at_builtin; refine wpList_append_where rfl (.tmp 34) (.tmp 36) 33 rfl B 3 i9 _ 1 8 Tryd.underlying33 hi9 hz0 hz1 hz2 rfl (by decide) (.slice ba d bc) d (cellsK .i64 d s.bf) rfl OD.out ba4 t.bn bc4 (cellsK .i64 t.bn t.bf) rfl (by rw [cellsK_len, Nat.mul_one]) (head_nil RB4.out.1) (row_cells RB4.out.2) (cellsK_one _ _ _) (by unfold maxLen; omega) (by omega) hB5 ?_; intro a6 c6 w6 own6 hg6 hl6; have y17' : w6.cell? ⟨g5, 17, none⟩ = some (.slice ba4 t.bn bc4) := hg6.cell y17 (by rw [er]; intro e; have := HR.out g5 e.symm; omega); have f17' : w6.frozen? ⟨g5, 17, none⟩ = false := (frozen_grown hg6 (p := ⟨g5, 17, none⟩) lt5 (by rw [er]; intro e; have := HR.out g5 e.symm; omega)).trans (F5.out 17))
  rw [er] at hg6 hl6
  have ner5 : some g5 ≠ r := fun e => by have := HR.out g5 e.symm; omega
  have PX : Hid (∀ q, r = some q → AvoidsAt C4 19 q ∧ AvoidsAt C4 20 q ∧ AvoidsAt C4 21 q) := fun q hq => by
    obtain ⟨x, e, rfl⟩ := RX.out q hq
    have hx := HR.out _ hq
    obtain ⟨p1, p2, p3⟩ := P1.out x e
    exact ⟨V4.out.avj _ _ (by omega) p1, V4.out.avj _ _ (by omega) p2, V4.out.avj _ _ (by omega) p3⟩
  rw [cellsK_add] at own6
  have WJ : ∀ j, (Lit.int .i64 (if j < d then s.bf j else t.bf (j - d))).wf = true := fun j => by
    split
    · exact HB1.out.2.1 _
    · exact RB4.out.2.1 _
  have I6 : Hid (IsSt w6 (.agg (C4.setIfInBounds 17 (.slice a6 (d + t.bn) c6))) { t with bn := d + t.bn, bf := fun j => if j < d then s.bf j else t.bf (j - d) }) := st_glue H5.out hg6 PX.out a6 (d + t.bn) c6 _ (own_ints own6 WJ)
  have LS : Hid (∀ x, a6 = some x → r = some x.block ∨ x.block = w5.heap.size) := hl6
  have LA : Hid (∀ x, a6 = some x → (B ≤ x.block ∧ x.block < w.heap.size) ∨ x.block = w5.heap.size) := fun x e => (hl6 x e).imp (HR.out _) id
  have E45 := (st_shape H4.out).1
  have A7 : Hid (At (w6.setCell ⟨g5, 17, none⟩ (.slice a6 (d + t.bn) c6)) g5 (C4.setIfInBounds 17 (.slice a6 (d + t.bn) c6))) := (at_grown A5.out hg6 ner5).set 17 (by omega) _
  have F7 : Hid (∀ q, (w6.setCell ⟨g5, 17, none⟩ (.slice a6 (d + t.bn) c6)).frozen? ⟨g5, q, none⟩ = false) := fun q => by
    have h := (frozen_grown hg6 (p := ⟨g5, q, none⟩) lt5 ner5).trans (F5.out q)
    simpa using h
  have W7 : Hid (Avoids (C4.setIfInBounds 17 (.slice a6 (d + t.bn) c6)) g5) := (avoids_new H4.out (g := g5) (by omega)).put (fun x n' c' e hn' => by
    simp only [Value.slice.injEq] at e
    have := LA.out x e.1
    omega) 17
  have I7 : Hid (IsSt (w6.setCell ⟨g5, 17, none⟩ (.slice a6 (d + t.bn) c6)) (.agg (C4.setIfInBounds 17 (.slice a6 (d + t.bn) c6))) { t with bn := d + t.bn, bf := fun j => if j < d then s.bf j else t.bf (j - d) }) := I6.out.set W7.out 17 _
  have O7 : Hid ((w6.setCell ⟨g5, 17, none⟩ (.slice a6 (d + t.bn) c6)).ownsRow B 3 1 (.slice a6 (d + t.bn) c6) (d + t.bn) (cellsK .i64 (d + t.bn) fun j => if j < d then s.bf j else t.bf (j - d))) := own_keeps own6 (grown_set _ _ _ _) (fun q hq e => by
    simp only [Option.some.injEq] at e
    cases ha : a6 with
    | none => rw [ha] at hq; cases hq
    | some x =>
      rw [ha] at hq
      have h1 : x.block = q := by simpa [Value.ownBlock] using hq
      have := LA.out x ha
      omega)
  have z20' : (w6.setCell ⟨g5, 17, none⟩ (.slice a6 (d + t.bn) c6)).cell? ⟨g2, 20, none⟩ = some (.slice ia i0 ic) := by
    rw [World.cell?_setCell_other _ _ _ _ (fun e => by have := congrArg Addr.block e; simp only [] at this; omega)]
    exact hg6.cell z20 (fun e => by have := HR.out _ e.symm; simp only [] at this; omega)
  have x20' : (w6.setCell ⟨g5, 17, none⟩ (.slice a6 (d + t.bn) c6)).cell? ⟨w.heap.size, 20, none⟩ = some (.slice ia s.inn ic) := by
    rw [World.cell?_setCell_other _ _ _ _ (fun e => by have := congrArg Addr.block e; simp only [] at this; omega)]
    exact hg6.cell x20 (fun e => by have := HR.out _ e.symm; simp only [] at this; omega)
  have SI : Hid (Bytes (w6.setCell ⟨g5, 17, none⟩ (.slice a6 (d + t.bn) c6)) ia s.inn s.inf) := by
    by_cases h0 : s.inn = 0
    · exact ⟨HI1.out.2.1, .inl h0⟩
    refine (bytes_grown (HI1.out.2.later b05.out) hg6 fun hn' x e q => ?_).set (fun b off e => ?_) 17 _
    · obtain ⟨x', e', h'⟩ := RX.out _ q.symm
      exact (HO.out.apart x' s.bn bc (by rw [D17.out, e'])).2.1 x s.inn ic (by rw [D20.out, e]) hn' h'.symm
    · have := bytes_block HI1.out.2 _ e h0
      simp only [] at this; omega
  have M7 : Hid (∃ v, C4[19]? = some v ∧ MemOwn B (w6.setCell ⟨g5, 17, none⟩ (.slice a6 (d + t.bn) c6)) v ∧ ∀ x n' c', v = .slice (some x) n' c' → n' ≠ 0 → x.block ≠ w.heap.size + 1 ∧ x.block ≠ g5) := by
    obtain e | ⟨g, n', c', e, q1, q2, q3⟩ := V4.out.mem
    · obtain ⟨v, ev, hm⟩ := HO.out.mem
      have hv := ev
      rw [D19.out] at hv
      obtain rfl := Option.some.inj hv
      have bd : ∀ x n' c', Value.slice ma s.mn mc = .slice (some x) n' c' → n' ≠ 0 → x.block < w0.heap.size := fun x n' c' e hn' => by
        simp only [Value.slice.injEq] at e
        obtain ⟨e1, rfl, -⟩ := e
        exact bytes_block HM1.out x e1 hn'
      have bq : ∀ x n' c', Value.slice ma s.mn mc = .slice (some x) n' c' → n' ≠ 0 → x.block ≠ w.heap.size + 1 := fun x n' c' e hn' => B0.out.avr 19 x n' c' (by rw [D19.out, e]) hn'
      refine ⟨_, (e.trans G19.out).trans ev, ((hm.grown (grown_below bw5.out none) (fun _ _ _ _ _ => by simp)).grown hg6 (fun g n' c' e hn' q => ?_)).grown (grown_set _ _ _ _) (fun g n' c' e hn' q => ?_), fun x n' c' e hn' => ⟨bq x n' c' e hn', by have := bd x n' c' e hn'; omega⟩⟩
      · obtain ⟨x', e', h'⟩ := RX.out _ q.symm
        exact (HO.out.apart x' s.bn bc (by rw [D17.out, e'])).1 ⟨g, 0, none⟩ n' c' (by rw [D19.out, e]) hn' h'.symm
      · have := bd _ _ _ e hn'
        simp only [Option.some.injEq] at q this
        omega
    · have hm : MemOwn B w4 (.slice (some ⟨g, 0, none⟩) n' c') := ⟨_, _, _, rfl, .inr ⟨g, rfl, by omega, q2, q3⟩⟩
      refine ⟨_, e, ((hm.grown (grown_below b45.out none) (fun _ _ _ _ _ => by simp)).grown hg6 (fun g' n' c' e hn' q => ?_)).grown (grown_set _ _ _ _) (fun g' n' c' e hn' q => ?_), fun x n' c' e hn' => ?_⟩
      · simp only [Value.slice.injEq, Option.some.injEq, Addr.mk.injEq] at e
        have := HR.out _ q.symm
        omega
      · simp only [Value.slice.injEq, Option.some.injEq, Addr.mk.injEq] at e q
        omega
      · simp only [Value.slice.injEq, Option.some.injEq] at e
        rw [← e.1]
        simp only []
        omega
  have bw7 : Hid (Below B w (w6.setCell ⟨g5, 17, none⟩ (.slice a6 (d + t.bn) c6))) := ((bw5.out.mono hB).grown hg6 hB5 (fun k hk => (HR.out k hk).1)).setCell (p := ⟨g5, 17, none⟩) (by simp only []; omega) _
  have TH7 : Hid ((w6.setCell ⟨g5, 17, none⟩ (.slice a6 (d + t.bn) c6)).there (w.heap.size + 1) 0 25) := by
    refine size_there (w' := w6) (fun j hj => ?_) _ _
    obtain ⟨h1, h2⟩ := TH.out j hj
    obtain ⟨u, hu⟩ := Option.isSome_iff_exists.1 h1
    have ne : some (w.heap.size + 1) ≠ r := fun e => by have := HR.out _ e.symm; omega
    exact ⟨by rw [hg6.cell hu ne]; rfl, (frozen_grown hg6 (p := ⟨w.heap.size + 1, 0 + j, none⟩) (World.block_lt_of_cell? w5 _ hu) ne).trans h2⟩
  clear own6 hg6 hl6 y17 y17' f17' z20 x20 A5 F5 I6 TH OD WJ
  generalize w6.setCell ⟨g5, 17, none⟩ (.slice a6 (d + t.bn) c6) = w7 at A7 F7 I7 O7 z20' x20' SI M7 bw7 TH7 ⊢
  clear w6
  have E7 : Hid ((C4.setIfInBounds 17 (.slice a6 (d + t.bn) c6))[20]? = some (.slice ia4 t.inn ic4)) := (get_ne (by omega)).trans E20.out
  have y20 : w7.cell? ⟨g5, 20, none⟩ = some (.slice ia4 t.inn ic4) := A7.out 20 _ E7.out
  have f20 : w7.frozen? ⟨g5, 20, none⟩ = false := F7.out 20
  obtain ⟨k, ek⟩ : ∃ k, i0 - t.inn = k := ⟨_, rfl⟩
  have hk : k ≤ s.inn := by omega
  have tin' : (t.inn : Int) ≤ i0 := by omega
  have i01 : (i0 : Int) ≤ 1 := by omega
  go_upto_region 8 with ((with_reducible show wpList _ _ _ (Oper.mk _ (Op.slice _ _ _ _ _) _ _ _ _ :: _) _ _); refine wpList_slice_from rfl 23 (.tmp 40) (.tmp 47) rfl ia s.inn ic k _ rfl rfl (by omega) hk unB szBy ?_)
  obtain ⟨v8, ev8⟩ : ∃ v8, Value.slice (fromA ia ic k) (s.inn - k) (ic - k) = v8 := ⟨_, rfl⟩
  obtain ⟨C7, eC7⟩ : ∃ C7, C4.setIfInBounds 17 (.slice a6 (d + t.bn) c6) = C7 := ⟨_, rfl⟩
  have U17 : Hid (C7[17]? = some (.slice a6 (d + t.bn) c6)) := by rw [← eC7]; exact get_put (by omega)
  have U19 : Hid (C7[19]? = C4[19]?) := by rw [← eC7]; exact get_ne (by omega)
  have U21 : Hid (C7[21]? = C4[21]?) := by rw [← eC7]; exact get_ne (by omega)
  have S7 : C7.size = 25 := by rw [← eC7, Array.size_setIfInBounds]; exact E45
  have J8 : Hid (IsSt w7 (.agg (C7.setIfInBounds 20 v8)) (stepY n f s)) := by
    rw [← HJ1.out, ← ev8, ← eC7]
    unfold joinZ
    rw [ed, ei, ek]
    exact put_in I7.out (fromA ia ic k) (s.inn - k) (ic - k) _ ⟨fromA_head HI1.out.1 hk, fromA_bytes SI.out HI1.out.1 hk⟩
  have K8 : Hid (∀ g, Avoids C g → Off v8 g) := fun g h0 => by
    rw [← ev8]
    intro x n' c' e hn'
    simp only [Value.slice.injEq] at e
    obtain ⟨y, e1, e2⟩ := fromA_block e.1
    rw [e2]
    exact h0 20 y s.inn ic (by rw [D20.out, e1]) (by omega)
  have N8 : Hid (∀ g, Avoids C g → g < w3.heap.size → (∀ x, a6 = some x → x.block ≠ g) → Avoids (C7.setIfInBounds 20 v8) g) := fun g h0 hg h6 => by
    rw [← eC7]
    refine ((V4.out.av g hg (V1.out g h0)).put (fun x n' c' e hn' => ?_) 17).put (K8.out g h0) 20
    simp only [Value.slice.injEq] at e
    exact h6 x e.1
  have Z8 : Hid (Off v8 g5) := by
    rw [← ev8]
    intro x n' c' e hn'
    simp only [Value.slice.injEq] at e
    obtain ⟨y, e1, e2⟩ := fromA_block e.1
    have := bytes_block HI1.out.2 y e1 (by omega)
    omega
  have W8 : Hid (Avoids (C7.setIfInBounds 20 v8) g5) := by
    have h := W7.out
    rw [eC7] at h
    exact h.put Z8.out 20
  have R8 : Hid (Avoids (C7.setIfInBounds 20 v8) (w.heap.size + 1)) := N8.out _ B0.out.avr (by omega) (fun x e => by have := LA.out x e; omega)
  have A8 : Hid (At (w7.setCell ⟨g5, 20, none⟩ v8) g5 (C7.setIfInBounds 20 v8)) := by
    have h := A7.out
    rw [eC7] at h
    exact h.set 20 (by omega) _
  have I8 : Hid (IsSt (w7.setCell ⟨g5, 20, none⟩ v8) (.agg (C7.setIfInBounds 20 v8)) (stepY n f s)) := J8.out.set W8.out 20 _
  have TH8 : Hid ((w7.setCell ⟨g5, 20, none⟩ v8).there (w.heap.size + 1) 0 25) := size_there (w' := w7) TH7.out _ _
  have bw8 : Hid (Below B w (w7.setCell ⟨g5, 20, none⟩ v8)) := bw7.out.setCell (p := ⟨g5, 20, none⟩) (by simp only []; omega) _
  have O8 : Hid ((w7.setCell ⟨g5, 20, none⟩ v8).ownsRow B 3 1 (.slice a6 (d + t.bn) c6) (d + t.bn) (cellsK .i64 (d + t.bn) fun j => if j < d then s.bf j else t.bf (j - d))) := own_keeps O7.out (grown_set _ _ _ _) (fun q hq e => by
    simp only [Option.some.injEq] at e
    cases ha : a6 with
    | none => rw [ha] at hq; cases hq
    | some x =>
      rw [ha] at hq
      have h1 : x.block = q := by simpa [Value.ownBlock] using hq
      have := LA.out x ha
      omega)
  have Y20 : Hid ((C7.setIfInBounds 20 v8)[20]? = some v8) := get_put (by omega)
  have Y17 : Hid ((C7.setIfInBounds 20 v8)[17]? = some (.slice a6 (d + t.bn) c6)) := (get_ne (by omega)).trans U17.out
  have Y19 : Hid ((C7.setIfInBounds 20 v8)[19]? = C4[19]?) := (get_ne (by omega)).trans U19.out
  have Y21 : Hid ((C7.setIfInBounds 20 v8)[21]? = C4[21]?) := (get_ne (by omega)).trans U21.out
  have M8 : Hid (∃ v, C4[19]? = some v ∧ MemOwn B (w7.setCell ⟨g5, 20, none⟩ v8) v ∧ ∀ x n' c', v = .slice (some x) n' c' → n' ≠ 0 → x.block ≠ w.heap.size + 1) := by
    obtain ⟨v, e, hm, hx⟩ := M7.out
    exact ⟨v, e, hm.grown (grown_set _ _ _ _) (fun g n' c' e hn' q => (hx _ n' c' e hn').2 (Option.some.inj q)), fun x n' c' e hn' => (hx x n' c' e hn').1⟩
  rw [ev8]
  clear y20 f20 z20' x20' A7 I7 F7 O7 SI M7 TH7 bw7 J8
  generalize w7.setCell ⟨g5, 20, none⟩ v8 = w8 at A8 I8 TH8 bw8 O8 M8 ⊢
  generalize C7.setIfInBounds 20 v8 = C8 at A8 I8 Y17 Y19 Y20 Y21 N8 W8 R8
  clear w7
  go_wp2_with (first
    | ((with_reducible show wpList _ _ _ (Oper.mk _ (Op.load _ _) _ _ _ _ :: _) _ _); refine wpList_load_if (by rfl) 37 (.tmp 7) rfl g5 0 rfl C8.toList _ (at_range A8.out) Tryd.underlying37 rfl (st_info I8.out).2 ?_)
    | ((with_reducible show wpList _ _ _ (Oper.mk _ (Op.store _ _ _) _ _ _ _ :: _) _ _); refine wpList_store_room (w := w) rfl (.tmp 4) (.tmp 50) rfl (w.heap.size + 1) C8 rfl rfl I8.out TH8.out ?_))
  have I9 := IsSt.setAll R8.out C8.toList 0 w8 I8.out
  have A9 : At (w8.setCells (w.heap.size + 1) 0 C8.toList) (w.heap.size + 1) C8 := at_of_range (World.rangeAt_setCells_same w8 _ 0 C8.toList (by rw [Array.length_toList, (st_shape I8.out).1]; exact TH8.out))
  have b9 : Below B w (w8.setCells (w.heap.size + 1) 0 C8.toList) := below_setCells _ _ _ _ bw8.out (by omega)
  have O9 := own_keeps O8.out (grown_setCells (w.heap.size + 1) C8.toList 0 w8) (fun q hq e => by
    simp only [Option.some.injEq] at e
    cases ha : a6 with
    | none => rw [ha] at hq; cases hq
    | some x =>
      rw [ha] at hq
      have h1 : x.block = q := by simpa [Value.ownBlock] using hq
      have := LA.out x ha
      omega)
  refine bodyPost_ret (v := .agg C8) (results_st rfl _ (w.heap.size + 1) (by first | rfl | simp) I9 _ A9) rfl ⟨C8, rfl, I9, ?_, b9⟩
  have jb : (stepY n f s).bn = d + t.bn := by rw [← HJ1.out, ← ed]; rfl
  have jf : (stepY n f s).bf = fun j => if j < d then s.bf j else t.bf (j - d) := by rw [← HJ1.out, ← ed]; rfl
  rw [jb, jf]
  refine ⟨⟨a6, c6, Y17.out, O9⟩, fun x n' c' e => ?_, ?_, fun g hg => N8.out g (HO.out.far g hg) (by omega) (fun x e => by have := LA.out x e; omega)⟩
  · rw [Y17.out] at e
    simp only [Option.some.injEq, Value.slice.injEq] at e
    have hx := e.1
    have A4 : AvoidsAt C4 19 x.block ∧ AvoidsAt C4 20 x.block ∧ AvoidsAt C4 21 x.block := by
      rcases LS.out x hx with h | h
      · exact PX.out _ h
      · have := avoids_new H5.out (g := x.block) (by omega)
        exact ⟨this 19, this 20, this 21⟩
    refine ⟨fun y n1 c1 e1 hn1 => A4.1 y n1 c1 (by rw [← Y19.out]; exact e1) hn1, fun y n1 c1 e1 hn1 => ?_, fun y n1 c1 e1 hn1 => A4.2.2 y n1 c1 (by rw [← Y21.out]; exact e1) hn1⟩
    rw [Y20.out, ← ev8] at e1
    simp only [Option.some.injEq, Value.slice.injEq] at e1
    obtain ⟨z, z1, z2⟩ := fromA_block e1.1
    rw [z2]
    rcases LS.out x hx with h | h
    · obtain ⟨x', e', h'⟩ := RX.out _ h
      rw [← h']
      exact (HO.out.apart x' s.bn bc (by rw [D17.out, e'])).2.1 z s.inn ic (by rw [D20.out, z1]) (by omega)
    · have := bytes_block HI1.out.2 z z1 (by omega)
      omega
  · obtain ⟨v, e, hm, hx⟩ := M8.out
    exact ⟨v, Y19.out.trans e, hm.grown (grown_setCells _ _ _ _) (fun g n' c' e hn' q => hx _ n' c' e hn' (Option.some.inj q).symm.symm)⟩
end Go.Proofs.YtnpejnjigaalfaaDoor
