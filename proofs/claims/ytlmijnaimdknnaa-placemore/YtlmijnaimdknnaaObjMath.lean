/- An object's bytes: what is read of bytes, piece by piece; what is written; that these fit. -/
import Derived.Test.YtlmijnaimdknnaaScanSpec
namespace Go.Proofs.Ytlmijnaimdknnaa
set_option linter.unusedVariables false
set_option linter.unusedSimpArgs false
/-- Bytes as numbers. -/
abbrev Bs := List Int
def Byt (b : Bs) : Prop := ∀ x ∈ b, 0 ≤ x ∧ x < 256
/-- Where a reader stands: the bytes left, or the first error. -/
inductive St where
  | good (b : Bs)
  | bad (e : Int)
/-- What reads. -/
abbrev Rdr (α : Type) := St → α × St
def Keeps {α : Type} (f : Rdr α) : Prop := ∀ e, (f (.bad e)).2 = .bad e
def Fits {α : Type} (f : Rdr α) (wr : α → Bs) (ok : α → Prop) : Prop :=
  (∀ x rest, ok x → f (.good (wr x ++ rest)) = (x, .good rest)) ∧ (∀ b x rest, Byt b → f (.good b) = (x, .good rest) → b = wr x ++ rest ∧ ok x)
theorem Byt.tail {a b : Bs} (h : Byt (a ++ b)) : Byt b := fun x hx => h x (List.mem_append_right a hx)
theorem Byt.head {a b : Bs} (h : Byt (a ++ b)) : Byt a := fun x hx => h x (List.mem_append_left b hx)
/-- One behind another. -/
def bindR {α β : Type} (f : Rdr α) (g : α → Rdr β) : Rdr β := fun s => g (f s).1 (f s).2
def pureR {α : Type} (x : α) : Rdr α := fun s => (x, s)
theorem keeps_pure {α : Type} (x : α) : Keeps (pureR x) := fun e => rfl
theorem keeps_bind {α β : Type} {f : Rdr α} {g : α → Rdr β} (hf : Keeps f) (hg : ∀ x, Keeps (g x)) : Keeps (bindR f g) := fun e => by
  unfold bindR; rw [hf e]; exact hg _ e
theorem bind_back {α β : Type} {f : Rdr α} {g : α → Rdr β} (hg : ∀ x, Keeps (g x)) {b r : Bs} {y : β} (h : bindR f g (.good b) = (y, .good r)) : ∃ x b1, f (.good b) = (x, .good b1) ∧ g x (.good b1) = (y, .good r) := by
  unfold bindR at h
  cases hs : f (.good b) with
  | mk x s =>
    rw [hs] at h
    cases s with
    | good b1 => exact ⟨x, b1, rfl, h⟩
    | bad e =>
      have := hg x e
      rw [show g x (.bad e) = (y, .good r) from h] at this
      cases this
theorem bind_fwd {α β : Type} {f : Rdr α} {g : α → Rdr β} {b b1 : Bs} {x : α} (h : f (.good b) = (x, .good b1)) : bindR f g (.good b) = g x (.good b1) := by
  unfold bindR; rw [h]
/-- So many bytes. -/
def takeR (n : Nat) : Rdr Bs := fun s => match s with
  | .good b => if n ≤ b.length then (b.take n, .good (b.drop n)) else (List.replicate n 0, .bad 2)
  | .bad e => (List.replicate n 0, .bad e)
theorem keeps_take (n : Nat) : Keeps (takeR n) := fun e => rfl
theorem fits_take (n : Nat) : Fits (takeR n) (fun l => l) (fun l => l.length = n) := by
  refine ⟨fun x rest h => ?_, fun b x rest hb h => ?_⟩
  · unfold takeR
    dsimp only
    rw [if_pos (by rw [List.length_append]; omega)]
    subst h
    simp
  · unfold takeR at h
    dsimp only at h
    split at h
    · simp only [Prod.mk.injEq, St.good.injEq] at h
      obtain ⟨rfl, rfl⟩ := h
      exact ⟨(List.take_append_drop n b).symm, by show (List.take n b).length = n; rw [List.length_take]; omega⟩
    · simp at h
/-- It must be. -/
def mustR (c : Bool) : Rdr Unit := fun s => match s with
  | .good b => ((), if c = true then .good b else .bad 4)
  | .bad e => ((), .bad e)
theorem keeps_must (c : Bool) : Keeps (mustR c) := fun e => rfl
theorem must_fwd {c : Bool} (h : c = true) (b : Bs) : mustR c (.good b) = ((), .good b) := by unfold mustR; simp [h]
theorem must_back {c : Bool} {b r : Bs} {u : Unit} (h : mustR c (.good b) = (u, .good r)) : c = true ∧ b = r := by
  unfold mustR at h
  cases c
  · simp at h
  · simpa using h
/-- A number's bytes, the lowest first; and back. -/
def digL : Nat → Int → Bs
  | 0, _ => []
  | n + 1, x => x % 256 :: digL n (x / 256)
def sumL : Bs → Int
  | [] => 0
  | x :: l => x + 256 * sumL l
theorem digL_len (n : Nat) (x : Int) : (digL n x).length = n := by
  induction n generalizing x with
  | zero => rfl
  | succ n ih => simp [digL, ih]
theorem digL_byt (n : Nat) (x : Int) : Byt (digL n x) := by
  induction n generalizing x with
  | zero => intro y hy; cases hy
  | succ n ih =>
    intro y hy
    rcases List.mem_cons.mp hy with rfl | h
    · exact ⟨Int.emod_nonneg _ (by decide), Int.emod_lt_of_pos _ (by decide)⟩
    · exact ih _ y h
theorem sum_digL (n : Nat) : ∀ x : Int, 0 ≤ x → x < 256 ^ n → sumL (digL n x) = x := by
  induction n with
  | zero => intro x h0 h1; simp at h1; simp [digL, sumL]; omega
  | succ n ih =>
    intro x h0 h1
    have e : (256 : Int) ^ (n + 1) = 256 ^ n * 256 := Int.pow_succ ..
    show x % 256 + 256 * sumL (digL n (x / 256)) = x
    rw [ih (x / 256) (by omega) (by omega)]
    omega
theorem digL_sum : ∀ l : Bs, Byt l → digL l.length (sumL l) = l := by
  intro l
  induction l with
  | nil => intro _; rfl
  | cons x l ih =>
    intro h
    have hx := h x (List.mem_cons_self ..)
    have hl : Byt l := fun y hy => h y (List.mem_cons_of_mem _ hy)
    show (x + 256 * sumL l) % 256 :: digL l.length ((x + 256 * sumL l) / 256) = x :: l
    rw [show (x + 256 * sumL l) / 256 = sumL l from by omega, ih hl, show (x + 256 * sumL l) % 256 = x from by omega]
theorem sumL_bd : ∀ l : Bs, Byt l → 0 ≤ sumL l ∧ sumL l < 256 ^ l.length := by
  intro l
  induction l with
  | nil => intro _; simp [sumL]
  | cons x l ih =>
    intro h
    have hx := h x (List.mem_cons_self ..)
    have hl := ih fun y hy => h y (List.mem_cons_of_mem _ hy)
    have e : (256 : Int) ^ (l.length + 1) = 256 ^ l.length * 256 := Int.pow_succ ..
    show 0 ≤ x + 256 * sumL l ∧ x + 256 * sumL l < 256 ^ (l.length + 1)
    omega
/-- A number of n bytes. -/
def numR (n : Nat) : Rdr Int := bindR (takeR n) fun l => pureR (sumL l)
theorem keeps_num (n : Nat) : Keeps (numR n) := keeps_bind (keeps_take n) fun _ => keeps_pure _
theorem fits_num (n : Nat) : Fits (numR n) (digL n) (fun x => 0 ≤ x ∧ x < 256 ^ n) := by
  refine ⟨fun x rest h => ?_, fun b x rest hb h => ?_⟩
  · unfold numR
    rw [bind_fwd ((fits_take n).1 (digL n x) rest (digL_len n x))]
    show (sumL (digL n x), _) = _
    rw [sum_digL n x h.1 h.2]
  · obtain ⟨l, b1, h1, h2⟩ := bind_back (fun _ => keeps_pure _) h
    obtain ⟨rfl, h4⟩ := (fits_take n).2 b l b1 hb h1
    simp only [pureR, Prod.mk.injEq, St.good.injEq] at h2
    obtain ⟨rfl, rfl⟩ := h2
    have hl := hb.head
    subst h4
    exact ⟨by rw [digL_sum l hl], sumL_bd l hl⟩
/-- A number of two bytes, of at most so much: a count. -/
def countR (most : Nat) : Rdr Int := bindR (numR 2) fun n => bindR (mustR (decide (n ≤ most))) fun _ => fun s => match s with
  | .good b => (n, .good b)
  | .bad e => (0, .bad e)
theorem keeps_count (m : Nat) : Keeps (countR m) := keeps_bind (keeps_num 2) fun _ => keeps_bind (keeps_must _) fun _ => fun e => rfl
theorem fits_count (m : Nat) (hm : m ≤ 65535) : Fits (countR m) (digL 2) (fun x => 0 ≤ x ∧ x ≤ m) := by
  refine ⟨fun x rest h => ?_, fun b x rest hb h => ?_⟩
  · unfold countR
    rw [bind_fwd ((fits_num 2).1 x rest ⟨h.1, by have : (256 : Int) ^ 2 = 65536 := by decide
                                                 omega⟩), bind_fwd (must_fwd (by simpa using h.2) rest)]
  · obtain ⟨y, b1, h1, h2⟩ := bind_back (fun _ => keeps_bind (keeps_must _) fun _ => fun e => rfl) h
    obtain ⟨u, b2, h3, h4⟩ := bind_back (fun _ => fun e => rfl) h2
    obtain ⟨hc, rfl⟩ := must_back h3
    obtain ⟨rfl, h6⟩ := (fits_num 2).2 b y b1 hb h1
    simp only [Prod.mk.injEq, St.good.injEq] at h4
    obtain ⟨rfl, rfl⟩ := h4
    exact ⟨rfl, h6.1, by simpa using hc⟩
/-- So many of them, or till there is an error. -/
def timesR {α : Type} (f : Rdr α) : Nat → Rdr (List α)
  | 0 => fun s => ([], s)
  | n + 1 => fun s => match s with
    | .bad e => ([], .bad e)
    | .good b => bindR f (fun x => bindR (timesR f n) fun l => pureR (x :: l)) (.good b)
theorem keeps_times {α : Type} (f : Rdr α) (n : Nat) : Keeps (timesR f n) := fun e => by cases n <;> rfl
def flatW {α : Type} (wr : α → Bs) (l : List α) : Bs := l.flatMap wr
theorem fits_times {α : Type} {f : Rdr α} {wr : α → Bs} {ok : α → Prop} (h : Fits f wr ok) (n : Nat) : Fits (timesR f n) (flatW wr) (fun l => l.length = n ∧ ∀ x ∈ l, ok x) := by
  induction n with
  | zero =>
    refine ⟨fun x rest hx => ?_, fun b x rest hb hx => ?_⟩
    · obtain rfl := List.eq_nil_of_length_eq_zero hx.1; rfl
    · simp only [timesR, Prod.mk.injEq, St.good.injEq] at hx
      obtain ⟨rfl, rfl⟩ := hx
      exact ⟨rfl, rfl, fun _ h => by cases h⟩
  | succ n ih =>
    refine ⟨fun x rest hx => ?_, fun b x rest hb hx => ?_⟩
    · obtain ⟨y, l, rfl⟩ := List.exists_cons_of_length_eq_add_one hx.1
      have e : flatW wr (y :: l) ++ rest = wr y ++ (flatW wr l ++ rest) := by simp [flatW]
      rw [e]
      show bindR f (fun x => bindR (timesR f n) fun l => pureR (x :: l)) (.good _) = _
      rw [bind_fwd (h.1 y _ (hx.2 y (List.mem_cons_self ..))), bind_fwd (ih.1 l rest ⟨by simpa using hx.1, fun z hz => hx.2 z (List.mem_cons_of_mem _ hz)⟩)]
      rfl
    · obtain ⟨y, b1, h1, h2⟩ := bind_back (fun _ => keeps_bind (keeps_times f n) fun _ => keeps_pure _) (show bindR f (fun x => bindR (timesR f n) fun l => pureR (x :: l)) (.good b) = _ from hx)
      obtain ⟨l, b2, h3, h4⟩ := bind_back (fun _ => keeps_pure _) h2
      obtain ⟨rfl, hy⟩ := h.2 b y b1 hb h1
      obtain ⟨rfl, hl1, hl2⟩ := ih.2 b1 l b2 hb.tail h3
      simp only [pureR, Prod.mk.injEq, St.good.injEq] at h4
      obtain ⟨rfl, rfl⟩ := h4
      refine ⟨by simp [flatW], by simp [hl1], fun z hz => ?_⟩
      rcases List.mem_cons.mp hz with rfl | hz
      · exact hy
      · exact hl2 z hz
/-- A count of them, and they. -/
def listR {α : Type} (most : Nat) (f : Rdr α) : Rdr (List α) := bindR (countR most) fun n => timesR f n.toNat
def listW {α : Type} (wr : α → Bs) (l : List α) : Bs := digL 2 l.length ++ flatW wr l
theorem keeps_list {α : Type} (m : Nat) (f : Rdr α) : Keeps (listR m f) := keeps_bind (keeps_count m) fun _ => keeps_times f _
theorem fits_list {α : Type} {f : Rdr α} {wr : α → Bs} {ok : α → Prop} (h : Fits f wr ok) (m : Nat) (hm : m ≤ 65535) : Fits (listR m f) (listW wr) (fun l => l.length ≤ m ∧ ∀ x ∈ l, ok x) := by
  refine ⟨fun x rest hx => ?_, fun b x rest hb hx => ?_⟩
  · unfold listR listW
    rw [List.append_assoc, bind_fwd ((fits_count m hm).1 x.length _ ⟨by omega, by have := hx.1; omega⟩), Int.toNat_natCast]
    exact (fits_times h x.length).1 x rest ⟨rfl, hx.2⟩
  · obtain ⟨y, b1, h1, h2⟩ := bind_back (fun _ => keeps_times f _) hx
    obtain ⟨rfl, hy⟩ := (fits_count m hm).2 b y b1 hb h1
    obtain ⟨rfl, hl, ho⟩ := (fits_times h y.toNat).2 b1 x rest hb.tail h2
    refine ⟨?_, by omega, ho⟩
    unfold listW
    rw [List.append_assoc, hl, Int.toNat_of_nonneg hy.1]
/-- A text's bytes, and back. -/
def bytesL (t : ByteArray) : Bs := t.data.toList.map fun b => (b.toNat : Int)
def textL (l : Bs) : ByteArray := strOfNums l
theorem bytesL_len (t : ByteArray) : (bytesL t).length = t.size := by simp [bytesL]
theorem bytesL_byt (t : ByteArray) : Byt (bytesL t) := by
  intro x hx
  obtain ⟨y, _, rfl⟩ := List.mem_map.mp hx
  have := y.toNat_lt
  omega
theorem text_bytesL (t : ByteArray) : textL (bytesL t) = t := by
  unfold textL strOfNums bytesL
  obtain ⟨⟨l⟩⟩ := t
  simp
  exact (List.map_congr_left fun x _ => by simp).trans (List.map_id l)
theorem bytes_textL : ∀ l : Bs, Byt l → bytesL (textL l) = l := by
  intro l h
  unfold textL strOfNums bytesL
  rw [List.toList_toArray, List.map_map]
  refine (List.map_congr_left fun x hx => ?_).trans (List.map_id l)
  have := h x hx
  simp
  omega
theorem textL_size (l : Bs) : (textL l).size = l.length := strOfNums_size l
theorem dig1 {x : Int} (h0 : 0 ≤ x) (h1 : x < 256) : digL 1 x = [x] := by
  show [x % 256] = [x]
  rw [Int.emod_eq_of_lt h0 h1]
/-- A name. -/
def nameR : Rdr ByteArray := bindR (numR 1) fun n => bindR (takeR n.toNat) fun l => bindR (mustR (namedB (textL l))) fun _ => pureR (textL l)
def nameW (t : ByteArray) : Bs := digL 1 t.size ++ bytesL t
theorem named_len {t : ByteArray} (h : namedB t = true) : 1 ≤ t.size ∧ t.size ≤ 32 := by
  unfold namedB at h
  rw [decide_eq_true_eq] at h
  exact ⟨h.1, h.2.1⟩
theorem keeps_name : Keeps nameR := keeps_bind (keeps_num 1) fun _ => keeps_bind (keeps_take _) fun _ => keeps_bind (keeps_must _) fun _ => keeps_pure _
theorem fits_name : Fits nameR nameW (fun t => namedB t = true) := by
  refine ⟨fun t rest h => ?_, fun b t rest hb h => ?_⟩
  · have hl := named_len h
    unfold nameR nameW
    rw [List.append_assoc, bind_fwd ((fits_num 1).1 t.size _ ⟨by omega, by simp; omega⟩), Int.toNat_natCast, bind_fwd ((fits_take t.size).1 (bytesL t) rest (bytesL_len t)),
      bind_fwd (must_fwd (by rw [text_bytesL]; exact h) rest), text_bytesL]
    rfl
  · obtain ⟨n, b1, h1, h2⟩ := bind_back (fun _ => keeps_bind (keeps_take _) fun _ => keeps_bind (keeps_must _) fun _ => keeps_pure _) h
    obtain ⟨l, b2, h3, h4⟩ := bind_back (fun _ => keeps_bind (keeps_must _) fun _ => keeps_pure _) h2
    obtain ⟨u, b3, h5, h6⟩ := bind_back (fun _ => keeps_pure _) h4
    obtain ⟨hc, rfl⟩ := must_back h5
    obtain ⟨rfl, hn⟩ := (fits_num 1).2 b n b1 hb h1
    obtain ⟨rfl, hl⟩ := (fits_take _).2 b1 l b2 hb.tail h3
    simp only [pureR, Prod.mk.injEq, St.good.injEq] at h6
    obtain ⟨rfl, rfl⟩ := h6
    refine ⟨?_, hc⟩
    unfold nameW
    rw [textL_size, bytes_textL l hb.tail.head, hl, Int.toNat_of_nonneg hn.1, List.append_assoc]
/-- A relocation. -/
structure RelM where
  at_ : Int
  kind : Int
  name : ByteArray
  add : Int
def relR : Rdr RelM := bindR (numR 2) fun a => bindR (numR 1) fun k => bindR nameR fun t => bindR (numR 4) fun d => bindR (mustR (decide (-1048576 ≤ d - 2147483648 ∧ d - 2147483648 ≤ 1048576))) fun _ => pureR ⟨a, k, t, d - 2147483648⟩
def relW (r : RelM) : Bs := digL 2 r.at_ ++ (digL 1 r.kind ++ (nameW r.name ++ digL 4 (r.add + 2147483648)))
def relOk (r : RelM) : Prop := (0 ≤ r.at_ ∧ r.at_ ≤ 65535) ∧ (0 ≤ r.kind ∧ r.kind ≤ 255) ∧ namedB r.name = true ∧ -1048576 ≤ r.add ∧ r.add ≤ 1048576
theorem p256_1 : (256 : Int) ^ 1 = 256 := by decide
theorem p256_2 : (256 : Int) ^ 2 = 65536 := by decide
theorem p256_4 : (256 : Int) ^ 4 = 4294967296 := by decide
theorem keeps_rel : Keeps relR := keeps_bind (keeps_num 2) fun _ => keeps_bind (keeps_num 1) fun _ => keeps_bind keeps_name fun _ => keeps_bind (keeps_num 4) fun _ => keeps_bind (keeps_must _) fun _ => keeps_pure _
theorem fits_rel : Fits relR relW relOk := by
  refine ⟨fun r rest h => ?_, fun b r rest hb h => ?_⟩
  · obtain ⟨h1, h2, h3, h4, h5⟩ := h
    unfold relR relW
    simp only [List.append_assoc]
    rw [bind_fwd ((fits_num 2).1 r.at_ _ ⟨h1.1, by rw [p256_2]; omega⟩), bind_fwd ((fits_num 1).1 r.kind _ ⟨h2.1, by rw [p256_1]; omega⟩), bind_fwd (fits_name.1 r.name _ h3),
      bind_fwd ((fits_num 4).1 (r.add + 2147483648) rest ⟨by omega, by rw [p256_4]; omega⟩), bind_fwd (must_fwd (by rw [decide_eq_true_eq]; omega) rest)]
    show (RelM.mk _ _ _ _, _) = _
    rw [show r.add + 2147483648 - 2147483648 = r.add from by omega]
  · obtain ⟨a, b1, h1, h⟩ := bind_back (fun _ => keeps_bind (keeps_num 1) fun _ => keeps_bind keeps_name fun _ => keeps_bind (keeps_num 4) fun _ => keeps_bind (keeps_must _) fun _ => keeps_pure _) h
    obtain ⟨k, b2, h2, h⟩ := bind_back (fun _ => keeps_bind keeps_name fun _ => keeps_bind (keeps_num 4) fun _ => keeps_bind (keeps_must _) fun _ => keeps_pure _) h
    obtain ⟨t, b3, h3, h⟩ := bind_back (fun _ => keeps_bind (keeps_num 4) fun _ => keeps_bind (keeps_must _) fun _ => keeps_pure _) h
    obtain ⟨d, b4, h4, h⟩ := bind_back (fun _ => keeps_bind (keeps_must _) fun _ => keeps_pure _) h
    obtain ⟨u, b5, h5, hz⟩ := bind_back (fun _ => keeps_pure _) h
    obtain ⟨hc, rfl⟩ := must_back h5
    obtain ⟨rfl, q1⟩ := (fits_num 2).2 b a b1 hb h1
    obtain ⟨rfl, q2⟩ := (fits_num 1).2 b1 k b2 hb.tail h2
    obtain ⟨rfl, q3⟩ := fits_name.2 b2 t b3 hb.tail.tail h3
    obtain ⟨rfl, q4⟩ := (fits_num 4).2 b3 d b4 hb.tail.tail.tail h4
    rw [p256_2] at q1
    rw [p256_1] at q2
    rw [decide_eq_true_eq] at hc
    simp only [pureR, Prod.mk.injEq, St.good.injEq] at hz
    obtain ⟨rfl, rfl⟩ := hz
    refine ⟨?_, ⟨q1.1, by show a ≤ 65535; omega⟩, ⟨q2.1, by show k ≤ 255; omega⟩, q3, hc.1, hc.2⟩
    unfold relW
    rw [show d - 2147483648 + 2147483648 = d from by omega]
    simp only [List.append_assoc]
/-- A function. -/
structure FuncM where
  name : ByteArray
  bind : Int
  code : List Int
  rels : List RelM
def bindB (x : Int) : Bool := decide (0 < x)
def funcR : Rdr FuncM := bindR nameR fun t => bindR (numR 1) fun b => bindR (mustR (bindB b)) fun _ => bindR (listR 2000 (numR 4)) fun c => bindR (listR 64 relR) fun l => pureR ⟨t, b, c, l⟩
def funcW (f : FuncM) : Bs := nameW f.name ++ (digL 1 f.bind ++ (listW (digL 4) f.code ++ listW relW f.rels))
def funcOk (f : FuncM) : Prop := namedB f.name = true ∧ (1 ≤ f.bind ∧ f.bind ≤ 255) ∧ (f.code.length ≤ 2000 ∧ ∀ x ∈ f.code, 0 ≤ x ∧ x < 4294967296) ∧ (f.rels.length ≤ 64 ∧ ∀ r ∈ f.rels, relOk r)
theorem keeps_func : Keeps funcR := keeps_bind keeps_name fun _ => keeps_bind (keeps_num 1) fun _ => keeps_bind (keeps_must _) fun _ => keeps_bind (keeps_list _ _) fun _ => keeps_bind (keeps_list _ _) fun _ => keeps_pure _
theorem fits_words : Fits (listR 2000 (numR 4)) (listW (digL 4)) (fun l => l.length ≤ 2000 ∧ ∀ x ∈ l, 0 ≤ x ∧ x < 256 ^ 4) := fits_list (fits_num 4) 2000 (by omega)
theorem fits_rels : Fits (listR 64 relR) (listW relW) (fun l => l.length ≤ 64 ∧ ∀ x ∈ l, relOk x) := fits_list fits_rel 64 (by omega)
theorem fits_func : Fits funcR funcW funcOk := by
  refine ⟨fun f rest h => ?_, fun b f rest hb h => ?_⟩
  · obtain ⟨h1, h2, h3, h4⟩ := h
    unfold funcR funcW
    simp only [List.append_assoc]
    rw [bind_fwd (fits_name.1 f.name _ h1), bind_fwd ((fits_num 1).1 f.bind _ ⟨by omega, by rw [p256_1]; omega⟩), bind_fwd (must_fwd (by unfold bindB; rw [decide_eq_true_eq]; omega) _),
      bind_fwd (fits_words.1 f.code _ ⟨h3.1, by rw [p256_4]; exact h3.2⟩), bind_fwd (fits_rels.1 f.rels rest h4)]
    rfl
  · obtain ⟨t, b1, h1, h⟩ := bind_back (fun _ => keeps_bind (keeps_num 1) fun _ => keeps_bind (keeps_must _) fun _ => keeps_bind (keeps_list _ _) fun _ => keeps_bind (keeps_list _ _) fun _ => keeps_pure _) h
    obtain ⟨d, b2, h2, h⟩ := bind_back (fun _ => keeps_bind (keeps_must _) fun _ => keeps_bind (keeps_list _ _) fun _ => keeps_bind (keeps_list _ _) fun _ => keeps_pure _) h
    obtain ⟨u, b3, h3, h⟩ := bind_back (fun _ => keeps_bind (keeps_list _ _) fun _ => keeps_bind (keeps_list _ _) fun _ => keeps_pure _) h
    obtain ⟨c, b4, h4, h⟩ := bind_back (fun _ => keeps_bind (keeps_list _ _) fun _ => keeps_pure _) h
    obtain ⟨l, b5, h5, hz⟩ := bind_back (fun _ => keeps_pure _) h
    obtain ⟨hc, rfl⟩ := must_back h3
    obtain ⟨rfl, q1⟩ := fits_name.2 b t b1 hb h1
    obtain ⟨rfl, q2⟩ := (fits_num 1).2 b1 d b2 hb.tail h2
    obtain ⟨rfl, q3⟩ := fits_words.2 b2 c b4 hb.tail.tail h4
    obtain ⟨rfl, q4⟩ := fits_rels.2 b4 l b5 hb.tail.tail.tail h5
    rw [p256_1] at q2
    rw [p256_4] at q3
    unfold bindB at hc
    rw [decide_eq_true_eq] at hc
    simp only [pureR, Prod.mk.injEq, St.good.injEq] at hz
    obtain ⟨rfl, rfl⟩ := hz
    refine ⟨?_, q1, ⟨by show 1 ≤ d; omega, by show d ≤ 255; omega⟩, q3, q4⟩
    unfold funcW
    simp only [List.append_assoc]
/-- Data. -/
structure DataM where
  name : ByteArray
  bind : Int
  align : Int
  fixed : Bool
  size : Int
  bytes : Bs
  rels : List RelM
def bytesR (m : Nat) : Rdr Bs := bindR (countR m) fun n => takeR n.toNat
def bytesW (l : Bs) : Bs := digL 2 l.length ++ l
theorem keeps_bytes (m : Nat) : Keeps (bytesR m) := keeps_bind (keeps_count m) fun _ => keeps_take _
theorem fits_bytes (m : Nat) (hm : m ≤ 65535) : Fits (bytesR m) bytesW (fun l => l.length ≤ m ∧ Byt l) := by
  refine ⟨fun x rest hx => ?_, fun b x rest hb hx => ?_⟩
  · unfold bytesR bytesW
    rw [List.append_assoc, bind_fwd ((fits_count m hm).1 x.length _ ⟨by omega, by have := hx.1; omega⟩), Int.toNat_natCast]
    exact (fits_take x.length).1 x rest rfl
  · obtain ⟨y, b1, h1, h2⟩ := bind_back (fun _ => keeps_take _) hx
    obtain ⟨rfl, hy⟩ := (fits_count m hm).2 b y b1 hb h1
    obtain ⟨rfl, hl⟩ := (fits_take y.toNat).2 b1 x rest hb.tail h2
    refine ⟨?_, by omega, hb.tail.head⟩
    unfold bytesW
    rw [List.append_assoc, hl, Int.toNat_of_nonneg hy.1]
def fixW (f : Bool) : Int := if f = true then 1 else 0
def dataR : Rdr DataM := bindR nameR fun t => bindR (numR 1) fun b => bindR (mustR (bindB b)) fun _ => bindR (numR 1) fun a => bindR (numR 1) fun x => bindR (mustR (decide (x ≤ 1))) fun _ => bindR (numR 2) fun z => bindR (bytesR 4096) fun c => bindR (listR 64 relR) fun l => pureR ⟨t, b, a, decide (x = 1), z, c, l⟩
def dataW (d : DataM) : Bs := nameW d.name ++ (digL 1 d.bind ++ (digL 1 d.align ++ (digL 1 (fixW d.fixed) ++ (digL 2 d.size ++ (bytesW d.bytes ++ listW relW d.rels)))))
def dataOk (d : DataM) : Prop := namedB d.name = true ∧ (1 ≤ d.bind ∧ d.bind ≤ 255) ∧ (0 ≤ d.align ∧ d.align ≤ 255) ∧ (0 ≤ d.size ∧ d.size ≤ 65535) ∧ (d.bytes.length ≤ 4096 ∧ Byt d.bytes) ∧ (d.rels.length ≤ 64 ∧ ∀ r ∈ d.rels, relOk r)
theorem keeps_data : Keeps dataR := keeps_bind keeps_name fun _ => keeps_bind (keeps_num 1) fun _ => keeps_bind (keeps_must _) fun _ => keeps_bind (keeps_num 1) fun _ => keeps_bind (keeps_num 1) fun _ => keeps_bind (keeps_must _) fun _ => keeps_bind (keeps_num 2) fun _ => keeps_bind (keeps_bytes _) fun _ => keeps_bind (keeps_list _ _) fun _ => keeps_pure _
theorem fits_data : Fits dataR dataW dataOk := by
  refine ⟨fun d rest h => ?_, fun b d rest hb h => ?_⟩
  · obtain ⟨h1, h2, h3, h4, h5, h6⟩ := h
    have hx : 0 ≤ fixW d.fixed ∧ fixW d.fixed ≤ 1 ∧ decide (fixW d.fixed = 1) = d.fixed := by unfold fixW; cases d.fixed <;> decide
    unfold dataR dataW
    simp only [List.append_assoc]
    rw [bind_fwd (fits_name.1 d.name _ h1), bind_fwd ((fits_num 1).1 d.bind _ ⟨by omega, by rw [p256_1]; omega⟩), bind_fwd (must_fwd (by unfold bindB; rw [decide_eq_true_eq]; omega) _),
      bind_fwd ((fits_num 1).1 d.align _ ⟨by omega, by rw [p256_1]; omega⟩), bind_fwd ((fits_num 1).1 (fixW d.fixed) _ ⟨hx.1, by rw [p256_1]; omega⟩), bind_fwd (must_fwd (by rw [decide_eq_true_eq]; omega) _),
      bind_fwd ((fits_num 2).1 d.size _ ⟨by omega, by rw [p256_2]; omega⟩), bind_fwd ((fits_bytes 4096 (by omega)).1 d.bytes _ h5), bind_fwd (fits_rels.1 d.rels rest h6), hx.2.2]
    rfl
  · obtain ⟨t, b1, h1, h⟩ := bind_back (fun _ => keeps_bind (keeps_num 1) fun _ => keeps_bind (keeps_must _) fun _ => keeps_bind (keeps_num 1) fun _ => keeps_bind (keeps_num 1) fun _ => keeps_bind (keeps_must _) fun _ => keeps_bind (keeps_num 2) fun _ => keeps_bind (keeps_bytes _) fun _ => keeps_bind (keeps_list _ _) fun _ => keeps_pure _) h
    obtain ⟨g, b2, h2, h⟩ := bind_back (fun _ => keeps_bind (keeps_must _) fun _ => keeps_bind (keeps_num 1) fun _ => keeps_bind (keeps_num 1) fun _ => keeps_bind (keeps_must _) fun _ => keeps_bind (keeps_num 2) fun _ => keeps_bind (keeps_bytes _) fun _ => keeps_bind (keeps_list _ _) fun _ => keeps_pure _) h
    obtain ⟨u, b3, h3, h⟩ := bind_back (fun _ => keeps_bind (keeps_num 1) fun _ => keeps_bind (keeps_num 1) fun _ => keeps_bind (keeps_must _) fun _ => keeps_bind (keeps_num 2) fun _ => keeps_bind (keeps_bytes _) fun _ => keeps_bind (keeps_list _ _) fun _ => keeps_pure _) h
    obtain ⟨a, b4, h4, h⟩ := bind_back (fun _ => keeps_bind (keeps_num 1) fun _ => keeps_bind (keeps_must _) fun _ => keeps_bind (keeps_num 2) fun _ => keeps_bind (keeps_bytes _) fun _ => keeps_bind (keeps_list _ _) fun _ => keeps_pure _) h
    obtain ⟨x, b5, h5, h⟩ := bind_back (fun _ => keeps_bind (keeps_must _) fun _ => keeps_bind (keeps_num 2) fun _ => keeps_bind (keeps_bytes _) fun _ => keeps_bind (keeps_list _ _) fun _ => keeps_pure _) h
    obtain ⟨u', b6, h6, h⟩ := bind_back (fun _ => keeps_bind (keeps_num 2) fun _ => keeps_bind (keeps_bytes _) fun _ => keeps_bind (keeps_list _ _) fun _ => keeps_pure _) h
    obtain ⟨z, b7, h7, h⟩ := bind_back (fun _ => keeps_bind (keeps_bytes _) fun _ => keeps_bind (keeps_list _ _) fun _ => keeps_pure _) h
    obtain ⟨c, b8, h8, h⟩ := bind_back (fun _ => keeps_bind (keeps_list _ _) fun _ => keeps_pure _) h
    obtain ⟨l, b9, h9, hz⟩ := bind_back (fun _ => keeps_pure _) h
    obtain ⟨hc, rfl⟩ := must_back h3
    obtain ⟨hc2, rfl⟩ := must_back h6
    obtain ⟨rfl, q1⟩ := fits_name.2 b t b1 hb h1
    obtain ⟨rfl, q2⟩ := (fits_num 1).2 b1 g b2 hb.tail h2
    obtain ⟨rfl, q3⟩ := (fits_num 1).2 b2 a b4 hb.tail.tail h4
    obtain ⟨rfl, q4⟩ := (fits_num 1).2 b4 x b5 hb.tail.tail.tail h5
    obtain ⟨rfl, q5⟩ := (fits_num 2).2 b5 z b7 hb.tail.tail.tail.tail h7
    obtain ⟨rfl, q6⟩ := (fits_bytes 4096 (by omega)).2 b7 c b8 hb.tail.tail.tail.tail.tail h8
    obtain ⟨rfl, q7⟩ := fits_rels.2 b8 l b9 hb.tail.tail.tail.tail.tail.tail h9
    rw [p256_1] at q2 q3 q4
    rw [p256_2] at q5
    unfold bindB at hc
    rw [decide_eq_true_eq] at hc hc2
    simp only [pureR, Prod.mk.injEq, St.good.injEq] at hz
    obtain ⟨rfl, rfl⟩ := hz
    refine ⟨?_, q1, ⟨by show 1 ≤ g; omega, by show g ≤ 255; omega⟩, ⟨q3.1, by show a ≤ 255; omega⟩, ⟨q5.1, by show z ≤ 65535; omega⟩, q6, q7⟩
    have hx : fixW (decide (x = 1)) = x := by
      unfold fixW
      by_cases e : x = 1
      · rw [if_pos (by simpa using e), e]
      · rw [if_neg (by simpa using e)]; omega
    unfold dataW
    dsimp only
    rw [hx]
    simp only [List.append_assoc]
/-- A note. -/
structure NoteM where
  name : ByteArray
  kind : Int
def noteR : Rdr NoteM := bindR nameR fun t => bindR (numR 1) fun k => pureR ⟨t, k⟩
def noteW (x : NoteM) : Bs := nameW x.name ++ digL 1 x.kind
def noteOk (x : NoteM) : Prop := namedB x.name = true ∧ 0 ≤ x.kind ∧ x.kind ≤ 255
theorem keeps_note : Keeps noteR := keeps_bind keeps_name fun _ => keeps_bind (keeps_num 1) fun _ => keeps_pure _
theorem fits_note : Fits noteR noteW noteOk := by
  refine ⟨fun x rest h => ?_, fun b x rest hb h => ?_⟩
  · unfold noteR noteW
    rw [List.append_assoc, bind_fwd (fits_name.1 x.name _ h.1), bind_fwd ((fits_num 1).1 x.kind rest ⟨h.2.1, by rw [p256_1]; have := h.2.2; omega⟩)]
    rfl
  · obtain ⟨t, b1, h1, h⟩ := bind_back (fun _ => keeps_bind (keeps_num 1) fun _ => keeps_pure _) h
    obtain ⟨k, b2, h2, hz⟩ := bind_back (fun _ => keeps_pure _) h
    obtain ⟨rfl, q1⟩ := fits_name.2 b t b1 hb h1
    obtain ⟨rfl, q2⟩ := (fits_num 1).2 b1 k b2 hb.tail h2
    rw [p256_1] at q2
    simp only [pureR, Prod.mk.injEq, St.good.injEq] at hz
    obtain ⟨rfl, rfl⟩ := hz
    refine ⟨?_, q1, q2.1, by show k ≤ 255; omega⟩
    unfold noteW
    rw [List.append_assoc]
/-- An object. -/
structure ObjM where
  funcs : List FuncM
  datas : List DataM
  notes : List NoteM
def noObj : ObjM := ⟨[], [], []⟩
def splL : Bs := [83, 80, 76, 49]
def headR : Rdr Unit := bindR (takeR 4) fun l => mustR (decide (l = splL))
def objR : Rdr ObjM := bindR headR fun _ => bindR (listR 64 funcR) fun f => bindR (listR 64 dataR) fun d => bindR (listR 64 noteR) fun n => pureR ⟨f, d, n⟩
def objW (o : ObjM) : Bs := splL ++ (listW funcW o.funcs ++ (listW dataW o.datas ++ listW noteW o.notes))
def objOk (o : ObjM) : Prop := (o.funcs.length ≤ 64 ∧ ∀ x ∈ o.funcs, funcOk x) ∧ (o.datas.length ≤ 64 ∧ ∀ x ∈ o.datas, dataOk x) ∧ (o.notes.length ≤ 64 ∧ ∀ x ∈ o.notes, noteOk x)
theorem keeps_head : Keeps headR := keeps_bind (keeps_take 4) fun _ => keeps_must _
theorem fits_head : Fits headR (fun _ => splL) (fun _ => True) := by
  refine ⟨fun x rest _ => ?_, fun b x rest hb h => ?_⟩
  · unfold headR
    rw [bind_fwd ((fits_take 4).1 splL rest rfl), must_fwd (by simp)]
  · obtain ⟨l, b1, h1, h2⟩ := bind_back (fun _ => keeps_must _) h
    obtain ⟨hc, rfl⟩ := must_back h2
    obtain ⟨rfl, _⟩ := (fits_take 4).2 b l b1 hb h1
    rw [decide_eq_true_eq] at hc
    exact ⟨by rw [hc], trivial⟩
theorem keeps_obj : Keeps objR := keeps_bind keeps_head fun _ => keeps_bind (keeps_list _ _) fun _ => keeps_bind (keeps_list _ _) fun _ => keeps_bind (keeps_list _ _) fun _ => keeps_pure _
theorem fits_obj : Fits objR objW objOk := by
  refine ⟨fun o rest h => ?_, fun b o rest hb h => ?_⟩
  · obtain ⟨h1, h2, h3⟩ := h
    unfold objR objW
    simp only [List.append_assoc]
    rw [bind_fwd (fits_head.1 () _ trivial), bind_fwd ((fits_list fits_func 64 (by omega)).1 o.funcs _ h1), bind_fwd ((fits_list fits_data 64 (by omega)).1 o.datas _ h2), bind_fwd ((fits_list fits_note 64 (by omega)).1 o.notes rest h3)]
    rfl
  · obtain ⟨u, b1, h1, h⟩ := bind_back (fun _ => keeps_bind (keeps_list _ _) fun _ => keeps_bind (keeps_list _ _) fun _ => keeps_bind (keeps_list _ _) fun _ => keeps_pure _) h
    obtain ⟨f, b2, h2, h⟩ := bind_back (fun _ => keeps_bind (keeps_list _ _) fun _ => keeps_bind (keeps_list _ _) fun _ => keeps_pure _) h
    obtain ⟨d, b3, h3, h⟩ := bind_back (fun _ => keeps_bind (keeps_list _ _) fun _ => keeps_pure _) h
    obtain ⟨n, b4, h4, hz⟩ := bind_back (fun _ => keeps_pure _) h
    obtain ⟨rfl, _⟩ := fits_head.2 b u b1 hb h1
    obtain ⟨rfl, q1⟩ := (fits_list fits_func 64 (by omega)).2 b1 f b2 hb.tail h2
    obtain ⟨rfl, q2⟩ := (fits_list fits_data 64 (by omega)).2 b2 d b3 hb.tail.tail h3
    obtain ⟨rfl, q3⟩ := (fits_list fits_note 64 (by omega)).2 b3 n b4 hb.tail.tail.tail h4
    simp only [pureR, Prod.mk.injEq, St.good.injEq] at hz
    obtain ⟨rfl, rfl⟩ := hz
    refine ⟨?_, q1, q2, q3⟩
    unfold objW
    simp only [List.append_assoc]
/-- The object whose bytes these are, or the error. -/
def readO (b : Bs) : ObjM × Int := match objR (.good b) with
  | (o, .good []) => (o, 0)
  | (_, .good (_ :: _)) => (noObj, 2)
  | (_, .bad e) => (noObj, e)
theorem read_write (o : ObjM) (h : objOk o) : readO (objW o) = (o, 0) := by
  have := fits_obj.1 o [] h
  rw [List.append_nil] at this
  unfold readO; rw [this]
theorem read_more (o : ObjM) (h : objOk o) (x : Int) (l : Bs) : readO (objW o ++ x :: l) = (noObj, 2) := by
  unfold readO; rw [fits_obj.1 o (x :: l) h]
/-- No error of a part is 0: so an answer of 0 is a whole object. -/
def Real {α : Type} (f : Rdr α) : Prop := ∀ b e x, f (.good b) = (x, .bad e) → e = 2 ∨ e = 4
theorem real_pure {α : Type} (x : α) : Real (pureR x) := fun b e y h => by simp [pureR] at h
theorem real_bind {α β : Type} {f : Rdr α} {g : α → Rdr β} (hf : Real f) (hg : ∀ x, Real (g x)) (hk : ∀ x, Keeps (g x)) : Real (bindR f g) := fun b e y h => by
  unfold bindR at h
  cases hs : f (.good b) with
  | mk x s =>
    rw [hs] at h
    cases s with
    | good b1 => exact hg x b1 e y h
    | bad e1 =>
      have := hk x e1
      rw [show g x (.bad e1) = (y, .bad e) from h] at this
      have e2 : e = e1 := by injection this
      rw [e2]; exact hf b e1 x hs
theorem real_take (n : Nat) : Real (takeR n) := fun b e x h => by
  unfold takeR at h
  dsimp only at h
  split at h
  · simp at h
  · simp at h; exact .inl h.2.symm
theorem real_must (c : Bool) : Real (mustR c) := fun b e x h => by
  unfold mustR at h
  cases c
  · simp at h; exact .inr h.symm
  · simp at h
theorem real_num (n : Nat) : Real (numR n) := real_bind (real_take n) (fun _ => real_pure _) fun _ => keeps_pure _
theorem real_count (m : Nat) : Real (countR m) := real_bind (real_num 2) (fun x => real_bind (real_must _) (fun _ b e y h => by simp at h) fun _ e => rfl) fun _ => keeps_bind (keeps_must _) fun _ e => rfl
theorem real_times {α : Type} {f : Rdr α} (hf : Real f) (n : Nat) : Real (timesR f n) := by
  induction n with
  | zero => intro b e x h; simp [timesR] at h
  | succ n ih =>
    exact real_bind (f := f) (g := fun x => bindR (timesR f n) fun l => pureR (x :: l)) hf (fun _ => real_bind ih (fun _ => real_pure _) fun _ => keeps_pure _) fun _ => keeps_bind (keeps_times f n) fun _ => keeps_pure _
theorem real_list {α : Type} {f : Rdr α} (hf : Real f) (m : Nat) : Real (listR m f) := real_bind (real_count m) (fun _ => real_times hf _) fun _ => keeps_times f _
theorem real_name : Real nameR := real_bind (real_num 1) (fun _ => real_bind (real_take _) (fun _ => real_bind (real_must _) (fun _ => real_pure _) fun _ => keeps_pure _) fun _ => keeps_bind (keeps_must _) fun _ => keeps_pure _) fun _ => keeps_bind (keeps_take _) fun _ => keeps_bind (keeps_must _) fun _ => keeps_pure _
theorem real_step {α β : Type} {f : Rdr α} {g : α → Rdr β} (hf : Real f) (hg : ∀ x, Real (g x) ∧ Keeps (g x)) : Real (bindR f g) := real_bind hf (fun x => (hg x).1) fun x => (hg x).2
theorem both_step {α β : Type} {f : Rdr α} {g : α → Rdr β} (hf : Real f ∧ Keeps f) (hg : ∀ x, Real (g x) ∧ Keeps (g x)) : Real (bindR f g) ∧ Keeps (bindR f g) := ⟨real_step hf.1 hg, keeps_bind hf.2 fun x => (hg x).2⟩
theorem both_pure {α : Type} (x : α) : Real (pureR x) ∧ Keeps (pureR x) := ⟨real_pure x, keeps_pure x⟩
theorem both_rel : Real relR ∧ Keeps relR := both_step ⟨real_num 2, keeps_num 2⟩ fun _ => both_step ⟨real_num 1, keeps_num 1⟩ fun _ => both_step ⟨real_name, keeps_name⟩ fun _ => both_step ⟨real_num 4, keeps_num 4⟩ fun _ => both_step ⟨real_must _, keeps_must _⟩ fun _ => both_pure _
theorem both_func : Real funcR ∧ Keeps funcR := both_step ⟨real_name, keeps_name⟩ fun _ => both_step ⟨real_num 1, keeps_num 1⟩ fun _ => both_step ⟨real_must _, keeps_must _⟩ fun _ => both_step ⟨real_list (real_num 4) _, keeps_list _ _⟩ fun _ => both_step ⟨real_list both_rel.1 _, keeps_list _ _⟩ fun _ => both_pure _
theorem both_bytes (m : Nat) : Real (bytesR m) ∧ Keeps (bytesR m) := both_step ⟨real_count m, keeps_count m⟩ fun _ => ⟨real_take _, keeps_take _⟩
theorem both_data : Real dataR ∧ Keeps dataR := both_step ⟨real_name, keeps_name⟩ fun _ => both_step ⟨real_num 1, keeps_num 1⟩ fun _ => both_step ⟨real_must _, keeps_must _⟩ fun _ => both_step ⟨real_num 1, keeps_num 1⟩ fun _ => both_step ⟨real_num 1, keeps_num 1⟩ fun _ => both_step ⟨real_must _, keeps_must _⟩ fun _ => both_step ⟨real_num 2, keeps_num 2⟩ fun _ => both_step (both_bytes _) fun _ => both_step ⟨real_list both_rel.1 _, keeps_list _ _⟩ fun _ => both_pure _
theorem both_note : Real noteR ∧ Keeps noteR := both_step ⟨real_name, keeps_name⟩ fun _ => both_step ⟨real_num 1, keeps_num 1⟩ fun _ => both_pure _
theorem both_obj : Real objR ∧ Keeps objR := both_step ⟨real_bind (real_take 4) (fun _ => real_must _) fun _ => keeps_must _, keeps_head⟩ fun _ => both_step ⟨real_list both_func.1 _, keeps_list _ _⟩ fun _ => both_step ⟨real_list both_data.1 _, keeps_list _ _⟩ fun _ => both_step ⟨real_list both_note.1 _, keeps_list _ _⟩ fun _ => both_pure _
theorem read_back (b : Bs) (hb : Byt b) (h : (readO b).2 = 0) : b = objW (readO b).1 ∧ objOk (readO b).1 := by
  unfold readO at h ⊢
  cases hs : objR (.good b) with
  | mk o s =>
    rw [hs] at h
    rcases s with (_ | ⟨x, r⟩) | e
    · obtain ⟨h1, h2⟩ := fits_obj.2 b o [] hb hs
      rw [List.append_nil] at h1
      exact ⟨h1, h2⟩
    · cases h
    · rcases both_obj.1 b e o hs with rfl | rfl <;> cases h
theorem read_kind (b : Bs) : ((readO b).2 = 0 ∨ (readO b).2 = 2 ∨ (readO b).2 = 4) ∧ ((readO b).2 ≠ 0 → (readO b).1 = noObj) := by
  unfold readO
  cases hs : objR (.good b) with
  | mk o s =>
    rcases s with (_ | ⟨x, r⟩) | e
    · exact ⟨.inl rfl, fun h => absurd rfl h⟩
    · exact ⟨.inr (.inl rfl), fun _ => rfl⟩
    · exact ⟨.inr (both_obj.1 b e o hs), fun _ => rfl⟩
theorem Byt.app {a b : Bs} (h : Byt a) (h2 : Byt b) : Byt (a ++ b) := fun x hx => (List.mem_append.mp hx).elim (h x) (h2 x)
theorem nameW_byt (t : ByteArray) : Byt (nameW t) := (digL_byt _ _).app (bytesL_byt t)
theorem flatW_byt {α : Type} {wr : α → Bs} (h : ∀ x, Byt (wr x)) (l : List α) : Byt (flatW wr l) := fun y hy => by
  obtain ⟨x, _, hx⟩ := List.mem_flatMap.mp hy
  exact h x y hx
theorem listW_byt {α : Type} {wr : α → Bs} (h : ∀ x, Byt (wr x)) (l : List α) : Byt (listW wr l) := (digL_byt _ _).app (flatW_byt h l)
theorem relW_byt (r : RelM) : Byt (relW r) := (digL_byt _ _).app ((digL_byt _ _).app ((nameW_byt _).app (digL_byt _ _)))
theorem funcW_byt (f : FuncM) : Byt (funcW f) := (nameW_byt _).app ((digL_byt _ _).app ((listW_byt (fun _ => digL_byt _ _) _).app (listW_byt relW_byt _)))
theorem flat_byt {α : Type} {wr : α → Bs} (l : List α) (h : ∀ x ∈ l, Byt (wr x)) : Byt (flatW wr l) := fun y hy => by
  obtain ⟨x, hx, h2⟩ := List.mem_flatMap.mp hy
  exact h x hx y h2
theorem dataW_byt (d : DataM) (h : Byt d.bytes) : Byt (dataW d) := (nameW_byt _).app ((digL_byt _ _).app ((digL_byt _ _).app ((digL_byt _ _).app ((digL_byt _ _).app (((digL_byt _ _).app h).app (listW_byt relW_byt _))))))
theorem noteW_byt (x : NoteM) : Byt (noteW x) := (nameW_byt _).app (digL_byt _ _)
theorem objW_byt (o : ObjM) (h : ∀ d ∈ o.datas, Byt d.bytes) : Byt (objW o) :=
  Byt.app (a := splL) (fun x hx => by simp [splL] at hx; omega) ((listW_byt funcW_byt _).app (((digL_byt _ _).app (flat_byt _ fun d hd => dataW_byt d (h d hd))).app (listW_byt noteW_byt _)))
/-- No beginning of an object's bytes is one. -/
theorem read_cut (o : ObjM) (h : objOk o) (hb : Byt (objW o)) (m : Nat) (hm : m < (objW o).length) : (readO ((objW o).take m)).2 ≠ 0 := fun h0 => by
  obtain ⟨h1, h2⟩ := read_back _ (fun x hx => hb x (List.mem_of_mem_take hx)) h0
  have h3 : objW o = objW (readO ((objW o).take m)).1 ++ (objW o).drop m := by rw [← h1, List.take_append_drop]
  have h4 := fits_obj.1 (readO ((objW o).take m)).1 ((objW o).drop m) h2
  rw [← h3] at h4
  have h5 := fits_obj.1 o [] h
  rw [List.append_nil, h4] at h5
  simp only [Prod.mk.injEq, St.good.injEq] at h5
  have := congrArg List.length h5.2
  simp at this
  omega
end Go.Proofs.Ytlmijnaimdknnaa
