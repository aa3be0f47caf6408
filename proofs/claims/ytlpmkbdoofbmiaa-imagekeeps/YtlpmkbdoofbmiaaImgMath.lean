/- An image's bytes: what is read of bytes, piece by piece; what is written; that these fit. -/
import Derived.Test.YtlpmkbdoofbmiaaObjMath
import Derived.Test.YtlpmkbdoofbmiaaObjKit
namespace Go.Proofs.Ytlpmkbdoofbmiaa
set_option linter.unusedVariables false
set_option linter.unusedSimpArgs false
/-- An image. -/
structure ImM where
  code : List Int
  entry : Int
  data : Bs
  write : Int
  more : Int
def noIm : ImM := ⟨[], 0, [], 0, 0⟩
def spxL : Bs := [83, 80, 88, 49]
def beginB (l : Bs) : Bool := decide (l = spxL)
/-- May it be from 0 to so much? -/
def withB (n most : Int) : Bool := decide (0 ≤ n ∧ n ≤ most)
/-- The greatest Entry of so many words. -/
def lastZ (n : Nat) : Int := if n = 0 then 0 else (n : Int) - 1
/-- A number of four bytes, of at most so much. -/
def mostR (most : Int) : Rdr Int := bindR (numR 4) fun n => bindR (mustR (withB n most)) fun _ => pureR n
theorem keeps_most (m : Int) : Keeps (mostR m) := keeps_bind (keeps_num 4) fun _ => keeps_bind (keeps_must _) fun _ => keeps_pure _
theorem fits_most (m : Int) (hm : m < 4294967296) : Fits (mostR m) (digL 4) (fun x => 0 ≤ x ∧ x ≤ m) := by
  refine ⟨fun x rest h => ?_, fun b x rest hb h => ?_⟩
  · unfold mostR
    rw [bind_fwd ((fits_num 4).1 x rest ⟨h.1, by rw [p256_4]; omega⟩), bind_fwd (must_fwd (by unfold withB; simpa using h) rest)]
    rfl
  · obtain ⟨y, b1, h1, h2⟩ := bind_back (fun _ => keeps_bind (keeps_must _) fun _ => keeps_pure _) h
    obtain ⟨u, b2, h3, h4⟩ := bind_back (fun _ => keeps_pure _) h2
    obtain ⟨hc, rfl⟩ := must_back h3
    obtain ⟨rfl, h6⟩ := (fits_num 4).2 b y b1 hb h1
    simp only [pureR, Prod.mk.injEq, St.good.injEq] at h4
    obtain ⟨rfl, rfl⟩ := h4
    unfold withB at hc
    exact ⟨rfl, by simpa using hc⟩
theorem real_most (m : Int) : Real (mostR m) := real_bind (real_num 4) (fun _ => real_bind (real_must _) (fun _ => real_pure _) fun _ => keeps_pure _) fun _ => keeps_bind (keeps_must _) fun _ => keeps_pure _
/-- An image, piece by piece. -/
def img6 (code : List Int) (entry : Int) (data : Bs) (wr : Int) : Rdr ImM := bindR (mostR 65536) fun mo => pureR ⟨code, entry, data, wr, mo⟩
def img5 (code : List Int) (entry : Int) (data : Bs) : Rdr ImM := bindR (mostR data.length) fun wr => img6 code entry data wr
def img4 (code : List Int) (entry : Int) (n : Int) : Rdr ImM := bindR (takeR n.toNat) fun data => img5 code entry data
def img3 (code : List Int) (entry : Int) : Rdr ImM := bindR (mostR 65536) fun n => img4 code entry n
def img2 (code : List Int) : Rdr ImM := bindR (mostR (lastZ code.length)) fun entry => img3 code entry
def img1 : Rdr ImM := bindR (mostR 65536) fun n => bindR (timesR (numR 4) n.toNat) fun code => img2 code
def imgR : Rdr ImM := bindR (takeR 4) fun l => bindR (mustR (beginB l)) fun _ => img1
def imgW (m : ImM) : Bs := spxL ++ (digL 4 m.code.length ++ (flatW (digL 4) m.code ++ (digL 4 m.entry ++ (digL 4 m.data.length ++ (m.data ++ (digL 4 m.write ++ digL 4 m.more))))))
def imgOk (m : ImM) : Prop := (m.code.length ≤ 65536 ∧ ∀ x ∈ m.code, 0 ≤ x ∧ x < 4294967296) ∧ (0 ≤ m.entry ∧ m.entry ≤ lastZ m.code.length) ∧ m.data.length ≤ 65536 ∧ (0 ≤ m.write ∧ m.write ≤ m.data.length) ∧ 0 ≤ m.more ∧ m.more ≤ 65536
theorem last_lt (n : Nat) (h : n ≤ 65536) : lastZ n < 4294967296 := by unfold lastZ; split <;> omega
theorem keeps6 (c : List Int) (e : Int) (d : Bs) (w : Int) : Keeps (img6 c e d w) := keeps_bind (keeps_most _) fun _ => keeps_pure _
theorem keeps5 (c : List Int) (e : Int) (d : Bs) : Keeps (img5 c e d) := keeps_bind (keeps_most _) fun _ => keeps6 _ _ _ _
theorem keeps4 (c : List Int) (e n : Int) : Keeps (img4 c e n) := keeps_bind (keeps_take _) fun _ => keeps5 _ _ _
theorem keeps3 (c : List Int) (e : Int) : Keeps (img3 c e) := keeps_bind (keeps_most _) fun _ => keeps4 _ _ _
theorem keeps2 (c : List Int) : Keeps (img2 c) := keeps_bind (keeps_most _) fun _ => keeps3 _ _
theorem keeps1 : Keeps img1 := keeps_bind (keeps_most _) fun _ => keeps_bind (keeps_times _ _) fun _ => keeps2 _
theorem keeps0 : Keeps imgR := keeps_bind (keeps_take _) fun _ => keeps_bind (keeps_must _) fun _ => keeps1
theorem real6 (c : List Int) (e : Int) (d : Bs) (w : Int) : Real (img6 c e d w) := real_bind (real_most _) (fun _ => real_pure _) fun _ => keeps_pure _
theorem real5 (c : List Int) (e : Int) (d : Bs) : Real (img5 c e d) := real_bind (real_most _) (fun _ => real6 _ _ _ _) fun _ => keeps6 _ _ _ _
theorem real4 (c : List Int) (e n : Int) : Real (img4 c e n) := real_bind (real_take _) (fun _ => real5 _ _ _) fun _ => keeps5 _ _ _
theorem real3 (c : List Int) (e : Int) : Real (img3 c e) := real_bind (real_most _) (fun _ => real4 _ _ _) fun _ => keeps4 _ _ _
theorem real2 (c : List Int) : Real (img2 c) := real_bind (real_most _) (fun _ => real3 _ _) fun _ => keeps3 _ _
theorem real1 : Real img1 := real_bind (real_most _) (fun _ => real_bind (real_times (real_num 4) _) (fun _ => real2 _) fun _ => keeps2 _) fun _ => keeps_bind (keeps_times _ _) fun _ => keeps2 _
theorem real0 : Real imgR := real_bind (real_take _) (fun _ => real_bind (real_must _) (fun _ => real1) fun _ => keeps1) fun _ => keeps_bind (keeps_must _) fun _ => keeps1
theorem fits_img : Fits imgR imgW imgOk := by
  refine ⟨fun m rest h => ?_, fun b m rest hb h => ?_⟩
  · obtain ⟨⟨h1, h1'⟩, h2, h3, h4, h5⟩ := h
    obtain ⟨code, entry, data, wr, mo⟩ := m
    dsimp only at *
    unfold imgR imgW
    simp only [List.append_assoc]
    rw [bind_fwd ((fits_take 4).1 spxL _ rfl), bind_fwd (must_fwd (by unfold beginB; simp) _)]
    unfold img1
    rw [bind_fwd ((fits_most 65536 (by omega)).1 code.length _ ⟨by omega, by omega⟩), Int.toNat_natCast, bind_fwd ((fits_times (fits_num 4) code.length).1 code _ ⟨rfl, by rw [p256_4]; exact h1'⟩)]
    unfold img2
    rw [bind_fwd ((fits_most _ (last_lt _ h1)).1 entry _ h2)]
    unfold img3
    rw [bind_fwd ((fits_most 65536 (by omega)).1 data.length _ ⟨by omega, by omega⟩)]
    unfold img4
    rw [Int.toNat_natCast, bind_fwd ((fits_take data.length).1 data _ rfl)]
    unfold img5
    rw [bind_fwd ((fits_most data.length (by omega)).1 wr _ h4)]
    unfold img6
    rw [bind_fwd ((fits_most 65536 (by omega)).1 mo rest h5)]
    rfl
  · obtain ⟨l, b1, h1, h⟩ := bind_back (fun _ => keeps_bind (keeps_must _) fun _ => keeps1) h
    obtain ⟨u, b2, h2, h⟩ := bind_back (fun _ => keeps1) h
    obtain ⟨n, b3, h3, h⟩ := bind_back (fun _ => keeps_bind (keeps_times _ _) fun _ => keeps2 _) h
    obtain ⟨c, b4, h4, h⟩ := bind_back (fun _ => keeps2 _) h
    obtain ⟨e, b5, h5, h⟩ := bind_back (fun _ => keeps3 _ _) h
    obtain ⟨k, b6, h6, h⟩ := bind_back (fun _ => keeps4 _ _ _) h
    obtain ⟨d, b7, h7, h⟩ := bind_back (fun _ => keeps5 _ _ _) h
    obtain ⟨x, b8, h8, h⟩ := bind_back (fun _ => keeps6 _ _ _ _) h
    obtain ⟨y, b9, h9, hz⟩ := bind_back (fun _ => keeps_pure _) h
    obtain ⟨hc, rfl⟩ := must_back h2
    unfold beginB at hc
    rw [decide_eq_true_eq] at hc
    subst hc
    obtain ⟨rfl, -⟩ := (fits_take 4).2 b _ b1 hb h1
    have hb1 := hb.tail
    obtain ⟨rfl, q3⟩ := (fits_most 65536 (by omega)).2 b1 n b3 hb1 h3
    obtain ⟨rfl, q4, q4'⟩ := (fits_times (fits_num 4) n.toNat).2 b3 c b4 hb1.tail h4
    have hn : (c.length : Int) = n := by omega
    obtain ⟨rfl, q5⟩ := (fits_most _ (last_lt _ (by omega))).2 b4 e b5 hb1.tail.tail h5
    obtain ⟨rfl, q6⟩ := (fits_most 65536 (by omega)).2 b5 k b6 hb1.tail.tail.tail h6
    obtain ⟨rfl, q7⟩ := (fits_take _).2 b6 d b7 hb1.tail.tail.tail.tail h7
    have hk : (d.length : Int) = k := by omega
    obtain ⟨rfl, q8⟩ := (fits_most _ (by omega)).2 b7 x b8 hb1.tail.tail.tail.tail.tail h8
    obtain ⟨rfl, q9⟩ := (fits_most 65536 (by omega)).2 b8 y b9 hb1.tail.tail.tail.tail.tail.tail h9
    simp only [pureR, Prod.mk.injEq, St.good.injEq] at hz
    obtain ⟨rfl, rfl⟩ := hz
    rw [p256_4] at q4'
    refine ⟨?_, ⟨by show c.length ≤ 65536; omega, q4'⟩, q5, by show d.length ≤ 65536; omega, q8, q9⟩
    unfold imgW
    dsimp only
    rw [hn, hk]
    simp only [List.append_assoc]
/-- The image whose bytes these are, or the error. -/
def readI (b : Bs) : ImM × Int := match imgR (.good b) with
  | (o, .good []) => (o, 0)
  | (_, .good (_ :: _)) => (noIm, 2)
  | (_, .bad e) => (noIm, e)
theorem readI_write (m : ImM) (h : imgOk m) : readI (imgW m) = (m, 0) := by
  have := fits_img.1 m [] h
  rw [List.append_nil] at this
  unfold readI; rw [this]
theorem readI_more (m : ImM) (h : imgOk m) (x : Int) (l : Bs) : readI (imgW m ++ x :: l) = (noIm, 2) := by
  unfold readI; rw [fits_img.1 m (x :: l) h]
theorem readI_back (b : Bs) (hb : Byt b) (h : (readI b).2 = 0) : b = imgW (readI b).1 ∧ imgOk (readI b).1 := by
  unfold readI at h ⊢
  cases hs : imgR (.good b) with
  | mk o s =>
    rw [hs] at h
    rcases s with (_ | ⟨x, r⟩) | e
    · obtain ⟨h1, h2⟩ := fits_img.2 b o [] hb hs
      rw [List.append_nil] at h1
      exact ⟨h1, h2⟩
    · cases h
    · rcases real0 b e o hs with rfl | rfl <;> cases h
theorem readI_kind (b : Bs) : ((readI b).2 = 0 ∨ (readI b).2 = 2 ∨ (readI b).2 = 4) ∧ ((readI b).2 ≠ 0 → (readI b).1 = noIm) := by
  unfold readI
  cases hs : imgR (.good b) with
  | mk o s =>
    rcases s with (_ | ⟨x, r⟩) | e
    · exact ⟨.inl rfl, fun h => absurd rfl h⟩
    · exact ⟨.inr (.inl rfl), fun _ => rfl⟩
    · exact ⟨.inr (real0 b e o hs), fun _ => rfl⟩
theorem imgW_byt {m : ImM} (h : Byt m.data) : Byt (imgW m) :=
  Byt.app (a := spxL) (fun x hx => by simp [spxL] at hx; omega) ((digL_byt _ _).app ((flatW_byt (fun x => digL_byt 4 x) _).app ((digL_byt _ _).app ((digL_byt _ _).app (h.app ((digL_byt _ _).app (digL_byt _ _)))))))
theorem flat4_len9 (l : List Int) : (flatW (digL 4) l).length = 4 * l.length := by
  induction l with
  | nil => rfl
  | cons x l ih => simp only [flatW, List.flatMap_cons, List.length_append, digL_len, List.length_cons] at ih ⊢; omega
theorem imgW_len (m : ImM) : (imgW m).length = 24 + 4 * m.code.length + m.data.length := by
  unfold imgW
  simp only [List.length_append, digL_len, flat4_len9]
  have : spxL.length = 4 := rfl
  omega
/-- No beginning of an image's bytes is one. -/
theorem readI_cut (m : ImM) (h : imgOk m) (hb : Byt (imgW m)) (k : Nat) (hk : k < (imgW m).length) : (readI ((imgW m).take k)).2 ≠ 0 := fun h0 => by
  obtain ⟨h1, h2⟩ := readI_back _ (fun x hx => hb x (List.mem_of_mem_take hx)) h0
  have e : imgW m = (imgW m).take k ++ (imgW m).drop k := (List.take_append_drop _ _).symm
  cases hd : (imgW m).drop k with
  | nil => have := List.length_drop (i := k) (l := imgW m); rw [hd] at this; simp at this; omega
  | cons x l =>
    rw [hd, h1] at e
    have r := readI_write m h
    rw [e, readI_more _ h2] at r
    cases r
/-- Of bytes from a place on. -/
theorem num_at {l : Bs} {k : Nat} (h : k + 4 ≤ l.length) : numR 4 (.good (l.drop k)) = (sumL ((l.drop k).take 4), .good (l.drop (k + 4))) := by
  unfold numR
  have e : takeR 4 (.good (l.drop k)) = ((l.drop k).take 4, .good (l.drop (k + 4))) := by
    unfold takeR; dsimp only
    rw [if_pos (by rw [List.length_drop]; omega), List.drop_drop]
  rw [bind_fwd e]; rfl
end Go.Proofs.Ytlpmkbdoofbmiaa
