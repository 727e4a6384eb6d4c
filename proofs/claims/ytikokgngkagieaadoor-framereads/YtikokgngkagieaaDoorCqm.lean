/- The two sums as plain mathematics over natural numbers: one step, bytes put in, linearity, products modulo the polynomial, bursts; of no statement by themselves. -/
namespace Go.Proofs.YtikokgngkagieaaDoor.Cq
namespace Crc

/-- Xor of three, in another order. -/
theorem xor_left_comm (a b c : Nat) : a ^^^ (b ^^^ c) = b ^^^ (a ^^^ c) := by
  rw [← Nat.xor_assoc, Nat.xor_comm a b, Nat.xor_assoc]

theorem xor_cancel (a b : Nat) : a ^^^ (a ^^^ b) = b := by rw [← Nat.xor_assoc, Nat.xor_self, Nat.zero_xor]

theorem xor_cancel' (a b : Nat) : a ^^^ (b ^^^ a) = b := by rw [Nat.xor_comm b a, xor_cancel]

theorem xor_eq_zero {a b : Nat} (h : a ^^^ b = 0) : a = b := by
  have := xor_cancel a b
  rw [h, Nat.xor_zero] at this
  exact this

theorem xor_left_inj {a b c : Nat} (h : a ^^^ b = a ^^^ c) : b = c := by rw [← xor_cancel a b, h, xor_cancel]

/-- One step: the lowest bit falls out, and turns the polynomial's bits where it was 1. -/
def stp (P s : Nat) : Nat := s / 2 ^^^ (if s % 2 = 1 then P else 0)

theorem stp_bit (P s i : Nat) : (stp P s).testBit i = (s.testBit (i + 1) ^^ (s.testBit 0 && P.testBit i)) := by
  unfold stp
  rw [Nat.testBit_xor, Nat.testBit_div_two, Nat.testBit_zero]
  split <;> rename_i h <;> simp [h]

theorem stp_xor (P a b : Nat) : stp P (a ^^^ b) = stp P a ^^^ stp P b := by
  apply Nat.eq_of_testBit_eq
  intro i
  simp only [stp_bit, Nat.testBit_xor]
  generalize a.testBit (i + 1) = p
  generalize b.testBit (i + 1) = q
  generalize a.testBit 0 = r
  generalize b.testBit 0 = t
  generalize P.testBit i = u
  revert p q r t u
  decide

theorem stp_zero (P : Nat) : stp P 0 = 0 := by simp [stp]

theorem stp_even (P a : Nat) : stp P (2 * a) = a := by
  unfold stp
  rw [if_neg (by omega), Nat.xor_zero]
  omega

theorem stp_lt {P w s : Nat} (hP : P < 2 ^ w) (hs : s < 2 ^ w) : stp P s < 2 ^ w := by
  unfold stp
  apply Nat.xor_lt_two_pow
  · exact Nat.lt_of_le_of_lt (Nat.div_le_self _ _) hs
  · split
    · exact hP
    · exact Nat.two_pow_pos w

/-- Steps, n of them. -/
def itr (P : Nat) : Nat → Nat → Nat
  | 0, s => s
  | n + 1, s => itr P n (stp P s)

theorem itr_succ (P n s : Nat) : itr P (n + 1) s = stp P (itr P n s) := by
  induction n generalizing s with
  | zero => rfl
  | succ n ih => rw [itr, ih]; rfl

theorem itr_add (P m n s : Nat) : itr P (m + n) s = itr P m (itr P n s) := by
  induction n generalizing s with
  | zero => rfl
  | succ n ih => rw [← Nat.add_assoc, itr, ih]; rfl

theorem itr_comm (P m n s : Nat) : itr P m (itr P n s) = itr P n (itr P m s) := by rw [← itr_add, ← itr_add, Nat.add_comm]

theorem itr_xor (P n a b : Nat) : itr P n (a ^^^ b) = itr P n a ^^^ itr P n b := by
  induction n generalizing a b with
  | zero => rfl
  | succ n ih => rw [itr, stp_xor, ih]; rfl

theorem itr_zero (P n : Nat) : itr P n 0 = 0 := by
  induction n with
  | zero => rfl
  | succ n ih => rw [itr, stp_zero, ih]

theorem itr_lt {P w : Nat} (hP : P < 2 ^ w) (n : Nat) {s : Nat} (hs : s < 2 ^ w) : itr P n s < 2 ^ w := by
  induction n generalizing s with
  | zero => exact hs
  | succ n ih => exact ih (stp_lt hP hs)

theorem itr_shift (P n a : Nat) : itr P n (2 ^ n * a) = a := by
  induction n generalizing a with
  | zero => simp [itr]
  | succ n ih => rw [itr, show 2 ^ (n + 1) * a = 2 * (2 ^ n * a) by rw [Nat.pow_succ]; simp only [Nat.mul_comm, Nat.mul_left_comm], stp_even, ih]

theorem itr_pow (P n : Nat) : itr P n (2 ^ n) = 1 := by simpa using itr_shift P n 1

theorem split_at (s k : Nat) : s = 2 ^ k * (s / 2 ^ k) ^^^ s % 2 ^ k := by
  apply Nat.eq_of_testBit_eq
  intro i
  rw [Nat.testBit_xor, Nat.testBit_two_pow_mul, Nat.testBit_div_two_pow, Nat.testBit_mod_two_pow]
  by_cases h : i < k
  · simp [h, show ¬ k ≤ i by omega]
  · simp [h, show k ≤ i by omega]

/-- n steps: what is shifted down, and what the lowest n bits turn. -/
theorem itr_low (P n s : Nat) : itr P n s = s / 2 ^ n ^^^ itr P n (s % 2 ^ n) := by
  conv => lhs; rw [split_at s n]
  rw [itr_xor, itr_shift]

/-- A byte put in. -/
def put (P s x : Nat) : Nat := itr P 8 (s ^^^ x)

theorem put_lt {P w : Nat} (hP : P < 2 ^ w) {s x : Nat} (hs : s < 2 ^ w) (hx : x < 2 ^ w) : put P s x < 2 ^ w :=
  itr_lt hP 8 (Nat.xor_lt_two_pow hs hx)

theorem put_xor (P a b x y : Nat) : put P (a ^^^ b) (x ^^^ y) = put P a x ^^^ put P b y := by
  unfold put
  rw [← itr_xor]
  congr 1
  rw [Nat.xor_assoc, xor_left_comm b, ← Nat.xor_assoc]

theorem put_left (P a b x : Nat) : put P (a ^^^ b) x = put P a x ^^^ itr P 8 b := by
  have := put_xor P a b x 0
  rw [Nat.xor_zero] at this
  rw [this]
  simp [put]

/-- Bytes put in, one after the other. -/
def raw (P : Nat) (s : Nat) (l : List Nat) : Nat := l.foldl (put P) s

theorem raw_nil (P s : Nat) : raw P s [] = s := rfl
theorem raw_cons (P s x : Nat) (l : List Nat) : raw P s (x :: l) = raw P (put P s x) l := rfl
theorem raw_append (P s : Nat) (l m : List Nat) : raw P s (l ++ m) = raw P (raw P s l) m := by simp [raw]
theorem raw_snoc (P s x : Nat) (l : List Nat) : raw P s (l ++ [x]) = put P (raw P s l) x := by simp [raw]

theorem raw_lt {P w : Nat} (hP : P < 2 ^ w) (l : List Nat) (hl : ∀ x ∈ l, x < 2 ^ w) {s : Nat} (hs : s < 2 ^ w) : raw P s l < 2 ^ w := by
  induction l generalizing s with
  | nil => exact hs
  | cons x l ih => exact ih (fun y hy => hl y (List.mem_cons_of_mem _ hy)) (put_lt hP hs (hl x List.mem_cons_self))

theorem raw_left (P a b : Nat) (l : List Nat) : raw P (a ^^^ b) l = raw P a l ^^^ itr P (8 * l.length) b := by
  induction l generalizing a b with
  | nil => rfl
  | cons x l ih => rw [raw_cons, put_left, ih, raw_cons, ← itr_add, List.length_cons, Nat.mul_succ]

theorem raw_xor (P a b : Nat) (l m : List Nat) (h : l.length = m.length) : raw P (a ^^^ b) (List.zipWith (· ^^^ ·) l m) = raw P a l ^^^ raw P b m := by
  induction l generalizing a b m with
  | nil => cases m with
    | nil => rfl
    | cons y m => simp at h
  | cons x l ih => cases m with
    | nil => simp at h
    | cons y m => rw [List.zipWith_cons_cons, raw_cons, put_xor, ih _ _ _ (by simpa using h), raw_cons, raw_cons]

theorem put_zero (P s : Nat) : put P s 0 = itr P 8 s := by simp [put]

theorem raw_zeros (P s n : Nat) : raw P s (List.replicate n 0) = itr P (8 * n) s := by
  induction n generalizing s with
  | zero => rfl
  | succ n ih => rw [List.replicate_succ, raw_cons, ih, put_zero, ← itr_add, Nat.mul_succ]

/-- A sum of width w, carried on over bytes. -/
def more (P w s : Nat) (l : List Nat) : Nat := (2 ^ w - 1) ^^^ raw P ((2 ^ w - 1) ^^^ s) l

theorem more_nil (P w s : Nat) : more P w s [] = s := by simp [more, raw_nil, xor_cancel]

theorem more_append (P w s : Nat) (l m : List Nat) : more P w s (l ++ m) = more P w (more P w s l) m := by
  simp only [more, raw_append, xor_cancel]

theorem ones_lt (w : Nat) : 2 ^ w - 1 < 2 ^ w := by have := Nat.two_pow_pos w; omega

theorem more_lt {P w : Nat} (hP : P < 2 ^ w) (l : List Nat) (hl : ∀ x ∈ l, x < 2 ^ w) {s : Nat} (hs : s < 2 ^ w) : more P w s l < 2 ^ w :=
  Nat.xor_lt_two_pow (ones_lt w) (raw_lt hP l hl (Nat.xor_lt_two_pow (ones_lt w) hs))

/-- Carried on from a number: the sum of the bytes, and what as many zeros make of the number. -/
theorem more_join (P w s : Nat) (l : List Nat) : more P w s l = itr P (8 * l.length) s ^^^ more P w 0 l := by
  simp only [more, Nat.xor_zero, raw_left]
  rw [← Nat.xor_assoc, Nat.xor_comm]

/-- Sums are linear but for one number. -/
theorem more_linear (P w : Nat) (x y z : List Nat) (h1 : x.length = y.length) (h2 : y.length = z.length) :
    more P w 0 (List.zipWith (· ^^^ ·) (List.zipWith (· ^^^ ·) x y) z) = more P w 0 x ^^^ more P w 0 y ^^^ more P w 0 z := by
  have e : (2 ^ w - 1) = (2 ^ w - 1) ^^^ (2 ^ w - 1) ^^^ (2 ^ w - 1) := by rw [Nat.xor_self, Nat.zero_xor]
  have k : raw P (2 ^ w - 1) (List.zipWith (· ^^^ ·) (List.zipWith (· ^^^ ·) x y) z) = raw P (2 ^ w - 1) x ^^^ raw P (2 ^ w - 1) y ^^^ raw P (2 ^ w - 1) z := by
    conv => lhs; rw [e]
    rw [raw_xor _ _ _ _ _ (by simp [h1, h2]), raw_xor _ _ _ _ _ h1]
  simp only [more, Nat.xor_zero, k]
  generalize 2 ^ w - 1 = o
  generalize raw P o x = a
  generalize raw P o y = b
  generalize raw P o z = c
  simp only [Nat.xor_comm, xor_left_comm, xor_cancel]

/-- Bytes with one put in the other's place: what is turned, carried on over zeros. -/
theorem more_patch (P w : Nat) (a x y b : List Nat) (h : x.length = y.length) :
    more P w 0 (a ++ y ++ b) = more P w 0 (a ++ x ++ b) ^^^ itr P (8 * b.length) (raw P 0 (List.zipWith (· ^^^ ·) x y)) := by
  have e := raw_xor P (raw P (2 ^ w - 1) a) (raw P (2 ^ w - 1) a) x y h
  rw [Nat.xor_self] at e
  rw [e, itr_xor]
  simp only [more, Nat.xor_zero, raw_append]
  have k : ∀ s t, raw P s b ^^^ itr P (8 * b.length) (s ^^^ t) = raw P t b := fun s t => by
    rw [← raw_left, xor_cancel]
  rw [← k (raw P (raw P (2 ^ w - 1) a) x) (raw P (raw P (2 ^ w - 1) a) y), itr_xor]
  simp only [Nat.xor_assoc]

theorem zip_comm (x y : List Nat) : List.zipWith (· ^^^ ·) x y = List.zipWith (· ^^^ ·) y x := by
  induction x generalizing y with
  | nil => cases y <;> rfl
  | cons a x ih => cases y with
    | nil => rfl
    | cons b y => simp [ih, Nat.xor_comm]

/-- The polynomial's highest bit is 1: no number but 0 falls to 0. -/
theorem stp_inj0 {P w s : Nat} (hP : 2 ^ w ≤ P) (hs : s < 2 ^ (w + 1)) (h : stp P s = 0) : s = 0 := by
  unfold stp at h
  have := xor_eq_zero h
  have e : 2 ^ (w + 1) = 2 * 2 ^ w := by rw [Nat.pow_succ, Nat.mul_comm]
  split at this <;> omega

theorem itr_inj0 {P w : Nat} (hP : 2 ^ w ≤ P) (hQ : P < 2 ^ (w + 1)) (n : Nat) {s : Nat} (hs : s < 2 ^ (w + 1)) (h : itr P n s = 0) : s = 0 := by
  induction n generalizing s with
  | zero => exact h
  | succ n ih => exact stp_inj0 hP hs (ih (stp_lt hQ hs) h)

/-- The bit k of a list of bytes turned over. -/
def flip (l : List Nat) (k : Nat) : List Nat := l.set (k / 8) (l.getD (k / 8) 0 ^^^ 2 ^ (k % 8))

theorem flip_length (l : List Nat) (k : Nat) : (flip l k).length = l.length := by simp [flip]

theorem flip_cons_lt (x : Nat) (l : List Nat) (k : Nat) (h : k < 8) : flip (x :: l) k = (x ^^^ 2 ^ k) :: l := by
  have h1 : k / 8 = 0 := by omega
  have h2 : k % 8 = k := by omega
  simp [flip, h1, h2]

theorem flip_cons_ge (x : Nat) (l : List Nat) (k : Nat) : flip (x :: l) (k + 8) = x :: flip l k := by
  have h1 : (k + 8) / 8 = k / 8 + 1 := by omega
  have h2 : (k + 8) % 8 = k % 8 := by omega
  simp [flip, h1, h2]

/-- One bit turned: what it makes of the sum. -/
theorem raw_flip (P s : Nat) (l : List Nat) (k : Nat) (h : k < 8 * l.length) : raw P s (flip l k) = raw P s l ^^^ itr P (8 * l.length - k) 1 := by
  induction l generalizing s k with
  | nil => simp at h
  | cons x l ih =>
    by_cases hk : k < 8
    · have e : put P s (x ^^^ 2 ^ k) = put P s x ^^^ itr P 8 (2 ^ k) := by
        have := put_xor P s 0 x (2 ^ k)
        rw [Nat.xor_zero] at this
        rw [this]
        simp [put]
      rw [flip_cons_lt x l k hk, raw_cons, e, raw_left, raw_cons, ← itr_add]
      congr 1
      rw [show 8 * l.length + 8 = (8 * (x :: l).length - k) + k by simp only [List.length_cons] at h ⊢; omega, itr_add, itr_pow]
    · obtain ⟨j, rfl⟩ : ∃ j, k = j + 8 := ⟨k - 8, by omega⟩
      rw [flip_cons_ge, raw_cons, raw_cons, ih _ _ (by simp only [List.length_cons] at h; omega)]
      congr 2
      simp only [List.length_cons]
      omega

/-- One bit turned, told from an earlier place on. -/
theorem raw_flip_from (P s : Nat) (l : List Nat) (a i : Nat) (h : a + i < 8 * l.length) : raw P s (flip l (a + i)) = raw P s l ^^^ itr P (8 * l.length - a) (2 ^ i) := by
  rw [raw_flip P s l (a + i) h]
  congr 1
  rw [show 8 * l.length - a = (8 * l.length - (a + i)) + i by omega, itr_add, itr_pow]

/-- The n lowest bytes of a number. -/
def low (v : Nat) : Nat → List Nat
  | 0 => []
  | n + 1 => v % 256 :: low (v / 256) n

theorem raw_low (P s v n : Nat) : raw P s (low v n) = itr P (8 * n) (s ^^^ v % 256 ^ n) := by
  induction n generalizing s v with
  | zero => simp [low, raw_nil, itr, Nat.mod_one]
  | succ n ih =>
    rw [low, raw_cons, ih, Nat.mul_succ, itr_add]
    congr 1
    have e : v % 256 ^ (n + 1) = 2 ^ 8 * (v / 256 % 256 ^ n) ^^^ v % 256 := by
      have h1 := split_at (v % 256 ^ (n + 1)) 8
      have h2 : v % 256 ^ (n + 1) / 2 ^ 8 = v / 256 % 256 ^ n := by
        rw [Nat.pow_succ, Nat.mul_comm, Nat.mod_mul_right_div_self]
      have h3 : v % 256 ^ (n + 1) % 2 ^ 8 = v % 256 := by
        rw [Nat.pow_succ]
        exact Nat.mod_mul_left_mod _ _ _
      rw [h2, h3] at h1
      exact h1
    rw [e, xor_left_comm, itr_xor, itr_shift, put, Nat.xor_comm]

/-- Bytes with their own sum behind them. -/
theorem more_own (P n : Nat) (l : List Nat) (h : more P (8 * n) 0 l < 2 ^ (8 * n)) : more P (8 * n) 0 (l ++ low (more P (8 * n) 0 l) n) = more P (8 * n) 0 (List.replicate n 0) := by
  rw [more_append]
  generalize hs : more P (8 * n) 0 l = s at *
  unfold more
  rw [raw_low, raw_zeros, Nat.mod_eq_of_lt (by rw [show 256 ^ n = 2 ^ (8 * n) by rw [Nat.pow_mul]]; exact h), Nat.xor_assoc, Nat.xor_self]

/-! Products modulo the polynomial. -/

/-- The product's first k terms: from the highest bit (worth 1) on. -/
def tms (P w a b : Nat) : Nat → Nat
  | 0 => 0
  | k + 1 => tms P w a b k ^^^ (if a.testBit (w - 1 - k) then itr P k b else 0)

theorem tms_right (P w a b c k : Nat) : tms P w a (b ^^^ c) k = tms P w a b k ^^^ tms P w a c k := by
  induction k with
  | zero => exact (Nat.xor_self 0).symm
  | succ k ih =>
    rw [tms, ih, tms, tms]
    split
    · rw [itr_xor]; simp only [Nat.xor_assoc, Nat.xor_comm, xor_left_comm]
    · simp only [Nat.xor_zero]

theorem tms_left (P w a b c k : Nat) : tms P w (a ^^^ b) c k = tms P w a c k ^^^ tms P w b c k := by
  induction k with
  | zero => exact (Nat.xor_self 0).symm
  | succ k ih =>
    rw [tms, ih, tms, tms, Nat.testBit_xor]
    generalize tms P w a c k = p
    generalize tms P w b c k = q
    generalize itr P k c = r
    cases a.testBit (w - 1 - k) <;> cases b.testBit (w - 1 - k) 
    · simp
    · simp [Nat.xor_assoc]
    · simp [Nat.xor_comm, xor_left_comm]
    · simp [xor_left_comm, Nat.xor_comm]

theorem tms_zero (P w b k : Nat) : tms P w 0 b k = 0 := by
  induction k with
  | zero => rfl
  | succ k ih => rw [tms, ih]; simp

theorem tms_stp (P w a b k : Nat) : tms P w a (stp P b) k = stp P (tms P w a b k) := by
  induction k with
  | zero => exact (stp_zero P).symm
  | succ k ih =>
    rw [tms, ih, tms, stp_xor]
    congr 1
    split
    · rw [← itr_succ]; rfl
    · exact (stp_zero P).symm

theorem tms_itr (P w a b k n : Nat) : tms P w a (itr P n b) k = itr P n (tms P w a b k) := by
  induction n with
  | zero => rfl
  | succ n ih => rw [itr_succ, tms_stp, ih, itr_succ]

/-- The product. -/
def tim (P w a b : Nat) : Nat := tms P w a b w

/-- A single bit's terms. -/
theorem tms_one (P w j b k : Nat) (hj : j < w) (hk : k ≤ w) : tms P w (2 ^ (w - 1 - j)) b k = if j < k then itr P j b else 0 := by
  induction k with
  | zero => rfl
  | succ k ih =>
    rw [tms, ih (by omega), Nat.testBit_two_pow]
    by_cases h1 : j < k
    · simp [h1, show j < k + 1 by omega, show ¬ w - 1 - j = w - 1 - k by omega]
    · by_cases h2 : j = k
      · subst h2; simp
      · simp [h1, show ¬ j < k + 1 by omega, show ¬ w - 1 - j = w - 1 - k by omega]

theorem tim_one (P w j b : Nat) (hj : j < w) : tim P w (2 ^ (w - 1 - j)) b = itr P j b := by
  rw [tim, tms_one P w j b w hj (Nat.le_refl _), if_pos hj]

/-- What is true of 0, of single bits and of xors is true of all numbers of w bits. -/
theorem bits_ind (w : Nat) (p : Nat → Prop) (h0 : p 0) (h1 : ∀ i, i < w → p (2 ^ i)) (hx : ∀ a b, p a → p b → p (a ^^^ b)) : ∀ a, a < 2 ^ w → p a := by
  induction w with
  | zero => intro a ha; obtain rfl : a = 0 := by simpa using ha
            exact h0
  | succ w ih =>
    intro a ha
    have hl := ih (fun i hi => h1 i (by omega))
    rw [split_at a w]
    refine hx _ _ ?_ (hl _ (Nat.mod_lt _ (Nat.two_pow_pos w)))
    have : a / 2 ^ w < 2 := by
      rw [Nat.pow_succ, Nat.mul_comm] at ha
      exact (Nat.div_lt_iff_lt_mul (Nat.two_pow_pos w)).2 ha
    generalize a / 2 ^ w = q at *
    rcases (show q = 0 ∨ q = 1 by omega) with e | e <;> rw [e]
    · simpa using h0
    · simpa using h1 w (by omega)

/-- A single bit is steps of the highest. -/
theorem pow_itr (P w i : Nat) (hi : i < w) : 2 ^ i = itr P (w - 1 - i) (2 ^ (w - 1)) := by
  have : 2 ^ (w - 1) = 2 ^ (w - 1 - i) * 2 ^ i := by rw [← Nat.pow_add]; congr 1; omega
  rw [this, itr_shift]

/-- The polynomial times a number: w steps. -/
theorem tim_poly (P w b : Nat) (hP : tim P w P (2 ^ (w - 1)) = P) (h1 : itr P w (2 ^ (w - 1)) = P) (hb : b < 2 ^ w) : tim P w P b = itr P w b := by
  revert b
  refine bits_ind w _ ?_ ?_ ?_
  · rw [itr_zero]
    have h := tms_right P w P 0 0 w
    rw [Nat.xor_self, Nat.xor_self] at h
    exact h
  · intro i hi
    rw [pow_itr P w i hi, tim, tms_itr, itr_comm, ← tim, hP, h1]
  · intro a b ha hb
    rw [itr_xor, tim, tms_right, ← tim, ← tim, ha, hb]

theorem tim_left_stp (P w a b : Nat) (hw : 0 < w) (hP : tim P w P (2 ^ (w - 1)) = P) (h1 : itr P w (2 ^ (w - 1)) = P) (ha : a < 2 ^ w) (hb : b < 2 ^ w) : tim P w (stp P a) b = stp P (tim P w a b) := by
  revert a
  refine bits_ind w _ ?_ ?_ ?_
  · rw [stp_zero, tim, tms_zero, stp_zero]
  · intro i hi
    rcases i with _ | i
    · have e : stp P (2 ^ 0) = P := by simp [stp]
      rw [e, tim_poly P w b hP h1 hb]
      have := tim_one P w (w - 1) b (by omega)
      rw [show w - 1 - (w - 1) = 0 by omega] at this
      rw [this, ← itr_succ]
      congr 1
      omega
    · have e : stp P (2 ^ (i + 1)) = 2 ^ i := by rw [Nat.pow_succ, Nat.mul_comm, stp_even]
      rw [e]
      have k1 := tim_one P w (w - 1 - i) b (by omega)
      have k2 := tim_one P w (w - 1 - (i + 1)) b (by omega)
      rw [show w - 1 - (w - 1 - i) = i by omega] at k1
      rw [show w - 1 - (w - 1 - (i + 1)) = i + 1 by omega] at k2
      rw [k1, k2, ← itr_succ]
      congr 1
      omega
  · intro a c ha hc
    rw [stp_xor, tim, tms_left, ← tim, ← tim, ha, hc, ← stp_xor, tim, tim, ← tms_left, ← tim]

theorem tim_left_itr (P w a b n : Nat) (hw : 0 < w) (hP : tim P w P (2 ^ (w - 1)) = P) (h1 : itr P w (2 ^ (w - 1)) = P) (hp : P < 2 ^ w) (ha : a < 2 ^ w) (hb : b < 2 ^ w) : tim P w (itr P n a) b = itr P n (tim P w a b) := by
  induction n with
  | zero => rfl
  | succ n ih => rw [itr_succ, tim_left_stp P w _ b hw hP h1 (itr_lt hp n ha) hb, ih, itr_succ]

/-- A number that, as a factor, does m steps. -/
def Acts (P w m a : Nat) : Prop := a < 2 ^ w ∧ ∀ b, b < 2 ^ w → tim P w a b = itr P m b

theorem Acts.mul {P w m n a b : Nat} (hw : 0 < w) (hP : tim P w P (2 ^ (w - 1)) = P) (h1 : itr P w (2 ^ (w - 1)) = P) (hp : P < 2 ^ w) (ha : Acts P w m a) (hb : Acts P w n b) : Acts P w (m + n) (tim P w a b) := by
  have e := ha.2 b hb.1
  refine ⟨by rw [e]; exact itr_lt hp m hb.1, fun c hc => ?_⟩
  rw [e, tim_left_itr P w b c m hw hP h1 hp hb.1 hc, hb.2 c hc, itr_add]

theorem Acts.one (P w j : Nat) (hj : j < w) : Acts P w j (2 ^ (w - 1 - j)) :=
  ⟨Nat.pow_lt_pow_right (by omega) (by omega), fun b _ => tim_one P w j b hj⟩

/-! The two polynomials. -/

def P32 : Nat := 0xEDB88320
def P64 : Nat := 0xC96C5795D7870F42

theorem p32_lt : P32 < 2 ^ 32 := by decide
theorem p64_lt : P64 < 2 ^ 64 := by decide
theorem p32_one : tim P32 32 P32 (2 ^ 31) = P32 := by decide +kernel
theorem p64_one : tim P64 64 P64 (2 ^ 63) = P64 := by decide +kernel
theorem p32_itr : itr P32 32 (2 ^ 31) = P32 := by decide +kernel
theorem p64_itr : itr P64 64 (2 ^ 63) = P64 := by decide +kernel

/-! What many zeros make, bit by bit. -/

theorem mod_bit (s k : Nat) : s % 2 ^ (k + 1) = s % 2 ^ k ^^^ (if s / 2 ^ k % 2 = 1 then 2 ^ k else 0) := by
  have hb : s.testBit k = decide (s / 2 ^ k % 2 = 1) := Nat.testBit_eq_decide_div_mod_eq
  apply Nat.eq_of_testBit_eq
  intro i
  rw [Nat.testBit_xor, Nat.testBit_mod_two_pow, Nat.testBit_mod_two_pow]
  by_cases h1 : i < k
  · split <;> simp [h1, show i < k + 1 by omega, show ¬ k = i by omega]
  · by_cases h2 : i = k
    · subst h2
      split <;> simp_all
    · split <;> simp [h1, show ¬ i < k + 1 by omega, show ¬ k = i by omega]

theorem itr_bit_one (P z s k : Nat) (h : s / 2 ^ k % 2 = 1) : itr P z (s % 2 ^ k) ^^^ itr P z (2 ^ k) = itr P z (s % 2 ^ (k + 1)) := by
  rw [mod_bit, if_pos h, itr_xor]

theorem itr_bit_zero (P z s k : Nat) (h : ¬ s / 2 ^ k % 2 = 1) : itr P z (s % 2 ^ k) = itr P z (s % 2 ^ (k + 1)) := by
  rw [mod_bit, if_neg h, Nat.xor_zero]

end Crc
end Go.Proofs.YtikokgngkagieaaDoor.Cq
