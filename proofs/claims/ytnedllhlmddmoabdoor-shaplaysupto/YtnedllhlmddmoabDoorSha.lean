/- The sum's mathematics, over natural numbers: words, the step, padding, what is eaten; of no statement by itself. -/
namespace Go.Proofs.YtnedllhlmddmoabDoor.Sha

/-- Turned down by n places, of 32. -/
def rotr (x n : Nat) : Nat := x / 2 ^ n ||| x * 2 ^ (32 - n) % 4294967296
def add (a b : Nat) : Nat := (a + b) % 4294967296
def not (e : Nat) : Nat := 4294967295 ^^^ e
def bs1 (e : Nat) : Nat := rotr e 6 ^^^ rotr e 11 ^^^ rotr e 25
def bs0 (a : Nat) : Nat := rotr a 2 ^^^ rotr a 13 ^^^ rotr a 22
def ch (e f g : Nat) : Nat := (e &&& f) ^^^ (not e &&& g)
def maj (a b c : Nat) : Nat := (a &&& b) ^^^ (a &&& c) ^^^ (b &&& c)
def sg1 (x : Nat) : Nat := rotr x 17 ^^^ rotr x 19 ^^^ x / 1024
def sg0 (y : Nat) : Nat := rotr y 7 ^^^ rotr y 18 ^^^ y / 8

/-- A word of four bytes, the highest first. -/
def wd (b : List Nat) (t : Nat) : Nat := ((b.getD (4 * t) 0 * 256 + b.getD (4 * t + 1) 0) * 256 + b.getD (4 * t + 2) 0) * 256 + b.getD (4 * t + 3) 0

/-- The word number t, of those ahead. -/
def nxt (l : List Nat) (t : Nat) : Nat := add (add (add (sg1 (l.getD (t - 2) 0)) (l.getD (t - 7) 0)) (sg0 (l.getD (t - 15) 0))) (l.getD (t - 16) 0)

/-- A block's words, the first n. -/
def first (b : List Nat) (n : Nat) : List Nat := (List.range n).map (wd b)

/-- The first sixteen words, and n more. -/
def sched (b : List Nat) : Nat → List Nat
  | 0 => first b 16
  | n + 1 => sched b n ++ [nxt (sched b n) (16 + n)]

def tmp1 (h e f g k w : Nat) : Nat := add (add (add (add h (bs1 e)) (ch e f g)) k) w

/-- One round. -/
def rnd (k w : Nat) : List Nat → List Nat
  | [a, b, c, d, e, f, g, h] => [add (add (tmp1 h e f g k w) (bs0 a)) (maj a b c), a, b, c, add d (tmp1 h e f g k w), e, f, g]
  | l => l

/-- The first t rounds. -/
def rnds (K W s : List Nat) : Nat → List Nat
  | 0 => s
  | t + 1 => rnd (K.getD t 0) (W.getD t 0) (rnds K W s t)

def K : List Nat := [1116352408, 1899447441, 3049323471, 3921009573, 961987163, 1508970993, 2453635748, 2870763221, 3624381080, 310598401, 607225278, 1426881987, 1925078388, 2162078206, 2614888103, 3248222580, 3835390401, 4022224774, 264347078, 604807628, 770255983, 1249150122, 1555081692, 1996064986, 2554220882, 2821834349, 2952996808, 3210313671, 3336571891, 3584528711, 113926993, 338241895, 666307205, 773529912, 1294757372, 1396182291, 1695183700, 1986661051, 2177026350, 2456956037, 2730485921, 2820302411, 3259730800, 3345764771, 3516065817, 3600352804, 4094571909, 275423344, 430227734, 506948616, 659060556, 883997877, 958139571, 1322822218, 1537002063, 1747873779, 1955562222, 2024104815, 2227730452, 2361852424, 2428436474, 2756734187, 3204031479, 3329325298]
def I : List Nat := [1779033703, 3144134277, 1013904242, 2773480762, 1359893119, 2600822924, 528734635, 1541459225]

/-- Word by word. -/
def sums (s r : List Nat) : List Nat := (List.range 8).map fun i => add (s.getD i 0) (r.getD i 0)

/-- The step of a block over a state. -/
def step (s b : List Nat) : List Nat := sums s (rnds K (sched b 48) s 64)

/-- The first n blocks of some bytes. -/
def run (s : List Nat) (bs : List Nat) : Nat → List Nat
  | 0 => s
  | n + 1 => step (run s bs n) ((bs.drop (64 * n)).take 64)

/-- All whole blocks. -/
def eat (s bs : List Nat) : List Nat := run s bs (bs.length / 64)

/-- What waits for the rest of its block. -/
def rest (bs : List Nat) : List Nat := bs.drop (64 * (bs.length / 64))

/-- A state's words as bytes. -/
def told (s : List Nat) : List Nat := (List.range 32).map fun i => s.getD (i / 4) 0 / 2 ^ (24 - i % 4 * 8) % 256

/-- The state of 32 bytes. -/
def known (b : List Nat) : List Nat := (List.range 8).map fun i => wd b i

def padlen (n : Nat) : Nat := if 64 - n % 64 < 9 then 128 - n % 64 else 64 - n % 64

/-- The padding behind n bytes. -/
def pad (n : Nat) : List Nat := (List.range (padlen n)).map fun i => if i = 0 then 128 else if padlen n - 8 ≤ i then 8 * n / 2 ^ (8 * (padlen n - 1 - i)) % 256 else 0

/-- The sum of one that began at that state, behind n bytes, and has eaten bs. -/
def sum (s : List Nat) (n : Nat) (bs : List Nat) : List Nat := told (eat s (bs ++ pad (n + bs.length)))

/-- Words. -/
def Wds (l : List Nat) : Prop := ∀ x ∈ l, x < 4294967296

theorem Wds.getD {l : List Nat} (h : Wds l) (i : Nat) : l.getD i 0 < 4294967296 := by
  by_cases hi : i < l.length
  · simp only [List.getD_eq_getElem?_getD, List.getElem?_eq_getElem hi, Option.getD_some]
    exact h _ (List.getElem_mem _)
  · simp only [List.getD_eq_getElem?_getD, List.getElem?_eq_none (Nat.le_of_not_lt hi), Option.getD_none]
    omega

theorem K_wds : Wds K := by unfold Wds K; decide
theorem I_wds : Wds I := by unfold Wds I; decide

theorem add_lt (a b : Nat) : add a b < 4294967296 := Nat.mod_lt _ (by omega)
theorem xor_lt {a b : Nat} (ha : a < 4294967296) (hb : b < 4294967296) : a ^^^ b < 4294967296 := Nat.xor_lt_two_pow (n := 32) ha hb
theorem or_lt {a b : Nat} (ha : a < 4294967296) (hb : b < 4294967296) : a ||| b < 4294967296 := Nat.or_lt_two_pow (n := 32) ha hb
theorem and_lt (a : Nat) {b : Nat} (hb : b < 4294967296) : a &&& b < 4294967296 := Nat.and_lt_two_pow (n := 32) a hb
theorem div_lt {a : Nat} (n : Nat) (ha : a < 4294967296) : a / n < 4294967296 := Nat.lt_of_le_of_lt (Nat.div_le_self _ _) ha
theorem rotr_lt {x : Nat} (n : Nat) (hx : x < 4294967296) : rotr x n < 4294967296 := or_lt (div_lt _ hx) (Nat.mod_lt _ (by omega))
theorem not_lt {e : Nat} (h : e < 4294967296) : not e < 4294967296 := xor_lt (by omega) h
theorem bs1_lt {e : Nat} (h : e < 4294967296) : bs1 e < 4294967296 := xor_lt (xor_lt (rotr_lt _ h) (rotr_lt _ h)) (rotr_lt _ h)
theorem bs0_lt {e : Nat} (h : e < 4294967296) : bs0 e < 4294967296 := xor_lt (xor_lt (rotr_lt _ h) (rotr_lt _ h)) (rotr_lt _ h)
theorem sg1_lt {e : Nat} (h : e < 4294967296) : sg1 e < 4294967296 := xor_lt (xor_lt (rotr_lt _ h) (rotr_lt _ h)) (div_lt _ h)
theorem sg0_lt {e : Nat} (h : e < 4294967296) : sg0 e < 4294967296 := xor_lt (xor_lt (rotr_lt _ h) (rotr_lt _ h)) (div_lt _ h)
theorem ch_lt {e f g : Nat} (hf : f < 4294967296) (hg : g < 4294967296) : ch e f g < 4294967296 := xor_lt (and_lt _ hf) (and_lt _ hg)
theorem maj_lt {a b c : Nat} (hb : b < 4294967296) (hc : c < 4294967296) : maj a b c < 4294967296 := xor_lt (xor_lt (and_lt _ hb) (and_lt _ hc)) (and_lt _ hc)
theorem nxt_lt (l : List Nat) (t : Nat) : nxt l t < 4294967296 := add_lt _ _
theorem tmp1_lt (h e f g k w : Nat) : tmp1 h e f g k w < 4294967296 := add_lt _ _

theorem byte_getD {b : List Nat} (hb : ∀ x ∈ b, x < 256) (i : Nat) : b.getD i 0 < 256 := by
  by_cases hi : i < b.length
  · simp only [List.getD_eq_getElem?_getD, List.getElem?_eq_getElem hi, Option.getD_some]
    exact hb _ (List.getElem_mem _)
  · simp only [List.getD_eq_getElem?_getD, List.getElem?_eq_none (Nat.le_of_not_lt hi), Option.getD_none]
    omega

theorem wd_lt {b : List Nat} (hb : ∀ x ∈ b, x < 256) (t : Nat) : wd b t < 4294967296 := by
  have h0 := byte_getD hb (4 * t)
  have h1 := byte_getD hb (4 * t + 1)
  have h2 := byte_getD hb (4 * t + 2)
  have h3 := byte_getD hb (4 * t + 3)
  unfold wd
  omega

theorem first_wds {b : List Nat} (hb : ∀ x ∈ b, x < 256) (n : Nat) : Wds (first b n) := fun x hx => by
  obtain ⟨t, _, rfl⟩ := List.mem_map.1 hx
  exact wd_lt hb t

theorem first_len (b : List Nat) (n : Nat) : (first b n).length = n := by simp [first]
theorem first_succ (b : List Nat) (n : Nat) : first b (n + 1) = first b n ++ [wd b n] := by simp [first, List.range_succ]

theorem sched_wds {b : List Nat} (hb : ∀ x ∈ b, x < 256) : ∀ n, Wds (sched b n)
  | 0 => first_wds hb 16
  | n + 1 => fun x hx => by
    rcases List.mem_append.1 hx with h | h
    · exact sched_wds hb n x h
    · rw [List.mem_singleton.1 h]; exact nxt_lt _ _

theorem sched_len (b : List Nat) : ∀ n, (sched b n).length = 16 + n
  | 0 => first_len b 16
  | n + 1 => by simp only [sched, List.length_append, sched_len b n, List.length_singleton]; omega

/-- Eight words. -/
structure St (s : List Nat) : Prop where
  len : s.length = 8
  wds : Wds s

theorem I_st : St I := ⟨rfl, I_wds⟩

theorem St.eight {s : List Nat} (h : St s) : ∃ a b c d e f g i, s = [a, b, c, d, e, f, g, i] ∧ a < 4294967296 ∧ b < 4294967296 ∧ c < 4294967296 ∧ d < 4294967296 ∧ e < 4294967296 ∧ f < 4294967296 ∧ g < 4294967296 ∧ i < 4294967296 := by
  obtain ⟨hl, hw⟩ := h
  match s, hl with
  | [a, b, c, d, e, f, g, i], _ => exact ⟨a, b, c, d, e, f, g, i, rfl, hw _ (by simp), hw _ (by simp), hw _ (by simp), hw _ (by simp), hw _ (by simp), hw _ (by simp), hw _ (by simp), hw _ (by simp)⟩

theorem st_of {a b c d e f g i : Nat} (ha : a < 4294967296) (hb : b < 4294967296) (hc : c < 4294967296) (hd : d < 4294967296) (he : e < 4294967296) (hf : f < 4294967296) (hg : g < 4294967296) (hi : i < 4294967296) : St [a, b, c, d, e, f, g, i] := by
  refine ⟨rfl, fun x hx => ?_⟩
  simp only [List.mem_cons, List.not_mem_nil, or_false] at hx
  omega

theorem rnd_st {s : List Nat} (h : St s) (k w : Nat) : St (rnd k w s) := by
  obtain ⟨a, b, c, d, e, f, g, i, rfl, ha, hb, hc, hd, he, hf, hg, hi⟩ := h.eight
  exact st_of (add_lt _ _) ha hb hc (add_lt _ _) he hf hg

theorem rnds_st {s : List Nat} (h : St s) (K W : List Nat) : ∀ t, St (rnds K W s t)
  | 0 => h
  | t + 1 => rnd_st (rnds_st h K W t) _ _

theorem sums_st (s r : List Nat) : St (sums s r) := by
  refine ⟨by simp [sums], fun x hx => ?_⟩
  obtain ⟨i, _, rfl⟩ := List.mem_map.1 hx
  exact add_lt _ _

theorem step_st (s b : List Nat) : St (step s b) := sums_st _ _

theorem run_st {s : List Nat} (h : St s) (bs : List Nat) : ∀ n, St (run s bs n)
  | 0 => h
  | _ + 1 => step_st _ _

theorem eat_st {s : List Nat} (h : St s) (bs : List Nat) : St (eat s bs) := run_st h bs _

/-- What stands behind the first n blocks is not seen. -/
theorem run_append (s a b : List Nat) : ∀ n, 64 * n ≤ a.length → run s (a ++ b) n = run s a n
  | 0, _ => rfl
  | n + 1, h => by
    simp only [run]
    rw [run_append s a b n (by omega)]
    congr 1
    rw [List.drop_append_of_le_length (by omega), List.take_append_of_le_length (by simp; omega)]

theorem run_add (s a b : List Nat) (m : Nat) (h : a.length = 64 * m) : ∀ n, run s (a ++ b) (m + n) = run (run s a m) b n
  | 0 => run_append s a b m (by omega)
  | n + 1 => by
    show step (run s (a ++ b) (m + n)) (((a ++ b).drop (64 * (m + n))).take 64) = step (run (run s a m) b n) ((b.drop (64 * n)).take 64)
    rw [run_add s a b m h n]
    congr 2
    rw [List.drop_append, h, List.drop_of_length_le (by omega), List.nil_append]
    congr 1
    omega

/-- Behind whole blocks it goes on as from their state. -/
theorem eat_append (s a b : List Nat) (h : a.length % 64 = 0) : eat s (a ++ b) = eat (eat s a) b := by
  unfold eat
  have e : (a ++ b).length / 64 = a.length / 64 + b.length / 64 := by rw [List.length_append]; omega
  rw [e]
  exact run_add s a b (a.length / 64) (by omega) _

theorem rest_len (bs : List Nat) : (rest bs).length = bs.length % 64 := by
  unfold rest
  rw [List.length_drop]
  omega

/-- More bytes that do not fill the block. -/
theorem eat_less (s bs ys : List Nat) (h : bs.length % 64 + ys.length < 64) : eat s (bs ++ ys) = eat s bs := by
  unfold eat
  have e : (bs ++ ys).length / 64 = bs.length / 64 := by rw [List.length_append]; omega
  rw [e]
  exact run_append s bs ys _ (by omega)

theorem rest_less (bs ys : List Nat) (h : bs.length % 64 + ys.length < 64) : rest (bs ++ ys) = rest bs ++ ys := by
  unfold rest
  have e : (bs ++ ys).length / 64 = bs.length / 64 := by rw [List.length_append]; omega
  rw [e, List.drop_append_of_le_length (by omega)]

/-- More bytes that fill it. -/
theorem eat_full (s bs ys : List Nat) (h : bs.length % 64 + ys.length = 64) : eat s (bs ++ ys) = step (eat s bs) (rest bs ++ ys) := by
  have e : (bs ++ ys).length / 64 = bs.length / 64 + 1 := by rw [List.length_append]; omega
  show run s (bs ++ ys) ((bs ++ ys).length / 64) = _
  rw [e]
  show step (run s (bs ++ ys) (bs.length / 64)) _ = _
  rw [run_append s bs ys _ (by omega)]
  congr 1
  rw [List.drop_append_of_le_length (by omega)]
  show (rest bs ++ ys).take 64 = _
  rw [List.take_of_length_le (by rw [List.length_append, rest_len]; omega)]

theorem rest_full (bs ys : List Nat) (h : bs.length % 64 + ys.length = 64) : rest (bs ++ ys) = [] := by
  unfold rest
  rw [List.drop_of_length_le (by rw [List.length_append]; omega)]

theorem padlen_ge (n : Nat) : 9 ≤ padlen n := by unfold padlen; split <;> omega
theorem padlen_le (n : Nat) : padlen n ≤ 72 := by unfold padlen; split <;> omega
theorem padlen_mod (n : Nat) : (n + padlen n) % 64 = 0 := by unfold padlen; split <;> omega
theorem pad_len (n : Nat) : (pad n).length = padlen n := by simp [pad]
theorem pad_byt (n : Nat) : ∀ x ∈ pad n, x < 256 := fun x hx => by
  obtain ⟨i, _, rfl⟩ := List.mem_map.1 hx
  split
  · omega
  · split
    · exact Nat.mod_lt _ (by omega)
    · omega
theorem told_len (s : List Nat) : (told s).length = 32 := by simp [told]
theorem told_byt (s : List Nat) : ∀ x ∈ told s, x < 256 := fun x hx => by
  obtain ⟨i, _, rfl⟩ := List.mem_map.1 hx
  exact Nat.mod_lt _ (by omega)

theorem known_told {s : List Nat} (h : St s) : known (told s) = s := by
  obtain ⟨a, b, c, d, e, f, g, i, rfl, ha, hb, hc, hd, he, hf, hg, hi⟩ := h.eight
  have key : ∀ x, x < 4294967296 → ((x / 2 ^ (24 - 0) % 256 * 256 + x / 2 ^ (24 - 8) % 256) * 256 + x / 2 ^ (24 - 16) % 256) * 256 + x / 2 ^ (24 - 24) % 256 = x := by
    intro x hx
    simp only [Nat.reduceSub, Nat.reducePow]
    omega
  have hr : List.range 8 = [0, 1, 2, 3, 4, 5, 6, 7] := rfl
  have ht : ∀ j, j < 32 → (told [a, b, c, d, e, f, g, i]).getD j 0 = [a, b, c, d, e, f, g, i].getD (j / 4) 0 / 2 ^ (24 - j % 4 * 8) % 256 := by
    intro j hj
    simp [told, hj]
  simp only [known, hr, List.map_cons, List.map_nil, wd, ht, Nat.reduceMul, Nat.reduceAdd, Nat.reduceLT, Nat.reduceDiv, Nat.reduceMod, List.getD_cons_zero, List.getD_cons_succ]
  simp only [Nat.reduceSub, Nat.reducePow] at key ⊢
  rw [key a ha, key b hb, key c hc, key d hd, key e he, key f hf, key g hg, key i hi]

theorem known_st {b : List Nat} (hb : ∀ x ∈ b, x < 256) : St (known b) := by
  refine ⟨by simp [known], fun x hx => ?_⟩
  obtain ⟨i, _, rfl⟩ := List.mem_map.1 hx
  exact wd_lt hb i

/-- Length extension. -/
theorem sum_extends (m x : List Nat) : sum (known (sum I 0 m)) ((m ++ pad m.length).length) x = sum I 0 (m ++ pad m.length ++ x) := by
  unfold sum
  rw [Nat.zero_add, Nat.zero_add, known_told (eat_st I_st _)]
  have hl : (m ++ pad m.length).length % 64 = 0 := by rw [List.length_append, pad_len]; exact padlen_mod _
  rw [List.append_assoc (m ++ pad m.length) x, eat_append I (m ++ pad m.length) _ hl, List.length_append (as := m ++ pad m.length) (bs := x)]
end Go.Proofs.YtnedllhlmddmoabDoor.Sha
