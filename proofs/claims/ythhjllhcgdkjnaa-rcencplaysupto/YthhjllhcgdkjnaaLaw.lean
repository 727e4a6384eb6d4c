/- The contracts of worth, number, lays and begun; of no statement by themselves. -/
import Derived.Test.YthhjllhcgdkjnaaEnC
import Derived.Test.YthhjllhcgdkjnaaEnE
import Derived.Test.YthhjllhcgdkjnaaEnF
import Derived.Test.YthhjllhcgdkjnaaBk
namespace Go.Proofs.Ythhjllhcgdkjnaa
open Go.RowKit
set_option linter.unusedVariables false

theorem row8_own {w : World} {B : Nat} {ad : Option Addr} {c n : Nat} {xs : List Int} (h : w.ownsRow B 5 1 (.slice ad n c) n (ins .u8 xs)) : Row8 w ad n c xs := by
  have hl : n = xs.length := by have := h.1; simp [ins] at this; omega
  refine ⟨hl.symm, ?_⟩
  rcases h.2 with ⟨e0, e1⟩ | ⟨g, cap, cur, e0, _⟩
  · simp only [Value.slice.injEq] at e0
    exact .inl ⟨e0.1, e1, e0.2.2⟩
  · simp only [Value.slice.injEq, true_and] at e0
    obtain ⟨rfl, rfl⟩ := e0
    exact .inr ⟨_, rfl, fun j u hu => h.cells (g := g) rfl j u hu⟩
theorem conv_own {w : World} {B : Nat} {ad : Option Addr} {c n : Nat} {xs : List Int} (h : w.ownsRow B 5 1 (.slice ad n c) n (ins .u8 xs)) :
    (convert 29 9 (.slice ad n c)).run Try.prog w = .ok (.string (strOfNums xs)) w := Bk.conv8_here (row8_own h)

/-- The bytes as a string. -/
def sb (e : Rc.E) : ByteArray := strOfNums (nums (Rc.by_ e))
def wo (one : Bool) : Int := if one then 1 else 0
theorem worth_any (one : Bool) (w : World) : Calls Try.prog 16 #[.bool one] w fun e w' => e = .returned (.int .i64 (wo one)) ∧ w = w' := by
  cases one
  · go_enter Try.func16, Try.ntmps16
    go_wp2
    go_ret
    exact ⟨rfl, rfl⟩
  · go_enter Try.func16, Try.ntmps16
    go_wp2
    go_ret
    exact ⟨rfl, rfl⟩

def num (i : Int) : Nat := (i % 5).toNat
theorem num_le (i : Int) : num i ≤ 4 := by unfold num; omega
theorem tm5 (i : Int) : (0 ≤ i → i.tmod 5 = i % 5) ∧ (i < 0 → i.tmod 5 = -((-i) % 5)) := by
  refine ⟨fun h => Int.tmod_eq_emod_of_nonneg h, fun h => ?_⟩
  have e : i.tmod 5 = -((-i).tmod 5) := by rw [Int.neg_tmod, Int.neg_neg]
  rw [e, Int.tmod_eq_emod_of_nonneg (by omega)]
theorem number_any (i : Int) (hi : I64 i) (w : World) : Calls Try.prog 14 #[.int .i64 i] w fun e w' => e = .returned (.int .i64 (num i : Int)) ∧ w = w' := by
  obtain ⟨h1, h2⟩ := hi
  have hd : decide ((5 : Int) = 0) = false := rfl
  obtain ⟨t1, t2⟩ := tm5 i
  obtain ⟨y, hy⟩ : ∃ y, i.tmod 5 = y := ⟨_, rfl⟩
  rw [hy] at t1 t2
  have hb : -5 < y ∧ y < 5 ∧ (y < 0 → ((num i : Nat) : Int) = y + 5) ∧ (0 ≤ y → ((num i : Nat) : Int) = y) := by
    unfold num
    by_cases h0 : 0 ≤ i
    · have := t1 h0; omega
    · have := t2 (by omega); omega
  obtain ⟨b1, b2, b3, b4⟩ := hb
  clear t1 t2
  by_cases h0 : y < 0
  · rw [b3 h0]
    clear b3 b4
    go_enter Try.func14, Try.ntmps14
    go_wp2
    go_ret
    exact ⟨rfl, rfl⟩
  · rw [b4 (by omega)]
    clear b3 b4
    have hd0 : decide (y < 0) = false := by simp; omega
    go_enter Try.func14, Try.ntmps14
    go_wp2
    go_ret
    exact ⟨rfl, rfl⟩

/-- An encoder and a set of four. -/
structure Es (w : World) (B a s : Nat) (v u : Value) (e : Rc.E) (xs : List Int) : Prop where
  en : Enc w B a v e
  st : St w B s u xs
  inn : In31 xs
  len : xs.length = 4
  ok : Rc.Ok e
/-- What of it may change. -/
def Fe (a : Nat) (v u : Value) (z : Nat) : Prop := Foot a v z ∨ u.ownBlock = some z
theorem Es.keep {w w' : World} {S : Nat → Prop} {B a s : Nat} {v u : Value} {e : Rc.E} {xs : List Int} (h : Es w B a s v u e xs) (hc : Chg S w w') (h1 : ¬ S a) (h2 : ∀ g, v.ownBlock = some g → ¬ S g) (h3 : ¬ S s) (h4 : ∀ g, u.ownBlock = some g → ¬ S g) : Es w' B a s v u e xs := by
  obtain ⟨l, hE, hI⟩ := h.en
  exact ⟨⟨l, hE.keep hc h1 h2, hI⟩, h.st.keep hc h3 h4, h.inn, h.len, h.ok⟩
theorem Es.new {w w' : World} {B a s : Nat} {v u : Value} {e : Rc.E} {xs : List Int} (h : Es w B a s v u e xs) (hc : Chg (fun _ => False) w w') : Es w' B a s v u e xs := h.keep hc (fun f => f) (fun _ _ f => f) (fun f => f) (fun _ _ f => f)

def layE (e : Rc.E) (xs : List Int) (j : Nat) (one : Bool) : Rc.E := if h : j < xs.length then coded e xs[j] (wo one) else Rc.half e one
def layX (xs : List Int) (j : Nat) (one : Bool) : List Int := if h : j < xs.length then xs.set j (Prob.nx xs[j] (wo one)) else xs
theorem wo_dec (one : Bool) : decide (wo one ≠ 0) = one := by cases one <;> rfl
theorem layX_len (xs : List Int) (j : Nat) (one : Bool) : (layX xs j one).length = xs.length := by unfold layX; split <;> simp
theorem layX_in {xs : List Int} (h : In31 xs) (j : Nat) (one : Bool) : In31 (layX xs j one) := by
  unfold layX
  split
  · rename_i hj
    exact h.set j _ (Prob.nx_lo (h.at j hj).1 (h.at j hj).2)
  · exact h
theorem coded_ok {e : Rc.E} {p b : Int} (h : Rc.Ok e) (h1 : 31 ≤ p) (h2 : p ≤ 2017) : Rc.Ok (coded e p b) := by
  have hb := Rc.bound_in (R := e.R) (p := p.toNat) h.lo (by omega) (by omega)
  exact Rc.cut_ok h hb.1 hb.2 _
theorem layE_ok {e : Rc.E} {xs : List Int} (h : Rc.Ok e) (hI : In31 xs) (j : Nat) (one : Bool) : Rc.Ok (layE e xs j one) := by
  unfold layE
  split
  · rename_i hj
    exact coded_ok h (hI.at j hj).1 (hI.at j hj).2
  · exact Rc.half_ok h one
theorem widen_k (e : Rc.E) : e.k ≤ (Rc.widen e).k ∧ (Rc.widen e).k ≤ e.k + 1 := by
  unfold Rc.widen
  split
  · exact ⟨Nat.le_succ _, Nat.le_refl _⟩
  · exact ⟨Nat.le_refl _, Nat.le_succ _⟩
theorem cut_k (e : Rc.E) (b : Nat) (one : Bool) : e.k ≤ (Rc.cut e b one).k ∧ (Rc.cut e b one).k ≤ e.k + 1 := by
  cases one
  · exact widen_k ⟨e.L, b, e.k⟩
  · exact widen_k ⟨e.L + b, e.R - b, e.k⟩
theorem layE_k (e : Rc.E) (xs : List Int) (j : Nat) (one : Bool) : e.k ≤ (layE e xs j one).k ∧ (layE e xs j one).k ≤ e.k + 1 := by
  unfold layE
  split
  · exact cut_k _ _ _
  · exact half_k_le e one
theorem direct_one (e : Rc.E) (one : Bool) : direct (wo one).toNat 1 e = Rc.half e one := by cases one <;> rfl

theorem lays_bit (B a s : Nat) (v u : Value) (e : Rc.E) (xs : List Int) (j : Nat) (one : Bool) (w : World) (h : Es w B a s v u e xs) (hj : j < 4) (hk : e.k + 1 ≤ 140737488355328) (hB : B ≤ w.heap.size) :
    Calls Try.prog 13 #[.pointer (some ⟨a, 0, none⟩), .pointer (some ⟨s, 0, none⟩), .int .i64 (j : Int), .bool one] w fun x w' => x = .returned (.bool true) ∧ ∃ v', Es w' B a s v' u (layE e xs j one) (layX xs j one) ∧ Chg (Fe a v u) w w' ∧ Moved w v v' := by
  have hjx : j < xs.length := by rw [h.len]; exact hj
  have hd : decide ((j : Int) = 4) = false := by simp; omega
  have e1 : layE e xs j one = coded e xs[j] (wo one) := by unfold layE; rw [dif_pos hjx]
  have e2 : layX xs j one = xs.set j (Prob.nx xs[j] (wo one)) := by unfold layX; rw [dif_pos hjx]
  have HH : Hid (Es w B a s v u e xs) := h
  have HX : Hid (j < xs.length) := hjx
  clear h
  go_enter Try.func13, Try.ntmps13
  go_wp2_with fail
  refine (worth_any one _).mono ?_
  rintro x w1 ⟨rfl, rfl⟩
  generalize hb : wo one = b at *
  go_wp2_with fail
  refine (bit_in B B a s u v xs j b e _ HH.out.st HH.out.inn HX.out HH.out.en HH.out.ok hk hB).mono ?_
  rintro x w2 ⟨rfl, v', hE, hS, hC, hM⟩
  have HE : Hid (Es w2 B a s v' u (layE e xs j one) (layX xs j one)) := ⟨by rw [e1]; exact hE, by rw [e2]; exact hS, layX_in HH.out.inn j one, by rw [layX_len]; exact HH.out.len, layE_ok HH.out.ok HH.out.inn j one⟩
  clear hE hS e1 e2 HH HX
  go_wp2
  go_ret
  exact ⟨rfl, v', HE.out, hC, hM⟩

theorem lays_half (B a s : Nat) (v u : Value) (e : Rc.E) (xs : List Int) (one : Bool) (w : World) (h : Es w B a s v u e xs) (hk : e.k + 2 ≤ 140737488355328) (hB : B ≤ w.heap.size) :
    Calls Try.prog 13 #[.pointer (some ⟨a, 0, none⟩), .pointer (some ⟨s, 0, none⟩), .int .i64 4, .bool one] w fun x w' => x = .returned (.bool true) ∧ ∃ v', Es w' B a s v' u (layE e xs 4 one) (layX xs 4 one) ∧ Chg (Fe a v u) w w' ∧ Moved w v v' := by
  have hjx : ¬ 4 < xs.length := by rw [h.len]; omega
  have e1 : layE e xs 4 one = Rc.half e one := by unfold layE; rw [dif_neg hjx]
  have e2 : layX xs 4 one = xs := by unfold layX; rw [dif_neg hjx]
  have HH : Hid (Es w B a s v u e xs) := h
  have hw : ((((wo one).toNat : Nat)) : Int) = wo one := by cases one <;> rfl
  have hw1 : 0 ≤ wo one ∧ wo one ≤ 1 := by cases one <;> decide
  have hk1 : (direct (wo one).toNat 1 e).k + 1 ≤ 140737488355328 := by rw [direct_one]; have := half_k_le e one; omega
  have HD := direct_in B a v e (wo one).toNat 1 w h.en h.ok (by omega) (by omega) hk1 hB
  rw [direct_one, hw] at HD
  have HD2 : Hid (∀ w2, w2 = w → Calls Try.prog 9 #[.pointer (some ⟨a, 0, none⟩), .int .u32 (wo one), .int .i64 1] w2 fun y w' => y = .returned (.int .i64 0) ∧ ∃ v', Enc w' B a v' (Rc.half e one) ∧ Chg (Foot a v) w w' ∧ Moved w v v') := fun w2 e2 => by subst e2; exact HD
  clear h HD hk1 hw hjx
  obtain ⟨hw1, hw2⟩ := hw1
  go_enter Try.func13, Try.ntmps13
  go_wp2_with fail
  refine (worth_any one _).mono ?_
  rintro x w1 ⟨rfl, rfl⟩
  generalize wo one = b at *
  have hwr : IntKind.u32.wrap b = b := by simp [IntKind.wrap, IntKind.signed, IntKind.bits]; omega
  go_wp2_with fail
  refine (HD2.out _ rfl).mono ?_
  rintro x w2 ⟨rfl, v', hE, hC, hM⟩
  have HE : Hid (Es w2 B a s v' u (layE e xs 4 one) (layX xs 4 one)) := by
    show Es _ _ _ _ _ _ _ _
    rw [e1, e2]
    refine ⟨hE, HH.out.st.keep hC (fun f => ?_) (fun g e f => ?_), HH.out.inn, HH.out.len, Rc.half_ok HH.out.ok one⟩
    · obtain ⟨l, hl, _⟩ := HH.out.en
      rcases f with f | f
      · have h1 := HH.out.st.blk
        rw [f] at h1
        exact ty_ne hl.blk h1 (by decide)
      · obtain ⟨cur, hcur⟩ := owns_blk hl.own f
        exact ty_ne hcur HH.out.st.blk (by decide)
    · obtain ⟨l, hl, _⟩ := HH.out.en
      obtain ⟨cur, hcur⟩ := owns_blk HH.out.st.own e
      rcases f with f | f
      · rw [f] at hcur
        exact ty_ne hl.blk hcur (by decide)
      · obtain ⟨cur2, hcur2⟩ := owns_blk hl.own f
        exact ty_ne hcur2 hcur (by decide)
  have HC : Hid (Chg (Fe a v u) w w2) := hC.mono (fun _ e => .inl (.inl e))
  clear hE hC e1 e2 HH HD2
  go_wp2
  go_ret
  exact ⟨rfl, v', HE.out, HC.out, hM⟩

theorem lays_any (B a s : Nat) (v u : Value) (e : Rc.E) (xs : List Int) (j : Nat) (one : Bool) (w : World) (h : Es w B a s v u e xs) (hj : j ≤ 4) (hk : e.k + 2 ≤ 140737488355328) (hB : B ≤ w.heap.size) :
    Calls Try.prog 13 #[.pointer (some ⟨a, 0, none⟩), .pointer (some ⟨s, 0, none⟩), .int .i64 (j : Int), .bool one] w fun x w' => x = .returned (.bool true) ∧ ∃ v', Es w' B a s v' u (layE e xs j one) (layX xs j one) ∧ Chg (Fe a v u) w w' ∧ Moved w v v' := by
  by_cases h4 : j < 4
  · exact lays_bit B a s v u e xs j one w h h4 (by omega) hB
  · obtain rfl : j = 4 := by omega
    exact lays_half B a s v u e xs one w h hk hB

def e0 : Rc.E := coded Rc.start 1024 1
def x0 : List Int := [Prob.nx 1024 1, 1024, 1024, 1024]
theorem in_x0 : In31 x0 := (In31.half 4).set 0 _ (Prob.nx_lo (by omega) (by omega))
theorem sb_start : sb Rc.start = ⟨#[0, 0, 0, 0, 0]⟩ := by decide +kernel
theorem sb_e0 : sb e0 = ⟨#[0, 127, 255, 252, 0]⟩ := by decide +kernel
theorem ptr_ne (t : TypeId) (x : Addr) (w : World) (ht : t = 24 ∨ t = 34) : (binOp .eql t (.pointer (some x)) (.pointer none)).run Try.prog w = .ok (.bool false) w := by
  rcases ht with rfl | rfl <;> kernel_rfl

set_option maxHeartbeats 2000000 in
set_option maxRecDepth 100000 in
theorem begun_any (w : World) : Calls Try.prog 12 #[] w fun x w' => ∃ a s v u, x = .returned (.tuple #[.pointer (some ⟨a, 0, none⟩), .pointer (some ⟨s, 0, none⟩)]) ∧ Es w' w.heap.size a s v u e0 x0 ∧ Chg (fun _ => False) w w' := by
  go_enter Try.func12, Try.ntmps12
  go_wp2_with fail
  refine (rcnew_any _).mono ?_
  rintro x w1 ⟨a, rfl, ha, hE1, c1⟩
  have HE1 : Hid (Enc w1 w.heap.size a (.slice none 0 0) Rc.start) := ⟨_, hE1, Rc.begin_is⟩
  have HC1 : Hid (Chg (fun _ => False) w w1) := c1
  clear hE1 c1
  go_wp2_with fail
  refine (new_in 4 _ (by omega)).mono ?_
  rintro x w2 ⟨s, u, rfl, hs, hS2, c2⟩
  have HE2 : Hid (Enc w2 w.heap.size a (.slice none 0 0) Rc.start) := by obtain ⟨l, h1, h2⟩ := HE1.out; exact ⟨l, h1.new c2, h2⟩
  have HS2 : Hid (St w2 w.heap.size s u (List.replicate 4 1024)) := ⟨Nat.le_trans HC1.out.size hs, hS2.blk, owns_base hS2.own HC1.out.size⟩
  have HC2 : Hid (Chg (fun _ => False) w w2) := chg_then HC1.out c2
  clear hS2 c2 HE1 HC1
  go_wp2_with fail
  refine (efork_any _ a _ Rc.start _ HE2.out (by show 0 ≤ _; omega)).mono ?_
  rintro x w3 ⟨a3, v3, rfl, _, _, c3⟩
  have HE3 : Hid (Enc w3 w.heap.size a (.slice none 0 0) Rc.start) := by obtain ⟨l, h1, h2⟩ := HE2.out; exact ⟨l, h1.new c3, h2⟩
  have HS3 : Hid (St w3 w.heap.size s u (List.replicate 4 1024)) := HS2.out.new c3
  have HC3 : Hid (Chg (fun _ => False) w w3) := chg_then HC2.out c3
  clear c3 HE2 HC2 HS2
  go_wp2_with fail
  refine (bytes_any _ a _ Rc.start _ HE3.out (by show 0 + 5 ≤ _; omega)).mono ?_
  rintro x w4 ⟨v4, rfl, ho4, c4⟩
  obtain ⟨ad4, cap4, rfl, _⟩ := own_any ho4
  have hcv : (convert 29 9 (.slice ad4 (Rc.start.k + 5) cap4)).run Try.prog w4 = .ok (.string ⟨#[0, 0, 0, 0, 0]⟩) w4 := by rw [conv_own ho4]; exact congrArg (fun z => Result.ok (Value.string z) w4) sb_start
  have HE4 : Hid (Enc w4 w.heap.size a (.slice none 0 0) Rc.start) := by obtain ⟨l, h1, h2⟩ := HE3.out; exact ⟨l, h1.new c4, h2⟩
  have HS4 : Hid (St w4 w.heap.size s u (List.replicate 4 1024)) := HS3.out.new c4
  have HC4 : Hid (Chg (fun _ => False) w w4) := chg_then HC3.out c4
  clear c4 HE3 HC3 HS3 ho4
  go_wp2_with fail
  refine (bit_in _ _ a s u _ _ 0 1 Rc.start _ HS4.out (In31.half 4) (by decide) HE4.out Rc.start_ok (by show 0 + 1 ≤ _; omega) HC4.out.size).mono ?_
  rintro x w5 ⟨rfl, v5, hE5, hS5, c5, m5⟩
  have HS5 : Hid (Es w5 w.heap.size a s v5 u e0 x0) := ⟨hE5, hS5, in_x0, rfl, coded_ok Rc.start_ok (by omega) (by omega)⟩
  have HC5 : Hid (Chg (fun _ => False) w w5) := HC4.out.trans c5 (fun z f => .inr (by
    obtain ⟨l, h1, _⟩ := HE4.out
    rcases f with f | f
    · rcases f with f | f
      · rw [f]; exact h1.hr
      · exact (h1.own.lt z f).1
    · exact (HS4.out.own.lt z f).1))
  clear hE5 hS5 c5 m5 HE4 HS4 HC4 hcv
  go_wp2_with fail
  refine (bytes_any _ a _ e0 _ HS5.out.en (by decide +kernel)).mono ?_
  rintro x w6 ⟨v6, rfl, ho6, c6⟩
  obtain ⟨ad6, cap6, rfl, _⟩ := own_any ho6
  have hcv : (convert 29 9 (.slice ad6 (e0.k + 5) cap6)).run Try.prog w6 = .ok (.string ⟨#[0, 127, 255, 252, 0]⟩) w6 := by rw [conv_own ho6]; exact congrArg (fun z => Result.ok (Value.string z) w6) sb_e0
  have HS6 : Hid (Es w6 w.heap.size a s v5 u e0 x0) := HS5.out.new c6
  have HC6 : Hid (Chg (fun _ => False) w w6) := chg_then HC5.out c6
  clear c6 HS5 HC5 ho6
  generalize e0.k + 5 = q at *
  go_wp2
  go_ret2
  exact ⟨a, s, v5, u, rfl, HS6.out, HC6.out⟩
end Go.Proofs.Ythhjllhcgdkjnaa
