/- The contracts of the program's PutBack and CostBack; all that is asked of its trees by an encoder's side, together; of no statement by themselves. -/
import Derived.Test.YtibgjpifmpljkaaPe
namespace Go.Proofs.Ytibgjpifmpljkaa
open Go.RowKit
set_option linter.unusedVariables false

set_option maxHeartbeats 4000000 in
set_option maxRecDepth 100000 in
theorem pputb_any (B B' a s : Nat) (v us : Value) (e : Rc.E) (xs : List Int) (p n x : Int) (w0 : World) (h : Enc w0 B a v e) (hO : Rc.Ok e) (hk : e.k + 17 ≤ 70368744177664) (hB : B ≤ w0.heap.size) (hS : St w0 B' s us xs) (hI : In31 xs) (hlen : xs.length ≤ 1048576) (hp : I64 p) (hn : I64 n) (hx : I64 x) : Calls Try.prog 13 #[.pointer (some ⟨a, 0, none⟩), .pointer (some ⟨s, 0, none⟩), .int .i64 p, .int .i64 n, .int .i64 x] w0 fun z w' =>
    (¬ Fits xs.length p n x ∧ z = .returned (.int .i64 7) ∧ Chg (fun _ => False) w0 w')
    ∨ (Fits xs.length p n x ∧ z = .returned (.int .i64 0) ∧ ∃ v', Enc w' B a v' (encL (numQ true p n x) e xs).1 ∧ St w' B' s us (encL (numQ true p n x) e xs).2 ∧ Chg (Fp a v us) w0 w' ∧ Moved w0 v v') := by
  have HFIT : Hid _ := pfits_any B' s p n x us xs _ hS hlen hp hn hx
  by_cases hf : Fits xs.length p n x
  rotate_left
  · rw [decide_eq_false hf] at HFIT
    have HF : Hid (¬ Fits xs.length p n x) := hf
    clear hf h hO hk hB hS hI
    go_enter Try.func13, Try.ntmps13
    go_wp2_with fail
    refine Calls.mono HFIT.out ?_
    rintro z w1 ⟨rfl, c1⟩
    have HC : Hid (Chg (fun _ => False) w0 w1) := c1
    clear c1 HFIT
    go_wp2
    go_ret
    exact .inl ⟨HF.out, rfl, HC.out⟩
  rw [decide_eq_true hf] at HFIT
  have HF : Hid (Fits xs.length p n x) := hf
  obtain ⟨f1, f2, f3⟩ := fits_bits hf
  obtain ⟨P, hP⟩ : ∃ P : Nat, (P : Int) = p := ⟨p.toNat, by have := hf.1.2.2.1; omega⟩
  obtain ⟨N, hN⟩ : ∃ N : Nat, (N : Int) = n := ⟨n.toNat, by have := hf.1.1; omega⟩
  obtain ⟨X, hX⟩ : ∃ X : Nat, (X : Int) = x := ⟨x.toNat, by have := hf.2.1; omega⟩
  subst hP hN hX
  simp only [Int.toNat_natCast] at f1 f2 f3
  obtain ⟨Z, hZ⟩ : ∃ Z, Z = turnedN N X := ⟨_, rfl⟩
  have hZlt : Z < 2 ^ N := by rw [hZ]; exact turned_lt N X
  have hZ16 : Z < 65536 := Nat.lt_of_lt_of_le hZlt (pow16 f2)
  have hFZ : Fits xs.length (P : Int) (N : Int) (Z : Int) := ⟨hf.1, by omega, by
    rw [Int.toNat_natCast, show (2 : Int) ^ N = ((2 ^ N : Nat) : Int) by simp]
    omega⟩
  have hq : numQ false (P : Int) (N : Int) (Z : Int) = numQ true (P : Int) (N : Int) (X : Int) := by
    unfold numQ
    simp only [Int.toNat_natCast]
    rw [hZ, turned_bits]
  have HT : Hid (∀ w, Calls Try.prog 41 #[.int .i64 (N : Int), .int .i64 (X : Int)] w fun e w' => e = .returned (.int .i64 (Z : Int)) ∧ Chg (fun _ => False) w w') := pturned_any N X Z f2 f3 hZ
  have HPUT : Hid (∀ w, Chg (fun _ => False) w0 w → Calls Try.prog 14 #[.pointer (some ⟨a, 0, none⟩), .pointer (some ⟨s, 0, none⟩), .int .i64 (P : Int), .int .i64 (N : Int), .int .i64 (Z : Int)] w fun z w' => z = .returned (.int .i64 0) ∧ ∃ v', Enc w' B a v' (encL (numQ true (P : Int) (N : Int) (X : Int)) e xs).1 ∧ St w' B' s us (encL (numQ true (P : Int) (N : Int) (X : Int)) e xs).2 ∧ Chg (Fp a v us) w0 w' ∧ Moved w0 v v') := fun w c => by
    refine (pput_any B B' a s v us e xs P N Z w (h.new c) hO hk (Nat.le_trans hB c.size) (hS.new c) hI hlen hp hn (show I64 _ from ⟨by omega, by omega⟩)).mono ?_
    rintro z w' (⟨hh, _⟩ | ⟨_, h1, v', h2, h3, h4, h5⟩)
    · exact absurd hFZ hh
    · rw [hq] at h2 h3
      exact ⟨h1, v', h2, h3, (c.mono (fun _ f => f.elim)).trans h4 (fun _ f => .inl f), moved_from c.size h5⟩
  clear hf h hO hk hB hS hI f1 f2 f3 hFZ hq hZ hZlt
  go_enter Try.func13, Try.ntmps13
  go_wp2_with fail
  refine Calls.mono HFIT.out ?_
  rintro z w1 ⟨rfl, c1⟩
  have HC1 : Hid (Chg (fun _ => False) w0 w1) := c1
  clear c1 HFIT
  go_wp2_with fail
  refine (HT.out _).mono ?_
  rintro z w2 ⟨rfl, c2⟩
  have HC2 : Hid (Chg (fun _ => False) w0 w2) := chg_then HC1.out c2
  clear c2 HC1
  go_wp2_with fail
  refine (HPUT.out _ HC2.out).mono ?_
  rintro z w3 ⟨rfl, h3⟩
  have HR : Hid _ := h3
  clear h3 HPUT HC2
  go_wp2
  go_ret
  exact .inr ⟨HF.out, rfl, HR.out⟩

set_option maxHeartbeats 4000000 in
set_option maxRecDepth 100000 in
theorem pcostb_any (B' s : Nat) (us : Value) (xs : List Int) (p n x : Int) (w0 : World) (hS : St w0 B' s us xs) (hI : In31 xs) (hlen : xs.length ≤ 1048576) (hp : I64 p) (hn : I64 n) (hx : I64 x) : Calls Try.prog 12 #[.pointer (some ⟨s, 0, none⟩), .int .i64 p, .int .i64 n, .int .i64 x] w0 fun z w' =>
    (¬ Fits xs.length p n x ∧ z = .returned (.tuple #[.int .i64 0, .int .i64 7]) ∧ Chg (fun _ => False) w0 w')
    ∨ (Fits xs.length p n x ∧ z = .returned (.tuple #[.int .i64 (costW xs p.toNat 1 (bitsOf true n.toNat x.toNat)), .int .i64 0]) ∧ Chg (fun _ => False) w0 w') := by
  have HFIT : Hid _ := pfits_any B' s p n x us xs _ hS hlen hp hn hx
  by_cases hf : Fits xs.length p n x
  rotate_left
  · rw [decide_eq_false hf] at HFIT
    have HF : Hid (¬ Fits xs.length p n x) := hf
    clear hf hS hI
    go_enter Try.func12, Try.ntmps12
    go_wp2_with fail
    refine Calls.mono HFIT.out ?_
    rintro z w1 ⟨rfl, c1⟩
    have HC : Hid (Chg (fun _ => False) w0 w1) := c1
    clear c1 HFIT
    go_wp2
    go_ret2
    exact .inl ⟨HF.out, rfl, HC.out⟩
  rw [decide_eq_true hf] at HFIT
  have HF : Hid (Fits xs.length p n x) := hf
  obtain ⟨f1, f2, f3⟩ := fits_bits hf
  obtain ⟨P, hP⟩ : ∃ P : Nat, (P : Int) = p := ⟨p.toNat, by have := hf.1.2.2.1; omega⟩
  obtain ⟨N, hN⟩ : ∃ N : Nat, (N : Int) = n := ⟨n.toNat, by have := hf.1.1; omega⟩
  obtain ⟨X, hX⟩ : ∃ X : Nat, (X : Int) = x := ⟨x.toNat, by have := hf.2.1; omega⟩
  subst hP hN hX
  simp only [Int.toNat_natCast] at f1 f2 f3 ⊢
  obtain ⟨Z, hZ⟩ : ∃ Z, Z = turnedN N X := ⟨_, rfl⟩
  have hZlt : Z < 2 ^ N := by rw [hZ]; exact turned_lt N X
  have hZ16 : Z < 65536 := Nat.lt_of_lt_of_le hZlt (pow16 f2)
  have hFZ : Fits xs.length (P : Int) (N : Int) (Z : Int) := ⟨hf.1, by omega, by
    rw [Int.toNat_natCast, show (2 : Int) ^ N = ((2 ^ N : Nat) : Int) by simp]
    omega⟩
  obtain ⟨cc, hcc⟩ : ∃ cc, cc = costW xs P 1 (bitsOf true N X) := ⟨_, rfl⟩
  have HCC : Hid (cc = costW xs P 1 (bitsOf true N X)) := hcc
  have HT : Hid (∀ w, Calls Try.prog 41 #[.int .i64 (N : Int), .int .i64 (X : Int)] w fun e w' => e = .returned (.int .i64 (Z : Int)) ∧ Chg (fun _ => False) w w') := pturned_any N X Z f2 f3 hZ
  have HCO : Hid (∀ w, Chg (fun _ => False) w0 w → Calls Try.prog 11 #[.pointer (some ⟨s, 0, none⟩), .int .i64 (P : Int), .int .i64 (N : Int), .int .i64 (Z : Int)] w fun z w' => z = .returned (.tuple #[.int .i64 cc, .int .i64 0]) ∧ Chg (fun _ => False) w0 w') := fun w c => by
    refine (pcost_any B' s us xs P N Z w (hS.new c) hI hlen hp hn (show I64 _ from ⟨by omega, by omega⟩)).mono ?_
    rintro z w' (⟨hh, _⟩ | ⟨_, h1, h2⟩)
    · exact absurd hFZ hh
    · simp only [Int.toNat_natCast] at h1
      rw [hZ, turned_bits, ← hcc] at h1
      exact ⟨h1, chg_then c h2⟩
  clear hf hS hI f1 f2 f3 hFZ hZ hZlt hcc
  go_enter Try.func12, Try.ntmps12
  go_wp2_with fail
  refine Calls.mono HFIT.out ?_
  rintro z w1 ⟨rfl, c1⟩
  have HC1 : Hid (Chg (fun _ => False) w0 w1) := c1
  clear c1 HFIT
  go_wp2_with fail
  refine (HT.out _).mono ?_
  rintro z w2 ⟨rfl, c2⟩
  have HC2 : Hid (Chg (fun _ => False) w0 w2) := chg_then HC1.out c2
  clear c2 HC1
  go_wp2_with fail
  refine (HCO.out _ HC2.out).mono ?_
  rintro z w3 ⟨rfl, h3⟩
  have HR : Hid (Chg (fun _ => False) w0 w3) := h3
  clear h3 HCO HC2
  go_wp2
  go_ret2
  exact .inr ⟨HF.out, by rw [← HCC.out]; rfl, HR.out⟩

/-- All that is asked of the program's trees by an encoder's side. -/
theorem tree_put : TreePut where
  put := fun back B B' a s v us e xs p n x w h hO hk hB hS hI hl hp hn hx => by
    cases back
    · exact pput_any B B' a s v us e xs p n x w h hO hk hB hS hI hl hp hn hx
    · exact pputb_any B B' a s v us e xs p n x w h hO hk hB hS hI hl hp hn hx
  cost := fun back B' s us xs p n x w hS hI hl hp hn hx => by
    cases back
    · exact pcost_any B' s us xs p n x w hS hI hl hp hn hx
    · exact pcostb_any B' s us xs p n x w hS hI hl hp hn hx
end Go.Proofs.Ytibgjpifmpljkaa
