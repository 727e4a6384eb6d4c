/- What is asked of the program's trees ('TreeSpec'), and the contract of the law's fixed above it; of no statement by themselves. -/
import Derived.Test.YtibgjpifmpljkaaBoundH
import Derived.Test.YtibgjpifmpljkaaBoundI
import Derived.Test.YtibgjpifmpljkaaBoundC
namespace Go.Proofs.Ytibgjpifmpljkaa
open Go.RowKit
set_option linter.unusedVariables false

def putF : Bool → FuncId
  | true => 13
  | false => 14
def getF : Bool → FuncId
  | true => 53
  | false => 52
def costF : Bool → FuncId
  | true => 12
  | false => 11
/-- The way of a number. -/
def numQ (back : Bool) (p n x : Int) : List Q := wayQ p.toNat 1 (bitsOf back n.toNat x.toNat)
def Fp (a : Nat) (v us : Value) (z : Nat) : Prop := Foot a v z ∨ us.ownBlock = some z
structure TreePut : Prop where
  put : ∀ (back : Bool) (B B' a s : Nat) (v us : Value) (e : Rc.E) (xs : List Int) (p n x : Int) (w : World), Enc w B a v e → Rc.Ok e → e.k + 17 ≤ 70368744177664 → B ≤ w.heap.size → St w B' s us xs → In31 xs → xs.length ≤ 1048576 → I64 p → I64 n → I64 x → Calls Try.prog (putF back) #[.pointer (some ⟨a, 0, none⟩), .pointer (some ⟨s, 0, none⟩), .int .i64 p, .int .i64 n, .int .i64 x] w fun z w' =>
    (¬ Fits xs.length p n x ∧ z = .returned (.int .i64 7) ∧ Chg (fun _ => False) w w')
    ∨ (Fits xs.length p n x ∧ z = .returned (.int .i64 0) ∧ ∃ v', Enc w' B a v' (encL (numQ back p n x) e xs).1 ∧ St w' B' s us (encL (numQ back p n x) e xs).2 ∧ Chg (Fp a v us) w w' ∧ Moved w v v')
  cost : ∀ (back : Bool) (B' s : Nat) (us : Value) (xs : List Int) (p n x : Int) (w : World), St w B' s us xs → In31 xs → xs.length ≤ 1048576 → I64 p → I64 n → I64 x → Calls Try.prog (costF back) #[.pointer (some ⟨s, 0, none⟩), .int .i64 p, .int .i64 n, .int .i64 x] w fun z w' =>
    (¬ Fits xs.length p n x ∧ z = .returned (.tuple #[.int .i64 0, .int .i64 7]) ∧ Chg (fun _ => False) w w')
    ∨ (Fits xs.length p n x ∧ z = .returned (.tuple #[.int .i64 (costW xs p.toNat 1 (bitsOf back n.toNat x.toNat)), .int .i64 0]) ∧ Chg (fun _ => False) w w')
structure TreeGet (Dec : World → Nat → Nat → Value → List Nat → Rc.D → Prop) : Prop where
  get : ∀ (back : Bool) (B B' a s : Nat) (v us : Value) (bs : List Nat) (d : Rc.D) (xs : List Int) (p n : Int) (w : World), Dec w B a v bs d → OkD bs d → Rc.Dig bs → bs.length ≤ 140737488355328 → B ≤ w.heap.size → St w B' s us xs → In31 xs → xs.length ≤ 1048576 → I64 p → I64 n → Calls Try.prog (getF back) #[.pointer (some ⟨a, 0, none⟩), .pointer (some ⟨s, 0, none⟩), .int .i64 p, .int .i64 n] w fun z w' =>
    (¬ Stands xs.length p n ∧ z = .returned (.tuple #[.int .i64 0, .int .i64 7]) ∧ Chg (fun _ => False) w w')
    ∨ (Stands xs.length p n ∧ ∃ l d' xs' e, getW bs p.toNat n.toNat 1 d xs = (l, d', xs', e) ∧ Dec w' B a v bs d' ∧ St w' B' s us xs' ∧ Chg (Fd a us) w w' ∧ ((0 < e ∧ z = .returned (.tuple #[.int .i64 0, .int .i64 (e : Int)])) ∨ (e = 0 ∧ z = .returned (.tuple #[.int .i64 ((numO back l : Nat) : Int), .int .i64 0]))))

theorem fixed_row : (encL (numQ false 0 3 5) Rc.start (List.replicate 8 1024)).2 = [1024, 992, 1024, 1056, 1024, 1024, 992, 1024] := by decide +kernel
theorem fixed_cost : costW (List.replicate 8 1024) (0 : Int).toNat 1 (bitsOf false (3 : Int).toNat (5 : Int).toNat) = 50 := by decide +kernel
theorem fixed_fits : Fits (List.replicate 8 (1024 : Int)).length 0 3 5 := by decide
set_option maxHeartbeats 4000000 in
set_option maxRecDepth 100000 in
theorem fixed_any (T : TreePut) (w0 : World) : Calls Try.prog 8 #[] w0 fun x w' => x = .returned (.bool true) ∧ Chg (fun _ => False) w0 w' := by
  go_enter Try.func8, Try.ntmps8
  go_wp2_with fail
  refine (new_in 8 _ (by omega)).mono ?_
  rintro z w1 ⟨s, us, rfl, hs, hS1, c1⟩
  have HS1 : Hid (St w1 w0.heap.size s us (List.replicate 8 1024)) := hS1
  have HC1 : Hid (Chg (fun _ => False) w0 w1) := c1
  clear hs hS1 c1
  go_wp2_with fail
  refine (rcnew_any _).mono ?_
  rintro z w2 ⟨a, rfl, ha, hE2, c2⟩
  have HE2 : Hid (Enc w2 w1.heap.size a (.slice none 0 0) Rc.start) := ⟨_, hE2, Rc.begin_is⟩
  have HS2 : Hid (St w2 w0.heap.size s us (List.replicate 8 1024)) := HS1.out.new c2
  have HC2 : Hid (Chg (fun _ => False) w0 w2) := chg_then HC1.out c2
  have HZ : Hid (w0.heap.size ≤ w1.heap.size ∧ w1.heap.size ≤ w2.heap.size) := ⟨HC1.out.size, c2.size⟩
  clear ha hE2 c2 HS1 HC1
  go_wp2_with fail
  refine (T.cost false w0.heap.size s us (List.replicate 8 1024) 0 3 5 _ HS2.out (In31.half 8) (by decide) ⟨by omega, by omega⟩ ⟨by omega, by omega⟩ ⟨by omega, by omega⟩).mono ?_
  rintro z w3 (⟨h1, _⟩ | ⟨_, rfl, c3⟩)
  · exact absurd fixed_fits h1
  rw [fixed_cost]
  have HE3 : Hid (Enc w3 w1.heap.size a (.slice none 0 0) Rc.start) := HE2.out.new c3
  have HS3 : Hid (St w3 w0.heap.size s us (List.replicate 8 1024)) := HS2.out.new c3
  have HC3 : Hid (Chg (fun _ => False) w0 w3) := chg_then HC2.out c3
  have HZ3 : Hid (w1.heap.size ≤ w3.heap.size) := Nat.le_trans HZ.out.2 c3.size
  clear c3 HE2 HS2 HC2
  go_wp2_with fail
  refine (T.put false w1.heap.size w0.heap.size a s (.slice none 0 0) us Rc.start (List.replicate 8 1024) 0 3 5 _ HE3.out Rc.start_ok (by decide) HZ3.out HS3.out (In31.half 8) (by decide) ⟨by omega, by omega⟩ ⟨by omega, by omega⟩ ⟨by omega, by omega⟩).mono ?_
  rintro z w4 (⟨h1, _⟩ | ⟨_, rfl, v', hE4, hS4, c4, _⟩)
  · exact absurd fixed_fits h1
  rw [fixed_row] at hS4
  have HS4 : Hid (St w4 w0.heap.size s us [1024, 992, 1024, 1056, 1024, 1024, 992, 1024]) := hS4
  have HC4 : Hid (Chg (fun _ => False) w0 w4) := HC3.out.trans c4 (fun z f => .inr (by
    rcases f with f | f
    · have := (HE3.out.foot_lt f).1
      have := HZ.out.1
      omega
    · exact (HS3.out.own.lt z f).1))
  clear hE4 hS4 c4 HE3 HS3 HC3
  go_wp2_with fail
  have hat := at_in w0.heap.size s us _ 6 _ HS4.out (fun q hq => by simp at hq; omega) (by decide)
  refine (show Calls Try.prog 19 #[.pointer (some ⟨s, 0, none⟩), .int .i64 6] w4 fun e w' => e = .returned (.tuple #[.int .i64 992, .int .i64 0]) ∧ w4 = w' from hat).mono ?_
  rintro z w5 ⟨rfl, rfl⟩
  clear hat
  go_wp2
  go_ret
  exact ⟨rfl, HC4.out⟩
end Go.Proofs.Ytibgjpifmpljkaa
