/- What is asked of the program's windows ('WinSpec'), and the contract of the law's made above it; of no statement by themselves. -/
import Derived.Test.YthgibmhbgfjkcaaWt
namespace Go.Proofs.Ythgibmhbgfjkcaa
open Go.RowKit
set_option linter.unusedVariables false

structure WinSpec (Win : World → Nat → Nat → Value → Nat → List Nat → Prop) : Prop where
  lt : ∀ {w B a v n bs}, Win w B a v n bs → ∀ z, Foot a v z → B ≤ z ∧ z < w.heap.size
  blk : ∀ {w B a v n bs}, Win w B a v n bs → ∃ cs, w.heap[a]? = some (.cells cs 61 (0, 0))
  ring : ∀ {w B a v n bs}, Win w B a v n bs → ∀ g, v.ownBlock = some g → ∃ cs, w.heap[g]? = some (.cells cs 5 (0, 0))
  keep : ∀ {w w' B a v n bs} {S : Nat → Prop}, Win w B a v n bs → Chg S w w' → (∀ z, Foot a v z → ¬ S z) → Win w' B a v n bs
  down : ∀ {w B B' a v n bs}, Win w B a v n bs → B' ≤ B → Win w B' a v n bs
  nn : ∀ {w B a v n bs}, Win w B a v n bs → 1 ≤ n ∧ n ≤ 4294967295 ∧ Rc.Dig bs
  newOut : ∀ (n : Int) (w : World), n < 1 ∨ 4294967295 < n → Calls Try.prog 17 #[.int .i64 n] w fun e w' => e = .returned (.tuple #[.pointer none, .int .i64 7]) ∧ Chg (fun _ => False) w w'
  newIn : ∀ (n : Nat) (w : World), 1 ≤ n → n ≤ 4294967295 → Calls Try.prog 17 #[.int .i64 (n : Int)] w fun e w' => ∃ a v, e = .returned (.tuple #[.pointer (some ⟨a, 0, none⟩), .int .i64 0]) ∧ Win w' w.heap.size a v n [] ∧ Chg (fun _ => False) w w'
  size : ∀ (B a : Nat) (v : Value) (n : Nat) (bs : List Nat) (w : World), Win w B a v n bs → Calls Try.prog 12 #[.pointer (some ⟨a, 0, none⟩)] w fun e w' => e = .returned (.int .i64 (n : Int)) ∧ ∃ k, w' = w.drewN k
  full : ∀ (B a : Nat) (v : Value) (n : Nat) (bs : List Nat) (w : World), Win w B a v n bs → Calls Try.prog 11 #[.pointer (some ⟨a, 0, none⟩)] w fun e w' => e = .returned (.int .i64 ((fullN n bs : Nat) : Int)) ∧ ∃ k, w' = w.drewN k
  pos : ∀ (B a : Nat) (v : Value) (n : Nat) (bs : List Nat) (w : World), Win w B a v n bs → Calls Try.prog 13 #[.pointer (some ⟨a, 0, none⟩)] w fun e w' => e = .returned (.int .i64 (bs.length : Int)) ∧ ∃ k, w' = w.drewN k
  last : ∀ (B a : Nat) (v : Value) (n : Nat) (bs : List Nat) (d : Int) (w : World), Win w B a v n bs → bs.length ≤ 1152921504606846976 → I64 d → Calls Try.prog 14 #[.pointer (some ⟨a, 0, none⟩), .int .i64 d] w fun e w' => ((¬ Inw n bs d ∧ e = .returned (.tuple #[.int .u8 0, .int .i64 7])) ∨ (Inw n bs d ∧ e = .returned (.tuple #[.int .u8 ((backB bs d.toNat : Nat) : Int), .int .i64 0]))) ∧ Chg (fun _ => False) w w'
  put : ∀ (B a : Nat) (v : Value) (n : Nat) (bs : List Nat) (ad : Option Addr) (m c : Nat) (xs : List Nat) (w : World), Win w B a v n bs → B ≤ w.heap.size → Row8 w ad m c (nums xs) → Rc.Dig xs → (∀ x, ad = some x → ¬ Foot a v x.block) → m ≤ c → m ≤ 140737488355328 → bs.length + m ≤ 1152921504606846976 → Calls Try.prog 10 #[.pointer (some ⟨a, 0, none⟩), .slice ad m c] w fun e w' => e = .returned (.tuple #[]) ∧ ∃ v', Win w' B a v' n (bs ++ xs) ∧ Chg (Foot a v) w w' ∧ Moved w v v'
  copy : ∀ (B a : Nat) (v : Value) (n : Nat) (bs : List Nat) (d m : Int) (w : World), Win w B a v n bs → B ≤ w.heap.size → I64 d → I64 m → bs.length + 273 ≤ 1152921504606846976 → Calls Try.prog 9 #[.pointer (some ⟨a, 0, none⟩), .int .i64 d, .int .i64 m] w fun e w' =>
    (¬ Cpy n bs d m ∧ e = .returned (.tuple #[.slice none 0 0, .int .i64 7]) ∧ Chg (fun _ => False) w w')
    ∨ (Cpy n bs d m ∧ ∃ ov v', e = .returned (.tuple #[ov, .int .i64 0]) ∧ Win w' B a v' n (bs ++ copyL d.toNat bs m.toNat) ∧ w'.ownsRow w.heap.size 5 1 ov m.toNat (ins .u8 (nums (copyL d.toNat bs m.toNat))) ∧ (∀ g, ov.ownBlock = some g → ¬ Foot a v' g) ∧ Chg (Foot a v) w w' ∧ Moved w v v')
  clear : ∀ (B a : Nat) (v : Value) (n : Nat) (bs : List Nat) (w : World), Win w B a v n bs → B ≤ w.heap.size → Calls Try.prog 16 #[.pointer (some ⟨a, 0, none⟩)] w fun e w' => e = .returned (.tuple #[]) ∧ ∃ v', Win w' B a v' n [] ∧ Chg (Foot a v) w w' ∧ Moved w v v'
  fork : ∀ (B a : Nat) (v : Value) (n : Nat) (bs : List Nat) (w : World), Win w B a v n bs → Calls Try.prog 15 #[.pointer (some ⟨a, 0, none⟩)] w fun e w' => ∃ a' v', e = .returned (.pointer (some ⟨a', 0, none⟩)) ∧ Win w' w.heap.size a' v' n bs ∧ Chg (fun _ => False) w w'

variable {Win : World → Nat → Nat → Value → Nat → List Nat → Prop}
theorem WinSpec.new (S : WinSpec Win) {w w' : World} {B a : Nat} {v : Value} {n : Nat} {bs : List Nat} (h : Win w B a v n bs) (hc : Chg (fun _ => False) w w') : Win w' B a v n bs := S.keep h hc (fun _ _ f => f)
/-- The size that is taken. -/
def szN (n : Int) : Nat := if n < 1 ∨ 2000 < n then 300 else n.toNat
theorem szN_in (n : Int) : 1 ≤ szN n ∧ szN n ≤ 2000 := by unfold szN; split <;> omega
theorem pW_ne (x : Addr) (w : World) : (binOp .eql 23 (.pointer (some x)) (.pointer none)).run Try.prog w = .ok (.bool false) w := by kernel_rfl
theorem sizeS (S : WinSpec Win) {B a : Nat} {v : Value} {n : Nat} {bs : List Nat} {w : World} (h : Win w B a v n bs) : Calls Try.prog 12 #[.pointer (some ⟨a, 0, none⟩)] w fun e w' => e = .returned (.int .i64 (n : Int)) ∧ Chg (fun _ => False) w w' := (S.size B a v n bs w h).mono fun e w' ⟨h1, k, h2⟩ => ⟨h1, by rw [h2]; exact chg_drewN _ _⟩
theorem fullS (S : WinSpec Win) {B a : Nat} {v : Value} {n : Nat} {bs : List Nat} {w : World} (h : Win w B a v n bs) : Calls Try.prog 11 #[.pointer (some ⟨a, 0, none⟩)] w fun e w' => e = .returned (.int .i64 ((fullN n bs : Nat) : Int)) ∧ Chg (fun _ => False) w w' := (S.full B a v n bs w h).mono fun e w' ⟨h1, k, h2⟩ => ⟨h1, by rw [h2]; exact chg_drewN _ _⟩
theorem posS (S : WinSpec Win) {B a : Nat} {v : Value} {n : Nat} {bs : List Nat} {w : World} (h : Win w B a v n bs) : Calls Try.prog 13 #[.pointer (some ⟨a, 0, none⟩)] w fun e w' => e = .returned (.int .i64 (bs.length : Int)) ∧ Chg (fun _ => False) w w' := (S.pos B a v n bs w h).mono fun e w' ⟨h1, k, h2⟩ => ⟨h1, by rw [h2]; exact chg_drewN _ _⟩
set_option maxHeartbeats 4000000 in
set_option maxRecDepth 100000 in
theorem made_any (S : WinSpec Win) (sz : Int) (n : Nat) (hsz : szN sz = n) (ad : Option Addr) (L c : Nat) (bs : List Nat) (w0 : World) (hr : Row8 w0 ad L c (nums bs)) (hdig : Rc.Dig bs) (hL : L ≤ 140737488355328) : Calls Try.prog 8 #[.int .i64 sz, .slice ad L c] w0 fun e w' => ∃ a v, e = .returned (.pointer (some ⟨a, 0, none⟩)) ∧ Win w' w0.heap.size a v n bs ∧ Chg (fun _ => False) w0 w' := by
  obtain ⟨iu, hiu, hu0, hu1, hu2⟩ := info_parts infoU8
  have hn1 : 1 ≤ n ∧ n ≤ 2000 := by rw [← hsz]; exact szN_in sz
  have HN : Hid (∀ w, Calls Try.prog 17 #[.int .i64 (n : Int)] w fun e w' => ∃ a v, e = .returned (.tuple #[.pointer (some ⟨a, 0, none⟩), .int .i64 0]) ∧ Win w' w.heap.size a v n [] ∧ Chg (fun _ => False) w w') := fun w => S.newIn n w hn1.1 (by omega)
  have HR0 : Hid (Row8 w0 ad L c (nums bs)) := hr
  have hone := one8 bs
  have hne := pW_ne
  have key : ∀ w1 a v, Win w1 w0.heap.size a v n [] → Chg (fun _ => False) w0 w1 → Win w1 w0.heap.size a v n [] := fun _ _ _ h _ => h
  clear hr key
  by_cases c0 : sz < 1 ∨ 2000 < sz
  · have hn3 : n = 300 := by unfold szN at hsz; rw [if_pos c0] at hsz; exact hsz.symm
    subst hn3
    clear hsz hn1
    by_cases c1 : sz < 1
    · have hd0 : decide (sz < 1) = true := by simp; omega
      go_enter Try.func8, Try.ntmps8
      go_wp2_with fail
      refine (HN.out _).mono ?_
      rintro z w1 ⟨a, v, rfl, hw1, c1⟩
      have HW1 : Hid (Win w1 w0.heap.size a v 300 []) := hw1
      have HC1 : Hid (Chg (fun _ => False) w0 w1) := c1
      clear hw1 c1
      go_wp2_with fail
      refine (sizeS S HW1.out).mono ?_
      rintro z w2 ⟨rfl, c2⟩
      have HW2 : Hid (Win w2 w0.heap.size a v 300 []) := S.new HW1.out c2
      have HC2 : Hid (Chg (fun _ => False) w0 w2) := chg_then HC1.out c2
      clear c2 HW1 HC1
      have cE := chg_one w2 (.cells #[] 5)
      have hoE := own_empty w2 5
      have hsrc := (Bk.row8_chg HR0.out (chg_then HC2.out cE)).src
      have hszE : w2.heap.size ≤ (w2.alloc (.cells #[] 5)).heap.size := cE.size
      have HCE : Hid (Chg (fun _ => False) w2 (w2.alloc (.cells #[] 5))) := cE
      clear cE
      go_wp2_with (at_builtin; refine wpList_append_moved rfl _ _ 22 rfl w2.heap.size 5 iu (.int .u8 0) 1 1 Try.underlying22 hiu hu0 hu1 hu2 rfl (by decide) _ 0 [] rfl ad L c rfl ((nums bs).map (Value.int .u8)) hoE hsrc hone (by unfold maxLen; omega) (by omega) hszE ?_)
      intro v3 w3 ho3 hg3 _
      have c3 : Chg (fun _ => False) w2 w3 := HCE.out.grown hg3 (fun k e => .inr (by cases e; exact Nat.le_refl _))
      have ho3' : w3.ownsRow w2.heap.size 5 1 v3 L (ins .u8 (nums bs)) := by simpa [ins_map] using ho3
      obtain ⟨a3, d3, hv3⟩ := form1 ho3'
      subst hv3
      have HW3 : Hid (Win w3 w0.heap.size a v 300 []) := S.new HW2.out c3
      have HC3 : Hid (Chg (fun _ => False) w0 w3) := chg_then HC2.out c3
      have HB3 : Hid (Row8 w3 a3 L d3 (nums bs)) := row8_own ho3'
      have HM3 : Hid (L ≤ d3) := own_cap ho3'
      have HA3 : Hid (∀ x, a3 = some x → ¬ Foot a v x.block) := fun x e f => by
        subst e
        have h1 := (S.lt HW2.out _ f).2
        have h2 := (ho3'.lt x.block rfl).1
        omega
      clear ho3 hg3 c3 ho3' hoE hsrc hone hszE HCE HW2 HC2
      go_wp2_with fail
      refine (S.put w0.heap.size a v 300 [] a3 L d3 bs w3 HW3.out HC3.out.size HB3.out hdig HA3.out HM3.out hL (by simp; omega)).mono ?_
      rintro z w4 ⟨rfl, v4, hw4, c4, _⟩
      have HW4 : Hid (Win w4 w0.heap.size a v4 300 bs) := hw4
      have HC4 : Hid (Chg (fun _ => False) w0 w4) := HC3.out.trans c4 (fun z f => .inr (S.lt HW3.out z f).1)
      clear hw4 c4
      go_wp2
      go_ret
      exact ⟨a, v4, rfl, HW4.out, HC4.out⟩

    · have hd0 : decide (sz < 1) = false := by simp; omega
      have hd1 : decide (2000 < sz) = true := by simp; omega
      go_enter Try.func8, Try.ntmps8
      go_wp2_with fail
      refine (HN.out _).mono ?_
      rintro z w1 ⟨a, v, rfl, hw1, c1⟩
      have HW1 : Hid (Win w1 w0.heap.size a v 300 []) := hw1
      have HC1 : Hid (Chg (fun _ => False) w0 w1) := c1
      clear hw1 c1
      go_wp2_with fail
      refine (sizeS S HW1.out).mono ?_
      rintro z w2 ⟨rfl, c2⟩
      have HW2 : Hid (Win w2 w0.heap.size a v 300 []) := S.new HW1.out c2
      have HC2 : Hid (Chg (fun _ => False) w0 w2) := chg_then HC1.out c2
      clear c2 HW1 HC1
      have cE := chg_one w2 (.cells #[] 5)
      have hoE := own_empty w2 5
      have hsrc := (Bk.row8_chg HR0.out (chg_then HC2.out cE)).src
      have hszE : w2.heap.size ≤ (w2.alloc (.cells #[] 5)).heap.size := cE.size
      have HCE : Hid (Chg (fun _ => False) w2 (w2.alloc (.cells #[] 5))) := cE
      clear cE
      go_wp2_with (at_builtin; refine wpList_append_moved rfl _ _ 22 rfl w2.heap.size 5 iu (.int .u8 0) 1 1 Try.underlying22 hiu hu0 hu1 hu2 rfl (by decide) _ 0 [] rfl ad L c rfl ((nums bs).map (Value.int .u8)) hoE hsrc hone (by unfold maxLen; omega) (by omega) hszE ?_)
      intro v3 w3 ho3 hg3 _
      have c3 : Chg (fun _ => False) w2 w3 := HCE.out.grown hg3 (fun k e => .inr (by cases e; exact Nat.le_refl _))
      have ho3' : w3.ownsRow w2.heap.size 5 1 v3 L (ins .u8 (nums bs)) := by simpa [ins_map] using ho3
      obtain ⟨a3, d3, hv3⟩ := form1 ho3'
      subst hv3
      have HW3 : Hid (Win w3 w0.heap.size a v 300 []) := S.new HW2.out c3
      have HC3 : Hid (Chg (fun _ => False) w0 w3) := chg_then HC2.out c3
      have HB3 : Hid (Row8 w3 a3 L d3 (nums bs)) := row8_own ho3'
      have HM3 : Hid (L ≤ d3) := own_cap ho3'
      have HA3 : Hid (∀ x, a3 = some x → ¬ Foot a v x.block) := fun x e f => by
        subst e
        have h1 := (S.lt HW2.out _ f).2
        have h2 := (ho3'.lt x.block rfl).1
        omega
      clear ho3 hg3 c3 ho3' hoE hsrc hone hszE HCE HW2 HC2
      go_wp2_with fail
      refine (S.put w0.heap.size a v 300 [] a3 L d3 bs w3 HW3.out HC3.out.size HB3.out hdig HA3.out HM3.out hL (by simp; omega)).mono ?_
      rintro z w4 ⟨rfl, v4, hw4, c4, _⟩
      have HW4 : Hid (Win w4 w0.heap.size a v4 300 bs) := hw4
      have HC4 : Hid (Chg (fun _ => False) w0 w4) := HC3.out.trans c4 (fun z f => .inr (S.lt HW3.out z f).1)
      clear hw4 c4
      go_wp2
      go_ret
      exact ⟨a, v4, rfl, HW4.out, HC4.out⟩

  · have hn3 : (n : Int) = sz := by unfold szN at hsz; rw [if_neg c0] at hsz; omega
    subst hn3
    have hd0 : decide ((n : Int) < 1) = false := by simp; omega
    have hd1 : decide (2000 < (n : Int)) = false := by simp; omega
    clear c0 hsz
    go_enter Try.func8, Try.ntmps8
    go_wp2_with fail
    refine (HN.out _).mono ?_
    rintro z w1 ⟨a, v, rfl, hw1, c1⟩
    have HW1 : Hid (Win w1 w0.heap.size a v n []) := hw1
    have HC1 : Hid (Chg (fun _ => False) w0 w1) := c1
    clear hw1 c1
    go_wp2_with fail
    refine (sizeS S HW1.out).mono ?_
    rintro z w2 ⟨rfl, c2⟩
    have HW2 : Hid (Win w2 w0.heap.size a v n []) := S.new HW1.out c2
    have HC2 : Hid (Chg (fun _ => False) w0 w2) := chg_then HC1.out c2
    clear c2 HW1 HC1
    have cE := chg_one w2 (.cells #[] 5)
    have hoE := own_empty w2 5
    have hsrc := (Bk.row8_chg HR0.out (chg_then HC2.out cE)).src
    have hszE : w2.heap.size ≤ (w2.alloc (.cells #[] 5)).heap.size := cE.size
    have HCE : Hid (Chg (fun _ => False) w2 (w2.alloc (.cells #[] 5))) := cE
    clear cE
    go_wp2_with (at_builtin; refine wpList_append_moved rfl _ _ 22 rfl w2.heap.size 5 iu (.int .u8 0) 1 1 Try.underlying22 hiu hu0 hu1 hu2 rfl (by decide) _ 0 [] rfl ad L c rfl ((nums bs).map (Value.int .u8)) hoE hsrc hone (by unfold maxLen; omega) (by omega) hszE ?_)
    intro v3 w3 ho3 hg3 _
    have c3 : Chg (fun _ => False) w2 w3 := HCE.out.grown hg3 (fun k e => .inr (by cases e; exact Nat.le_refl _))
    have ho3' : w3.ownsRow w2.heap.size 5 1 v3 L (ins .u8 (nums bs)) := by simpa [ins_map] using ho3
    obtain ⟨a3, d3, hv3⟩ := form1 ho3'
    subst hv3
    have HW3 : Hid (Win w3 w0.heap.size a v n []) := S.new HW2.out c3
    have HC3 : Hid (Chg (fun _ => False) w0 w3) := chg_then HC2.out c3
    have HB3 : Hid (Row8 w3 a3 L d3 (nums bs)) := row8_own ho3'
    have HM3 : Hid (L ≤ d3) := own_cap ho3'
    have HA3 : Hid (∀ x, a3 = some x → ¬ Foot a v x.block) := fun x e f => by
      subst e
      have h1 := (S.lt HW2.out _ f).2
      have h2 := (ho3'.lt x.block rfl).1
      omega
    clear ho3 hg3 c3 ho3' hoE hsrc hone hszE HCE HW2 HC2
    go_wp2_with fail
    refine (S.put w0.heap.size a v n [] a3 L d3 bs w3 HW3.out HC3.out.size HB3.out hdig HA3.out HM3.out hL (by simp; omega)).mono ?_
    rintro z w4 ⟨rfl, v4, hw4, c4, _⟩
    have HW4 : Hid (Win w4 w0.heap.size a v4 n bs) := hw4
    have HC4 : Hid (Chg (fun _ => False) w0 w4) := HC3.out.trans c4 (fun z f => .inr (S.lt HW3.out z f).1)
    clear hw4 c4
    go_wp2
    go_ret
    exact ⟨a, v4, rfl, HW4.out, HC4.out⟩
end Go.Proofs.Ythgibmhbgfjkcaa
