/- What is asked of the program's filters ('DeltaSpec'); the law's small functions; of no statement by itself. -/
import Derived.Test.YtefplppgkoanbaaDm
import Derived.Test.YtefplppgkoanbaaBy
import Derived.Test.YtefplppgkoanbaaLastQ
import Derived.Deep.DeepCutAuto
import Derived.Great.BuildSlice
namespace Go.Proofs.Ytefplppgkoanbaa
open Go.RowKit
set_option linter.unusedVariables false
set_option linter.unusedSimpArgs false
def goodD (d : Int) : Prop := 1 ≤ d ∧ d ≤ 256
instance (d : Int) : Decidable (goodD d) := by unfold goodD; exact inferInstance
/-- What Encode (Decode) answers. -/
def codeA (back : Bool) (d : Int) (bs : List Nat) : List Nat × Int := if goodD d then (De19.cd back d.toNat bs, 0) else ([], 6)
/-- Fi w B a F d back all: a filter at a, in the blocks F, all from B on; its distance, its way, all bytes that came. -/
structure DeltaSpec (Fi : World → Nat → Nat → (Nat → Prop) → Nat → Bool → List Nat → Prop) : Prop where
  enc : ∀ (ad : Option Addr) (n c : Nat) (bs : List Nat) (d : Int) (w : World), Row8 w ad n c (nums bs) → Rc.Dig bs → n ≤ c → n ≤ 140737488355328 → I64 d → Calls Try.prog 11 #[.slice ad n c, .int .i64 d] w fun e w' => ∃ ov, e = .returned (.tuple #[ov, .int .i64 (codeA false d bs).2]) ∧ ByO w' w.heap.size ov (codeA false d bs).1 ∧ Chg (fun _ => False) w w'
  dec : ∀ (ad : Option Addr) (n c : Nat) (bs : List Nat) (d : Int) (w : World), Row8 w ad n c (nums bs) → Rc.Dig bs → n ≤ c → n ≤ 140737488355328 → I64 d → Calls Try.prog 20 #[.slice ad n c, .int .i64 d] w fun e w' => ∃ ov, e = .returned (.tuple #[ov, .int .i64 (codeA true d bs).2]) ∧ ByO w' w.heap.size ov (codeA true d bs).1 ∧ Chg (fun _ => False) w w'
  keep : ∀ {w w' : World} {S F : Nat → Prop} {B a d : Nat} {back : Bool} {all : List Nat}, Fi w B a F d back all → Chg S w w' → (∀ z, F z → ¬ S z) → Fi w' B a F d back all
  lt : ∀ {w : World} {F : Nat → Prop} {B a d : Nat} {back : Bool} {all : List Nat}, Fi w B a F d back all → ∀ z, F z → B ≤ z ∧ z < w.heap.size
  down : ∀ {w : World} {F : Nat → Prop} {B B' a d : Nat} {back : Bool} {all : List Nat}, Fi w B a F d back all → B' ≤ B → Fi w B' a F d back all
  newN : ∀ (d : Int) (back : Bool) (w : World), ¬ goodD d → I64 d → Calls Try.prog 12 #[.int .i64 d, .bool back] w fun e w' => e = .returned (.tuple #[.pointer none, .int .i64 6]) ∧ Chg (fun _ => False) w w'
  new : ∀ (d : Nat) (back : Bool) (w : World), goodD (d : Int) → Calls Try.prog 12 #[.int .i64 (d : Int), .bool back] w fun e w' => ∃ a F, e = .returned (.tuple #[.pointer (some ⟨a, 0, none⟩), .int .i64 0]) ∧ Fi w' w.heap.size a F d back [] ∧ Chg (fun _ => False) w w'
  next : ∀ (B a d : Nat) (F : Nat → Prop) (back : Bool) (all : List Nat) (ad : Option Addr) (n c : Nat) (bs : List Nat) (w : World), Fi w B a F d back all → B ≤ w.heap.size → Row8 w ad n c (nums bs) → (∀ x, 0 < n → ad = some x → ¬ F x.block) → Rc.Dig bs → n ≤ c → n ≤ 140737488355328 → Calls Try.prog 13 #[.pointer (some ⟨a, 0, none⟩), .slice ad n c] w fun e w' => ∃ ov F', e = .returned ov ∧ Fi w' B a F' d back (all ++ bs) ∧ ByO w' w.heap.size ov (De19.piece back d all bs) ∧ (∀ g, ov.ownBlock = some g → ¬ F' g) ∧ Chg F w w' ∧ ∀ z, F' z → F z ∨ w.heap.size ≤ z
theorem off_own {w : World} {B m n c : Nat} {ad : Option Addr} {xs : List Value} {F : Nat → Prop} (h : w.ownsRow B 5 1 (.slice ad n c) m xs) (hF : ∀ z, F z → z < B) : ∀ x, 0 < n → ad = some x → ¬ F x.block := fun x _ e f => by
  subst e
  have h1 := (World.ownsRow.lt h x.block rfl).1
  have h2 := hF _ f
  omega
variable {Fi : World → Nat → Nat → (Nat → Prop) → Nat → Bool → List Nat → Prop}
theorem codeA_good {back : Bool} {d : Nat} {bs : List Nat} (h : goodD (d : Int)) : codeA back (d : Int) bs = (De19.cd back d bs, 0) := by unfold codeA; rw [if_pos h, Int.toNat_natCast]
/-- Of any number a distance. -/
def dN (n : Int) : Nat := (n.tmod 256).natAbs + 1
theorem dN_good (n : Int) : goodD (dN n : Int) ∧ 1 ≤ dN n ∧ dN n ≤ 256 := by
  unfold goodD dN
  have h1 : (n.tmod 256).natAbs < 256 := by
    have := Int.natAbs_tmod n 256
    rw [this]
    exact Nat.mod_lt _ (by decide)
  omega
theorem distance_q (n : Int) (hn : I64 n) (w : World) : Calls Try.prog 10 #[.int .i64 n] w fun e w' => e = .returned (.int .i64 (dN n : Int)) ∧ w = w' := by
  have hd := (dN_good n).2.2
  obtain ⟨r, hr⟩ : ∃ r, n.tmod 256 = r := ⟨_, rfl⟩
  have hb : -255 ≤ r ∧ r ≤ 255 := by
    unfold dN at hd
    rw [hr] at hd
    omega
  have hb1 := hb.1
  have hb2 := hb.2
  have HA : Hid ((dN n : Int) = (r.natAbs : Int) + 1) := by show _ = _; unfold dN; rw [hr]; omega
  clear hb hd
  by_cases h : r < 0
  · have d1 : decide (r < 0) = true := decide_eq_true h
    have HB : Hid ((dN n : Int) = -r + 1) := by show _ = _; rw [HA.out]; omega
    clear HA h
    go_enter Try.func10, Try.ntmps10
    go_wp2
    go_ret
    exact ⟨by rw [HB.out]; rfl, rfl⟩
  · have d1 : decide (r < 0) = false := decide_eq_false h
    have HB : Hid ((dN n : Int) = r + 1) := by show _ = _; rw [HA.out]; omega
    clear HA h
    go_enter Try.func10, Try.ntmps10
    go_wp2
    go_ret
    exact ⟨by rw [HB.out]; rfl, rfl⟩
theorem enum_ok (w : World) : True := trivial
set_option maxHeartbeats 4000000 in
set_option maxRecDepth 100000 in
theorem both_any (S : DeltaSpec Fi) (d : Nat) (hd : goodD (d : Int)) (ad : Option Addr) (n c : Nat) (bs : List Nat) (w0 : World) (hr : Row8 w0 ad n c (nums bs)) (hg : Rc.Dig bs) (hn : n ≤ 140737488355328) : Calls Try.prog 9 #[.slice ad n c, .int .i64 (d : Int)] w0 fun e w' => ∃ x y, e = .returned (.tuple #[x, y, .bool true]) ∧ ByO w' w0.heap.size x (De19.cd false d bs) ∧ ByO w' w0.heap.size y (De19.cd true d bs) ∧ (∀ g, x.ownBlock = some g → y.ownBlock ≠ some g) ∧ Chg (fun _ => False) w0 w' := by
  obtain ⟨iu, hiu, hu0, hu1, hu2⟩ := info_parts info5u
  have hbl : bs.length = n := by have h9 := hr.1; rw [nums_len] at h9; exact h9
  have HBL : Hid (bs.length = n) := hbl
  have HR : Hid (Row8 w0 ad n c (nums bs) ∧ Rc.Dig bs) := ⟨hr, hg⟩
  have HGD : Hid (goodD (d : Int)) := hd
  have hni : (n : Int) ≤ 140737488355328 := by omega
  have hdi : (1 : Int) ≤ (d : Int) ∧ (d : Int) ≤ 256 := hd
  have c0 := chg_one w0 (.cells #[] 5)
  have hown := own_empty w0 5
  have hsrc := (Bk.row8_chg hr c0).src
  have hone := oneB bs
  have hB0 : w0.heap.size ≤ (w0.alloc (.cells #[] 5)).heap.size := c0.size
  have HC0 : Hid (Chg (fun _ => False) w0 (w0.alloc (.cells #[] 5))) := c0
  clear hbl hr hg c0 hd
  go_enter Try.func9, Try.ntmps9
  go_wp2_with (at_builtin; refine wpList_append_moved rfl _ _ 22 rfl w0.heap.size 5 iu (.int .u8 0) 1 1 Try.underlying22 hiu hu0 hu1 hu2 rfl (by decide) _ 0 [] rfl ad n c rfl ((nums bs).map (Value.int .u8)) ?h1 ?h2 ?h3 ?m1 ?m2 ?m3 ?_)
  case h1 => exact hown
  case h2 => exact hsrc
  case h3 => exact hone
  case m1 => unfold maxLen; omega
  case m2 => omega
  case m3 => exact hB0
  intro v1 w1 ho1 hg1 hm1
  have c1 : Chg (fun _ => False) w0 w1 := HC0.out.grown hg1 (fun j e => .inr (by simp [Value.ownBlock] at e; omega))
  try simp only [List.nil_append, Nat.zero_add] at ho1
  obtain ⟨a1, d1, rfl⟩ := form1 ho1
  have hrow := row8_own (xs := nums bs) ho1
  have hcap := own_cap ho1
  have HE : Hid _ := S.enc a1 n d1 bs (d : Int) w1 hrow HR.out.2 hcap hn ⟨by omega, by omega⟩
  rw [codeA_good HGD.out] at HE
  simp only at HE
  have HC1 : Hid (Chg (fun _ => False) w0 w1) := c1
  clear ho1 hg1 hm1 c1 hown hsrc hone hB0 HC0 hrow hcap
  go_wp2_with fail
  refine Calls.mono HE.out ?_
  rintro z w2 ⟨x, rfl, hx, c2⟩
  obtain ⟨xa, xc, rfl⟩ := byO_form hx
  rw [De19.cd_len, HBL.out]
  have hx' : ByO w2 w1.heap.size (.slice xa n xc) (De19.cd false d bs) := by rw [De19.cd_len, HBL.out] at hx; exact hx
  have HX : Hid (ByO w2 w0.heap.size (.slice xa n xc) (De19.cd false d bs)) := owns_base hx' HC1.out.size
  have HC2 : Hid (Chg (fun _ => False) w0 w2) := chg_then HC1.out c2
  have c3 := chg_one w2 (.cells #[] 5)
  have hown3 := own_empty w2 5
  have hsrc3 := (Bk.row8_chg HR.out.1 (chg_then HC2.out c3)).src
  have hone3 := oneB bs
  have hB3 : w2.heap.size ≤ (w2.alloc (.cells #[] 5)).heap.size := c3.size
  have HC3 : Hid (Chg (fun _ => False) w2 (w2.alloc (.cells #[] 5))) := c3
  clear hx hx' c2 c3 HE HC1
  go_wp2_with (at_builtin; refine wpList_append_moved rfl _ _ 22 rfl w2.heap.size 5 iu (.int .u8 0) 1 1 Try.underlying22 hiu hu0 hu1 hu2 rfl (by decide) _ 0 [] rfl ad n c rfl ((nums bs).map (Value.int .u8)) ?h1 ?h2 ?h3 ?m1 ?m2 ?m3 ?_)
  case h1 => exact hown3
  case h2 => exact hsrc3
  case h3 => exact hone3
  case m1 => unfold maxLen; omega
  case m2 => omega
  case m3 => exact hB3
  intro v4 w4 ho4 hg4 hm4
  have c4 : Chg (fun _ => False) w2 w4 := HC3.out.grown hg4 (fun j e => .inr (by simp [Value.ownBlock] at e; omega))
  try simp only [List.nil_append, Nat.zero_add] at ho4
  obtain ⟨a4, d4, rfl⟩ := form1 ho4
  have hrow := row8_own (xs := nums bs) ho4
  have hcap := own_cap ho4
  have HE : Hid _ := S.dec a4 n d4 bs (d : Int) w4 hrow HR.out.2 hcap hn ⟨by omega, by omega⟩
  rw [codeA_good HGD.out] at HE
  simp only at HE
  have HC4 : Hid (Chg (fun _ => False) w0 w4) := chg_then HC2.out c4
  have HX4 : Hid (ByO w4 w0.heap.size (.slice xa n xc) (De19.cd false d bs)) := HX.out.new c4
  have HXL : Hid (∀ g, (Value.slice xa n xc).ownBlock = some g → g < w4.heap.size) := fun g e => (HX4.out.lt g e).2
  clear ho4 hg4 hm4 c4 hown3 hsrc3 hone3 hB3 HC3 hrow hcap HX HC2
  go_wp2_with fail
  refine Calls.mono HE.out ?_
  rintro z w5 ⟨y, rfl, hy, c5⟩
  obtain ⟨ya, yc, rfl⟩ := byO_form hy
  rw [De19.cd_len, HBL.out]
  have hy' : ByO w5 w4.heap.size (.slice ya n yc) (De19.cd true d bs) := by rw [De19.cd_len, HBL.out] at hy; exact hy
  have HY : Hid (ByO w5 w0.heap.size (.slice ya n yc) (De19.cd true d bs)) := owns_base hy' HC4.out.size
  have HX5 : Hid (ByO w5 w0.heap.size (.slice xa n xc) (De19.cd false d bs)) := HX4.out.new c5
  have HNE : Hid (∀ g, (Value.slice xa n xc).ownBlock = some g → (Value.slice ya n yc).ownBlock ≠ some g) := fun g e f => by have := HXL.out g e; have := (hy'.lt g f).1; omega
  have HC5 : Hid (Chg (fun _ => False) w0 w5) := chg_then HC4.out c5
  clear hy hy' c5 HE HC4 HX4 HXL
  have enn : ((n : Int) == (n : Int)) = true := by simp
  go_wp2
  go_ret3
  exact ⟨_, _, rfl, HX5.out, HY.out, HNE.out, HC5.out⟩
end Go.Proofs.Ytefplppgkoanbaa
