/- The document's Code; of no statement by itself. -/
import Derived.Test.YtefplppgkoanbaaDt
namespace Go.Proofs.Ytefplppgkoanbaa
open Go.RowKit
set_option linter.unusedVariables false
set_option linter.unusedSimpArgs false
theorem rcode_any (ad : Option Addr) (n c : Nat) (bs : List Nat) (d : Int) (back : Bool) (hd : I64 d) (w0 : World) (hr : Row8 w0 ad n c (nums bs)) (hg : Rc.Dig bs) (hn : n ≤ 140737488355328) : Calls Try.prog 21 #[.slice ad n c, .int .i64 d, .bool back] w0 fun e w' => ∃ ov, e = .returned (.tuple #[ov, .int .i64 (codeA back d bs).2]) ∧ ByO w' w0.heap.size ov (codeA back d bs).1 ∧ Chg (fun _ => False) w0 w' := by
  have HQ : Hid _ := rgood_q d hd w0
  by_cases hgd : goodD d
  · obtain ⟨D, rfl⟩ : ∃ D : Nat, d = (D : Int) := ⟨d.toNat, by have := hgd.1; omega⟩
    rw [decide_eq_true hgd] at HQ
    have HE : Hid (codeA back (D : Int) bs = (De19.cd back D bs, 0)) := codeA_good hgd
    have hD : 1 ≤ D ∧ D ≤ 256 := by have h1 := hgd.1; have h2 := hgd.2; omega
    rw [HE.out]
    cases back
    · have HC : Hid _ := rdiff_any ad n c bs D hD w0 hr hg hn
      clear hr hg hd hgd HE hD
      go_enter Try.func21, Try.ntmps21
      go_wp2_with fail
      refine Calls.mono HQ.out ?_
      rintro zz w0 ⟨rfl, rfl⟩
      clear HQ
      go_wp2_with fail
      refine Calls.mono HC.out ?_
      rintro zz w1 ⟨ov, rfl, ho, c1⟩
      have HO : Hid (ByO w1 w0.heap.size ov (De19.cd false D bs) ∧ Chg (fun _ => False) w0 w1) := ⟨ho, c1⟩
      clear ho c1 HC
      go_wp2
      go_ret2
      exact ⟨_, rfl, HO.out⟩
    · have HC : Hid _ := rsums_any ad n c bs D hD w0 hr hg hn
      clear hr hg hd hgd HE hD
      go_enter Try.func21, Try.ntmps21
      go_wp2_with fail
      refine Calls.mono HQ.out ?_
      rintro zz w0 ⟨rfl, rfl⟩
      clear HQ
      go_wp2_with fail
      refine Calls.mono HC.out ?_
      rintro zz w1 ⟨ov, rfl, ho, c1⟩
      have HO : Hid (ByO w1 w0.heap.size ov (De19.cd true D bs) ∧ Chg (fun _ => False) w0 w1) := ⟨ho, c1⟩
      clear ho c1 HC
      go_wp2
      go_ret2
      exact ⟨_, rfl, HO.out⟩
  · rw [decide_eq_false hgd] at HQ
    have HE : Hid (codeA back d bs = ([], 6)) := by show _ = _; unfold codeA; rw [if_neg hgd]
    rw [HE.out]
    clear hr hg hd hgd HE
    go_enter Try.func21, Try.ntmps21
    go_wp2_with fail
    refine Calls.mono HQ.out ?_
    rintro zz w0 ⟨rfl, rfl⟩
    clear HQ
    go_wp2
    go_ret2
    exact ⟨_, rfl, byO_nil _ _, Chg.refl _ _⟩
end Go.Proofs.Ytefplppgkoanbaa
