/- The contract of the law's plays: Copy, what is answered is held; of no statement by itself. -/
import Derived.Test.YthgibmhbgfjkcaaWw
namespace Go.Proofs.Ythgibmhbgfjkcaa
open Go.RowKit
set_option linter.unusedVariables false

variable {Win : World → Nat → Nat → Value → Nat → List Nat → Prop}
/-- What a copy answers: the bytes, how many, the number of its error. -/
def cpX (n : Nat) (bs : List Nat) (d m : Int) : List Nat := if Cpy n bs d m then copyL d.toNat bs m.toNat else []
def cpM (n : Nat) (bs : List Nat) (d m : Int) : Nat := if Cpy n bs d m then m.toNat else 0
def cpE (n : Nat) (bs : List Nat) (d m : Int) : Int := if Cpy n bs d m then 0 else 7
theorem cpM_le (n : Nat) (bs : List Nat) (d m : Int) : cpM n bs d m ≤ 273 := by
  unfold cpM
  split
  · rename_i h
    have := h.2
    omega
  · omega
theorem cpE_in (n : Nat) (bs : List Nat) (d m : Int) : 0 ≤ cpE n bs d m ∧ cpE n bs d m ≤ 7 := by unfold cpE; split <;> omega
theorem copyS (S : WinSpec Win) (B a : Nat) (v : Value) (n : Nat) (bs : List Nat) (d m : Int) (w : World) (h : Win w B a v n bs) (hB : B ≤ w.heap.size) (hd : I64 d) (hm : I64 m) (hl : bs.length + 273 ≤ 1152921504606846976) : Calls Try.prog 9 #[.pointer (some ⟨a, 0, none⟩), .int .i64 d, .int .i64 m] w fun e w' =>
    ∃ oa oc v', e = .returned (.tuple #[.slice oa (cpM n bs d m) oc, .int .i64 (cpE n bs d m)]) ∧ Win w' B a v' n (bs ++ cpX n bs d m) ∧ w'.ownsRow w.heap.size 5 1 (.slice oa (cpM n bs d m) oc) (cpM n bs d m) (ins .u8 (nums (cpX n bs d m))) ∧ (∀ g, (Value.slice oa (cpM n bs d m) oc).ownBlock = some g → ¬ Foot a v' g) ∧ Chg (Foot a v) w w' ∧ Moved w v v' := by
  refine (S.copy B a v n bs d m w h hB hd hm hl).mono fun e w' hh => ?_
  unfold cpX cpM cpE
  rcases hh with ⟨hc, rfl, k⟩ | ⟨hc, ov, v', rfl, h1, h2, h3, h4, h5⟩
  · simp only [if_neg hc]
    refine ⟨none, 0, v, rfl, ?_, World.ownsRow_nil _ _ _ _, (fun g e => nomatch e), k.mono (fun _ f => f.elim), fun g e => .inl e⟩
    rw [List.append_nil]
    exact S.new h k
  · simp only [if_pos hc]
    obtain ⟨oa, oc, rfl⟩ := form1 h2
    exact ⟨oa, oc, v', rfl, h1, h2, h3, h4, h5⟩
theorem rcopyS (B r : Nat) (v : Value) (n : Nat) (bs : List Nat) (d m : Int) (w : World) (h : Rw w B r v n bs) (hB : B ≤ w.heap.size) (hn : n ≤ 4294967295) (hl : bs.length + 273 ≤ 140737488355328) : Calls Try.prog 30 #[.pointer (some ⟨r, 0, none⟩), .int .i64 d, .int .i64 m] w fun e w' =>
    ∃ oa oc v', e = .returned (.tuple #[.slice oa (cpM n bs d m) oc, .int .i64 (cpE n bs d m)]) ∧ Rw w' B r v' n (bs ++ cpX n bs d m) ∧ w'.ownsRow w.heap.size 5 1 (.slice oa (cpM n bs d m) oc) (cpM n bs d m) (ins .u8 (nums (cpX n bs d m))) ∧ Chg (Foot r v) w w' ∧ Moved w v v' := by
  refine (rcopy_any B r v n bs d m w h hB hn hl).mono fun e w' hh => ?_
  unfold cpX cpM cpE
  rcases hh with ⟨hc, rfl, k⟩ | ⟨hc, ov, v', rfl, hk⟩
  · simp only [if_neg hc]
    refine ⟨none, 0, v, rfl, ?_, World.ownsRow_nil _ _ _ _, k.mono (fun _ f => f.elim), fun g e => .inl e⟩
    rw [List.append_nil]
    exact h.new k
  · simp only [if_pos hc]
    obtain ⟨oa, oc, rfl⟩ := form1 hk.out
    exact ⟨oa, oc, v', rfl, hk.rw, hk.out, hk.chg, hk.mov⟩
theorem Trn.pl (S : WinSpec Win) {w0 wA w : World} {lv bv : Value} {its : List Pr} {hs : List Bk.Hd} (h : Pl Win w0 wA lv its bv hs) (i : Nat) (hi : i < its.length) {a r : Nat} {v y v2 y2 : Value} {n : Nat} {bs bs2 : List Nat} (hx : its[i] = ⟨a, r, v, y, n, bs⟩) (t : Trn Win wA w w0.heap.size a r v y v2 y2 n bs2 bs2) : Pl Win w0 w lv (its.set i ⟨a, r, v2, y2, n, bs2⟩) bv hs := by
  refine h.turn S i hi t.chg (fun z f => by rw [hx]; exact f) ⟨t.two.win, t.two.rw, t.two.dis⟩ (by rw [hx]) (by rw [hx]) (fun z f => ?_)
  rw [hx]
  rcases f with (f | f) | (f | f)
  · exact .inl (.inl (.inl f))
  · rcases t.mv z f with e | e
    · exact .inl (.inl (.inr e))
    · exact .inr e
  · exact .inl (.inr (.inl f))
  · rcases t.my z f with e | e
    · exact .inl (.inr (.inr e))
    · exact .inr e
theorem Pl.two {w0 w : World} {lv bv : Value} {its : List Pr} {hs : List Bk.Hd} (h : Pl Win w0 w lv its bv hs) (i : Nat) (hi : i < its.length) {a r : Nat} {v y : Value} {n : Nat} {bs : List Nat} (hx : its[i] = ⟨a, r, v, y, n, bs⟩) : Two Win w w0.heap.size a r v y n bs bs := by
  have g := h.good i hi
  rw [hx] at g
  exact ⟨g.win, g.rw, g.dis⟩
theorem Pl.loose2 (S : WinSpec Win) {w0 wA w : World} {lv bv ov : Value} {its : List Pr} {hs : List Bk.Hd} {M : Nat} {xs : List Int} (h : Pl Win w0 wA lv its bv hs) (i : Nat) (x : Pr) (ho : w.ownsRow wA.heap.size 5 1 ov M (ins .u8 xs)) (hf : ∀ g, ov.ownBlock = some g → ¬ Fq x g) : Loose w0 w (its.set i x) hs ov M xs := by
  refine ⟨owns_base ho h.chg.size, fun j hj g e f => ?_, fun j a hj g e e2 => ?_⟩
  · simp at hj
    by_cases q : i = j
    · subst q
      simp only [List.getElem_set_self] at f
      exact hf g e f
    · rw [List.getElem_set_ne q] at f
      have h1 := (ho.lt g e).1
      have h2 := ((h.good j hj).lt S f).2
      omega
  · have h1 := (ho.lt g e2).1
    have h2 := ((h.book.rows j a hj).lt e).2
    omega
theorem book_form {w : World} {B : Nat} {lv : Value} {hs : List Bk.Hd} (h : w.ownsRow B 68 5 lv hs.length (Bk.hcells hs)) : ∃ a c, lv = .slice a hs.length c := by
  rcases h.2 with ⟨rfl, e⟩ | ⟨g, cap, cur, rfl, _⟩
  · exact ⟨none, 0, by rw [e]⟩
  · exact ⟨_, cap, rfl⟩
set_option maxHeartbeats 4000000 in
set_option maxRecDepth 100000 in
theorem plays_copy (S : WinSpec Win) (w0 wA : World) (lv bv : Value) (its : List Pr) (hs : List Bk.Hd) (hp : Pl Win w0 wA lv its bv hs) (i : Nat) (hi : i < its.length) (a r : Nat) (v y : Value) (n : Nat) (bs : List Nat) (hx : its[i] = ⟨a, r, v, y, n, bs⟩) (wi dist nn : Int) (ad : Option Addr) (len cap : Nat) (hd : I64 dist) (hnn : I64 nn) (hl : bs.length + 273 ≤ 140737488355328) (hhl : hs.length ≤ 16777216) : Calls Try.prog 20 #[.agg #[.pointer (some ⟨a, 0, none⟩), .pointer (some ⟨r, 0, none⟩)], .agg #[.int .i64 2, .int .i64 wi, .int .i64 dist, .int .i64 nn, .slice ad len cap], bv] wA fun e w' => ∃ bv' x' h', e = .returned (.tuple #[bv', .bool true]) ∧ Pl Win w0 w' lv (its.set i x') bv' (hs ++ [h']) ∧ x'.bs.length ≤ bs.length + 273 := by
  have ht := hp.two i hi hx
  have hn := (S.nn ht.win).2.1
  obtain ⟨M, hM⟩ : ∃ M, hs.length = M := ⟨_, rfl⟩
  obtain ⟨la, lc, hbv⟩ := book_form hp.book.book
  rw [hM] at hbv
  subst hbv
  have HPL : Hid (Pl Win w0 wA lv its (.slice la M lc) hs) := hp
  have HM : Hid (hs.length = M) := hM
  have HX : Hid (its[i] = ⟨a, r, v, y, n, bs⟩) := hx
  have hM9 : M ≤ 16777216 := by omega
  have hB : w0.heap.size ≤ wA.heap.size := hp.chg.size
  have hXl : (cpX n bs dist nn).length ≤ 273 := by
    unfold cpX
    split
    · rename_i h9
      rw [copyL_len]
      have := h9.2
      omega
    · simp
  obtain ⟨X, hX⟩ : ∃ X, cpX n bs dist nn = X := ⟨_, rfl⟩
  obtain ⟨K, hK⟩ : ∃ K, cpM n bs dist nn = K := ⟨_, rfl⟩
  obtain ⟨E, hE⟩ : ∃ E, cpE n bs dist nn = E := ⟨_, rfl⟩
  have hK9 : K ≤ 273 := by rw [← hK]; exact cpM_le _ _ _ _
  have HXL : Hid (X.length ≤ 273) := by show _ ≤ _; rw [← hX]; exact hXl
  obtain ⟨hbx, hcx⟩ := Bxs.make wA a r 2 wi dist nn ad len cap
  obtain ⟨x0, x1, x2, x3, x4, x5⟩ := hbx.cells
  have HB : Hid (Bxs _ _ _ _ _ _ _ _ _ _ _) := hbx
  have HT : Hid (Trn Win wA ((wA.alloc (.cells #[.pointer (some ⟨a, 0, none⟩), .pointer (some ⟨r, 0, none⟩)] 48)).alloc (.cells #[.int .i64 2, .int .i64 wi, .int .i64 dist, .int .i64 nn, .slice ad len cap] 37)) w0.heap.size a r v y v y n bs bs) := Trn.start S ht hcx
  have HC : Hid (Chg (fun _ => False) wA ((wA.alloc (.cells #[.pointer (some ⟨a, 0, none⟩), .pointer (some ⟨r, 0, none⟩)] 48)).alloc (.cells #[.int .i64 2, .int .i64 wi, .int .i64 dist, .int .i64 nn, .slice ad len cap] 37))) := hcx
  have hC1 := fun w h1 h2 => copyS S w0.heap.size a v n bs dist nn w h1 h2 hd hnn (by omega)
  have hC2 := fun B y w h1 h2 => rcopyS B r y n bs dist nn w h1 h2 hn hl
  rw [hX, hK, hE] at hC1 hC2
  have HC1 : Hid _ := hC1
  have HC2 : Hid _ := hC2
  clear hbx hcx ht hC1 hC2 hX hK hE hXl hp hM hx
  go_enter Try.func20, Try.ntmps20
  go_wp2_with fail
  generalize ((wA.alloc (.cells #[.pointer (some ⟨a, 0, none⟩), .pointer (some ⟨r, 0, none⟩)] 48)).alloc (.cells #[.int .i64 2, .int .i64 wi, .int .i64 dist, .int .i64 nn, .slice ad len cap] 37)) = W at *
  obtain ⟨P, hP⟩ : ∃ P, wA.heap.size = P := ⟨_, rfl⟩
  have HP : Hid (wA.heap.size = P) := hP
  rw [hP] at HB x0 x1 x2 x3 x4 x5 ⊢
  clear hP
  refine (HC1.out W HT.out.two.win (Nat.le_trans hB HC.out.size)).mono ?_
  rintro z w1 ⟨oa, oc, v1, rfl, hw1, ho1, hf1, c1, m1⟩
  have HT1 : Hid (Trn Win wA w1 w0.heap.size a r v y v1 y n (bs ++ X) bs) := HT.out.left S hw1 c1 m1
  have HB1 : Hid (Bxs w1 P a r 2 wi dist nn ad len cap) := HB.out.left S HT.out.two c1
  have HO1 : Hid (w1.ownsRow wA.heap.size 5 1 (.slice oa K oc) K (ins .u8 (nums X))) := owns_base ho1 HC.out.size
  have HF1 : Hid (∀ g, (Value.slice oa K oc).ownBlock = some g → ¬ Foot a v1 g) := hf1
  have HF1y : Hid (∀ g, (Value.slice oa K oc).ownBlock = some g → ¬ Foot r y g) := fun g e f => by
    have h1 := (ho1.lt g e).1
    have h2 := (HT.out.two.rw.lt f).2
    omega
  clear c1 m1 hw1 ho1 hf1 HT HB HC HC1 x0 x1 x2 x3 x4 x5
  obtain ⟨x0, x1, x2, x3, x4, x5⟩ := HB1.out.cells
  go_wp2_with fail
  refine (HC2.out w0.heap.size y _ HT1.out.two.rw (Nat.le_trans hB HT1.out.chg.size)).mono ?_
  rintro z w2 ⟨pa, pc, y2, rfl, hr2, ho2, c2, m2⟩
  have HT2 : Hid (Trn Win wA w2 w0.heap.size a r v y v1 y2 n (bs ++ X) (bs ++ X)) := HT1.out.right S hr2 c2 m2
  have ho3 : w2.ownsRow wA.heap.size 5 1 (.slice oa K oc) K (ins .u8 (nums X)) := ownsRow_keep HO1.out c2 HF1y.out
  have HPL2 : Hid (Pl Win w0 w2 lv (its.set i ⟨a, r, v1, y2, n, bs ++ X⟩) (.slice la M lc) hs) := HT2.out.pl S HPL.out i hi HX.out
  have HLO : Hid (Loose w0 w2 (its.set i ⟨a, r, v1, y2, n, bs ++ X⟩) hs (.slice oa K oc) K (nums X)) := HPL.out.loose2 S i _ ho3 (fun g e f => by
    rcases f with f | f
    · exact HF1.out g e f
    · rcases f with f | f
      · exact HF1y.out g e (.inl f)
      · rcases m2 g f with q | q
        · exact HF1y.out g e (.inr q)
        · have := (HO1.out.lt g e).2
          omega)
  have cb := conv_own ho3
  have cc := conv_own ho2
  clear c2 m2 hr2 ho2 ho3 HT1 HB1 HO1 HF1 HF1y HC2 x0 x1 x2 x3 x4 x5
  generalize strOfNums (nums X) = sX at *
  go_upto_region 19 with fail
  clear cb cc
  have hhold := Bk.hold_any w0.heap.size (.slice oa K oc) (nums X) K M w2 (by omega) HLO.out.own HPL2.out.chg.size (by omega)
  have HHOLD : Hid _ := hhold
  clear hhold
  go_wp2_with fail
  refine Calls.mono HHOLD.out ?_
  rintro z w8 ⟨hb, vab, vcb, rfl, hva, hok, hhn, hrow, hc3, hm3⟩
  have HCE : Hid (hb.cells = [.slice vab hb.ys.length vcb, .int .i64 hb.n, .int .u8 hb.mark, .string hb.want, .bool hb.kept]) := by show Bk.Hd.cells _ = _; unfold Bk.Hd.cells; rw [hva]
  have hhn1 : hb.n ≤ 1099511627776 := by rw [hhn]; omega
  have hbk := bk_keep HPL2.out.book hc3 (fun g e f => by
    obtain ⟨cur, hcur⟩ := Bk.own_blk HPL2.out.book.book e
    obtain ⟨cur2, hcur2⟩ := owns_blk HLO.out.own f
    exact ty_ne hcur hcur2 (by decide)) (fun i a hi g e f => HLO.out.rows i a hi g e f)
  have hal := fun o => hbk.book.alloc o
  rw [show hs.length = M from HM.out] at hal
  have hsz4 : w0.heap.size ≤ w8.heap.size := Nat.le_trans HPL2.out.chg.size hc3.size
  have HM3 : Hid (Moved w2 (.slice oa K oc) hb.v) := hm3
  have HC3 : Hid (Chg (fun b => (Value.slice oa K oc).ownBlock = some b) w2 w8) := hc3
  have HROW : Hid (Bk.Row w0.heap.size w8 hb) := hrow
  have HOK : Hid (hb.ok ∧ hb.n ≤ 1099511627776) := ⟨hok, hhn1⟩
  clear hva hok hhn hrow hc3 hm3 hhn1 HHOLD hbk
  obtain ⟨j0, hj, hj0, hj1, hj2⟩ := info_parts Bk.infoHeld
  go_wp2_with (at_builtin; refine wpList_append_moved rfl _ _ 49 rfl w0.heap.size 68 j0 (.agg #[.slice none 0 0, .int .i64 0, .int .u8 0, .string ⟨#[]⟩, .bool false]) 5 64 Try.underlying49 hj hj0 hj1 hj2 rfl (by decide) _ M (Bk.hcells hs) rfl (some ⟨w8.heap.size, 0, none⟩) 1 1 rfl [.slice vab hb.ys.length vcb, .int .i64 hb.n, .int .u8 hb.mark, .string hb.want, .bool hb.kept] (hal _) (Bk.from_held _ w8.heap.size rfl _ _ _ _ _) (Bk.held_one _ _ _ _ _ _ _ _ rfl) (by unfold maxLen; omega) (by omega) (Nat.le_trans hsz4 (by rw [World.size_alloc]; omega)) ?_)
  intro lvb w9 hown4 hg4 hm4
  rw [← HCE.out] at hown4
  have HPL9 : Hid (Pl Win w0 w9 lv (its.set i ⟨a, r, v1, y2, n, bs ++ X⟩) lvb (hs ++ [hb])) := (HPL2.out.hold S HLO.out HC3.out HM3.out HROW.out HOK.out.1 HOK.out.2 (by rw [show hs.length = M from HM.out]; exact hown4) hg4).1
  clear hown4 hg4 hm4 hal hsz4 HCE HM3 HC3 HROW HOK hj hj0 hj1 hj2 j0 HPL2 HLO HPL
  go_wp2
  go_ret2
  exact ⟨lvb, _, hb, rfl, HPL9.out, by show (bs ++ X).length ≤ _; rw [List.length_append]; have := HXL.out; omega⟩
end Go.Proofs.Ythgibmhbgfjkcaa
