/- The walk through RcencPlays; of no statement by itself. -/
import Derived.Test.YthhjllhcgdkjnaaPlH
import Derived.Test.YthhjllhcgdkjnaaLastG
import Derived.Deep.DeepCutAuto
namespace Go.Proofs.Ythhjllhcgdkjnaa
open Go.RowKit
set_option linter.unusedVariables false
set_option linter.unusedSimpArgs false

def Ops (w : World) (a : Option Addr) (n : Nat) : Prop := ∀ k, k < n → ∃ b off, a = some ⟨b, off, none⟩ ∧ ∃ (kd E S I Bt : Int) (X : Nat) (N : Int), w.cell? ⟨b, off + k * 7, none⟩ = some (.int .i64 kd) ∧ w.cell? ⟨b, off + k * 7 + 1, none⟩ = some (.int .i64 E) ∧ w.cell? ⟨b, off + k * 7 + 2, none⟩ = some (.int .i64 S) ∧ w.cell? ⟨b, off + k * 7 + 3, none⟩ = some (.int .i64 I) ∧ w.cell? ⟨b, off + k * 7 + 4, none⟩ = some (.int .i64 Bt) ∧ w.cell? ⟨b, off + k * 7 + 5, none⟩ = some (.int .u32 (X : Int)) ∧ w.cell? ⟨b, off + k * 7 + 6, none⟩ = some (.int .i64 N) ∧ X ≤ 4294967295
theorem Ops.new {w w' : World} {a : Option Addr} {n : Nat} (h : Ops w a n) (hc : Chg (fun _ => False) w w') : Ops w' a n := fun k hk => by
  obtain ⟨b, off, e, kd, E, S, I, Bt, X, N, h0, h1, h2, h3, h4, h5, h6, hX⟩ := h k hk
  exact ⟨b, off, e, kd, E, S, I, Bt, X, N, cell_chg h0 hc, cell_chg h1 hc, cell_chg h2 hc, cell_chg h3 hc, cell_chg h4 hc, cell_chg h5 hc, cell_chg h6 hc, hX⟩

theorem cell_keep {w w' : World} {S : Nat → Prop} {p : Addr} {v : Value} (h : w.cell? p = some v) (hc : Chg S w w') (hS : ¬ S p.block) : w'.cell? p = some v := by
  rw [World.cell?_of_block (w := w) (hc.block _ (World.block_lt_of_cell? w _ h) hS)]
  exact h
def SBOX (T : Sv) : Obj := .cells #[.pointer (some ⟨T.s 0, 0, none⟩), .pointer (some ⟨T.s 1, 0, none⟩), .pointer (some ⟨T.q 0, 0, none⟩), .pointer (some ⟨T.q 1, 0, none⟩)] 55 (0, 0)

/-- A pair that was just made. -/
structure NewPair (W w : World) (x : It) : Prop where
  good : Good w W.heap.size x
theorem newpair {W w1 w2 : World} {a r : Nat} {v y : Value} {e : Rc.E} (c1 : Chg (fun _ => False) W w1) (c2 : Chg (fun _ => False) w1 w2) (hE : Enc w1 W.heap.size a v e) (hR : Re w2 w1.heap.size r y (Rc.by_ e) e.R e.k) (ok : Rc.Ok e) : NewPair W w2 ⟨a, r, v, y, e⟩ :=
  ⟨⟨hE.new c2, ⟨Nat.le_trans c1.size hR.hr, hR.blk, owns_base hR.own c1.size, hR.dig⟩, ok, fun z f g => by
    have h1 := (hE.foot_lt f).2
    have h2 := (hR.foot_lt g).1
    omega⟩⟩
theorem Good.base {w : World} {B B' : Nat} {x : It} (h : Good w B x) (hB : B' ≤ B) : Good w B' x := by
  obtain ⟨l, hl, hI⟩ := h.en
  exact ⟨⟨l, ⟨Nat.le_trans hB hl.hr, hl.blk, owns_base hl.own hB⟩, hI⟩, ⟨Nat.le_trans hB h.re.hr, h.re.blk, owns_base h.re.own hB, h.re.dig⟩, h.ok, h.dis⟩
theorem Pl.first {w0 W w : World} {b : Nat} {x : It} (h0 : Chg (fun _ => False) w0 W) (hc : Chg (fun _ => False) W w) (hS : ∃ S, SetsOk w w0.heap.size b S) (hx : NewPair W w x) : Pl w0 (w.alloc (.cells #[.pointer (some ⟨x.a, 0, none⟩), .pointer (some ⟨x.r, 0, none⟩)] 61)) b (.slice (some ⟨w.heap.size, 0, none⟩) 1 1) [x] (.slice none 0 0) [] := by
  have c1 := chg_one w (.cells #[.pointer (some ⟨x.a, 0, none⟩), .pointer (some ⟨x.r, 0, none⟩)] 61)
  have hw : w0.heap.size ≤ w.heap.size := Nat.le_trans h0.size hc.size
  obtain ⟨S, hS⟩ := hS
  refine ⟨chg_then (chg_then h0 hc) c1, ⟨S, hS.new c1⟩, ⟨rfl, .inr ⟨w.heap.size, 1, _, rfl, hw, heap_alloc_last w _, Nat.le_refl _, by unfold maxLen; omega, rfl, rfl⟩⟩, fun i hi => ?_, fun i j hi hj hij => by simp at hi hj; omega, by simp, by simp, Bk.Bk.nil _ _, fun i hi j a hj => by simp at hj⟩
  have : i = 0 := by simp at hi; omega
  subst this
  exact (hx.good.base h0.size).new c1
/-- The probability. -/
def p_ (T : Sv) (c i : Nat) : Int := (T.x c).getD i 0
theorem p_at {T : Sv} {c i : Nat} (h : i < (T.x c).length) : p_ T c i = (T.x c)[i] := by simp [p_, List.getD, h]
/-- A bit under way: before, behind the program's, behind both. -/
def BitJ (B : Nat) (W : World) (x : It) (T : Sv) (c i : Nat) (Bt : Int) : Nat → World → Prop
  | 0, w => Chg (fun _ => False) W w
  | 1, w => ∃ v2, Enc w B x.a v2 (coded x.e (p_ T c i) Bt) ∧ St w B (T.s c) (T.u c) ((T.x c).set i (Prob.nx (p_ T c i) Bt)) ∧ Re w B x.r x.y (Rc.by_ x.e) x.e.R x.e.k ∧ Rt w B (T.q c) ((T.x c).length : Int) (T.t c) (T.x c) ∧ Chg (fun z => Foot x.a x.v z ∨ (T.u c).ownBlock = some z) W w ∧ Moved W x.v v2
  | _, w => ∃ w1 v2 y3, Enc w1 B x.a v2 (coded x.e (p_ T c i) Bt) ∧ St w B (T.s c) (T.u c) ((T.x c).set i (Prob.nx (p_ T c i) Bt)) ∧ Chg (fun z => Foot x.a x.v z ∨ (T.u c).ownBlock = some z) W w1 ∧ Moved W x.v v2 ∧ Re w B x.r y3 (Rc.by_ (coded x.e (p_ T c i) Bt)) (coded x.e (p_ T c i) Bt).R (coded x.e (p_ T c i) Bt).k ∧ Rt w B (T.q c) ((T.x c).length : Int) (T.t c) ((T.x c).set i (Prob.nx (p_ T c i) Bt)) ∧ Chg (fun z => Foot x.r x.y z ∨ (T.t c).ownBlock = some z) w1 w ∧ Moved w1 x.y y3
def DirJ (B : Nat) (W : World) (x : It) (X i : Nat) : Nat → World → Prop
  | 0, w => Chg (fun _ => False) W w
  | 1, w => ∃ v2, Enc w B x.a v2 (direct X i x.e) ∧ Re w B x.r x.y (Rc.by_ x.e) x.e.R x.e.k ∧ Chg (Foot x.a x.v) W w ∧ Moved W x.v v2
  | _, w => ∃ w1 v2 y3, Enc w1 B x.a v2 (direct X i x.e) ∧ Chg (Foot x.a x.v) W w1 ∧ Moved W x.v v2 ∧ Re w B x.r y3 (Rc.by_ (direct X i x.e)) (direct X i x.e).R (direct X i x.e).k ∧ Chg (Foot x.r x.y) w1 w ∧ Moved w1 x.y y3
/-- A fork of a pair under way. -/
def ForkJ (W : World) (x : It) (y z v : Value) : Nat → World → Prop
  | 0, w => True
  | 1, w => ∃ a2 v2, y = .pointer (some ⟨a2, 0, none⟩) ∧ Enc w W.heap.size a2 v2 x.e
  | 2, w => ∃ a2 r2 v2 y2, y = .pointer (some ⟨a2, 0, none⟩) ∧ z = .pointer (some ⟨r2, 0, none⟩) ∧ NewPair W w ⟨a2, r2, v2, y2, x.e⟩
  | _, w => ∃ a2 r2 v2 y2, v = .agg #[.pointer (some ⟨a2, 0, none⟩), .pointer (some ⟨r2, 0, none⟩)] ∧ NewPair W w ⟨a2, r2, v2, y2, x.e⟩
theorem forkj_new {W : World} {x : It} {y z v : Value} : ∀ {q : Nat} {w w' : World}, ForkJ W x y z v q w → Chg (fun _ => False) w w' → ForkJ W x y z v q w'
  | 0, _, _, _, _ => trivial
  | 1, _, _, ⟨a2, v2, e, h⟩, hc => ⟨a2, v2, e, h.new hc⟩
  | 2, _, _, ⟨a2, r2, v2, y2, e1, e2, h⟩, hc => ⟨a2, r2, v2, y2, e1, e2, ⟨h.good.new hc⟩⟩
  | _ + 3, _, _, ⟨a2, r2, v2, y2, e, h⟩, hc => ⟨a2, r2, v2, y2, e, ⟨h.good.new hc⟩⟩
theorem enc_base {w : World} {B B' a : Nat} {v : Value} {e : Rc.E} (h : Enc w B a v e) (hB : B' ≤ B) : Enc w B' a v e := by
  obtain ⟨l, hl, hI⟩ := h
  exact ⟨l, ⟨Nat.le_trans hB hl.hr, hl.blk, owns_base hl.own hB⟩, hI⟩
theorem kpush {its : List It} {b : Nat} {x : It} (h : ∀ i (h : i < its.length), its[i].e.k ≤ b) (hx : x.e.k ≤ b) : ∀ i (h : i < (its ++ [x]).length), ((its ++ [x])[i]).e.k ≤ b := fun i hi => by
  by_cases e : i < its.length
  · rw [List.getElem_append_left e]
    exact h i e
  · have : i = its.length := by simp at hi; omega
    subst this
    simp only [List.getElem_concat_length]
    exact hx
theorem kmore {its : List It} {a b : Nat} (h : ∀ i (h : i < its.length), its[i].e.k ≤ a) (hab : a ≤ b) : ∀ i (h : i < its.length), its[i].e.k ≤ b := fun i hi => Nat.le_trans (h i hi) hab
theorem kset {its : List It} {a b j : Nat} {x : It} (h : ∀ i (h : i < its.length), its[i].e.k ≤ a) (hj : j < its.length) (hx : x.e.k ≤ b) (hab : a ≤ b) : ∀ i (h : i < (its.set j x).length), ((its.set j x)[i]).e.k ≤ b := fun i hi => by
  by_cases e : j = i
  · subst e
    simp only [List.getElem_set_self]
    exact hx
  · rw [List.getElem_set_ne e]
    exact Nat.le_trans (h i (by simpa using hi)) hab
theorem book_form {w : World} {B : Nat} {lv : Value} {n : Nat} {xs : List Value} (h : w.ownsRow B 69 5 lv n xs) : ∃ a c, lv = .slice a n c := by
  rcases h.2 with ⟨rfl, rfl⟩ | ⟨g, cap, cur, rfl, _⟩
  · exact ⟨none, 0, rfl⟩
  · exact ⟨_, cap, rfl⟩

set_option maxHeartbeats 40000000 in
set_option maxRecDepth 100000 in
theorem plays_any (f1 f2 : Int) (av : Option Addr) (n cv : Nat) (w0 : World) (hV : Ops w0 av n) (hn : n ≤ 1048576) : Calls Try.prog 7 #[.int .i64 f1, .int .i64 f2, .slice av n cv] w0 fun e w' => e = .returned (.bool true) ∧ Chg (fun _ => False) w0 w' := by
  have HV : Hid (Ops w0 av n) := hV
  clear hV
  go_enter Try.func7, Try.ntmps7
  go_wp2_with fail
  refine (sets_any f1 f2 _).mono ?_
  rintro x w1 ⟨T, rfl, hT0, hT1, hdu, hdt, c1⟩
  have cB := chg_one w1 (SBOX T)
  have HT : Hid (SetsOk (w1.alloc (SBOX T)) w0.heap.size w1.heap.size T) := ⟨heap_alloc_last w1 _, hT0.far cB (fun _ f => f.elim), hT1.far cB (fun _ f => f.elim), hdu, hdt⟩
  have HC1 : Hid (Chg (fun _ => False) w0 (w1.alloc (SBOX T))) := chg_then c1 cB
  clear hT0 hT1 hdu hdt c1 cB
  go_upto_region 2 with fail
  have eSB : Obj.cells #[.pointer (some ⟨T.s 0, 0, none⟩), .pointer (some ⟨T.s 1, 0, none⟩), .pointer (some ⟨T.q 0, 0, none⟩), .pointer (some ⟨T.q 1, 0, none⟩)] 55 = SBOX T := rfl
  rw [eSB]
  clear eSB
  generalize w1.alloc (SBOX T) = W1 at *
  generalize w1.heap.size = sb_ at *
  go_wp2_with fail
  refine (rcnew_any _).mono ?_
  rintro x w2 ⟨a, rfl, ha, hE2, c2⟩
  have HE2 : Hid (Enc w2 W1.heap.size a (.slice none 0 0) Rc.start) := ⟨_, hE2, Rc.begin_is⟩
  have HC2 : Hid (Chg (fun _ => False) W1 w2) := c2
  clear hE2 c2
  go_wp2_with fail
  refine (renew_any _).mono ?_
  rintro x w3 ⟨r, y, rfl, hr, hR3, c3⟩
  have eby : Rc.by_ Rc.start = List.replicate 5 0 := by decide +kernel
  rw [← eby] at hR3
  have HP0 : Hid (NewPair W1 w3 ⟨a, r, .slice none 0 0, y, Rc.start⟩) := newpair HC2.out c3 HE2.out hR3 Rc.start_ok
  clear eby
  have HT3 : Hid (SetsOk w3 w0.heap.size sb_ T) := HT.out.new (chg_then HC2.out c3)
  have HC3 : Hid (Chg (fun _ => False) W1 w3) := chg_then HC2.out c3
  clear hR3 c3 HE2 HC2
  go_upto_region 3 with fail
  have HPL0 : Hid (Pl w0 (w3.alloc (.cells #[.pointer (some ⟨a, 0, none⟩), .pointer (some ⟨r, 0, none⟩)] 61)) sb_ (.slice (some ⟨w3.heap.size, 0, none⟩) 1 1) [⟨a, r, .slice none 0 0, y, Rc.start⟩] (.slice none 0 0) []) := Pl.first HC1.out HC3.out ⟨T, HT3.out⟩ HP0.out
  have g0 : (w3.alloc (.cells #[.pointer (some ⟨a, 0, none⟩), .pointer (some ⟨r, 0, none⟩)] 61)).cell? ⟨w3.heap.size, 0, none⟩ = some (.pointer (some ⟨a, 0, none⟩)) := cell0 (heap_alloc_last w3 _)
  clear HP0 HT3 HC3 HT HC1
  generalize w3.alloc (.cells #[.pointer (some ⟨a, 0, none⟩), .pointer (some ⟨r, 0, none⟩)] 61) = W3 at *
  generalize w3.heap.size = G0 at *
  go_wp2_with fail
  clear g0
  go_loopw [9, 10, 42] (fun lv bv iv wr => ∃ (k : Nat) (its : List It) (hs : List Bk.Hd), k ≤ n ∧ iv = .int .i64 (k : Int) ∧ Hid (Pl w0 wr sb_ lv its bv hs) ∧ Hid (∀ i (h : i < its.length), its[i].e.k ≤ 32 * k) ∧ Hid (hs.length ≤ 2 * k)) (fun _ _ iv _ => n - (intOf iv).toNat)
  case atStart => exact ⟨0, _, [], Nat.zero_le _, rfl, HPL0.out, fun i hi => by simp at hi; subst hi; exact Nat.le_refl _, Nat.le_refl _⟩
  case round =>
    clear HPL0
    obtain ⟨k, its, hs, hk, rfl, HPL, HKI, HHL⟩ := hrel
    by_cases hlt : k < n
    · obtain ⟨b, off, ea, kd, E, S, I, Bt, X, N, h0, h1, h2, h3, h4, h5, h6, hX⟩ := (HV.out.new HPL.out.chg) k hlt
      subst ea
      have HX4 : Hid (X ≤ 4294967295) := hX
      have cB := chg_one wr (.cells #[.int .i64 kd, .int .i64 E, .int .i64 S, .int .i64 I, .int .i64 Bt, .int .u32 (X : Int), .int .i64 N] 65)
      have HPL1 : Hid (Pl w0 (wr.alloc (.cells #[.int .i64 kd, .int .i64 E, .int .i64 S, .int .i64 I, .int .i64 Bt, .int .u32 (X : Int), .int .i64 N] 65)) sb_ u9 its u10 hs) := HPL.out.new cB
      have HBO1 : Hid ((wr.alloc (.cells #[.int .i64 kd, .int .i64 E, .int .i64 S, .int .i64 I, .int .i64 Bt, .int .u32 (X : Int), .int .i64 N] 65)).heap[wr.heap.size]? = some (.cells #[.int .i64 kd, .int .i64 E, .int .i64 S, .int .i64 I, .int .i64 Bt, .int .u32 (X : Int), .int .i64 N] 65 (0, 0))) := heap_alloc_last wr _
      clear cB hX HPL
      go_upto_region 9 with fail
      clear h0 h1 h2 h3 h4 h5 h6
      generalize wr.alloc (.cells #[.int .i64 kd, .int .i64 E, .int .i64 S, .int .i64 I, .int .i64 Bt, .int .u32 (X : Int), .int .i64 N] 65) = w1 at *
      generalize wr.heap.size = O at *
      have o1 := (cells7 HBO1.out).2.1
      obtain ⟨g, lcap, hlv, hlc, hcl⟩ := HPL1.out.at
      obtain ⟨L, hL⟩ : ∃ L, its.length = L := ⟨_, rfl⟩
      have HL : Hid (its.length = L) := hL
      have hL1 : 0 < L := by rw [← hL]; exact HPL1.out.pos
      have hL5 : L ≤ 5 := by rw [← hL]; exact HPL1.out.most
      rw [hL] at hlv
      subst hlv
      obtain ⟨bv, hbv⟩ : ∃ bv, bv = u10 := ⟨_, rfl⟩
      rw [← hbv] at HPL1 ⊢
      clear hbv
      obtain ⟨j, hj, hjw⟩ := which E L hL1 (by omega)
      have HJL : Hid (j < its.length) := by show j < _; rw [hL]; exact hj
      have HJW : Hid _ := hjw
      have HCl : Hid _ := hcl j HJL.out
      have hlc2 : L ≤ lcap := by rw [← hL]; exact hlc
      obtain ⟨x, hx⟩ : ∃ x, its[j]'HJL.out = x := ⟨_, rfl⟩
      have HXJ : Hid (its[j]'HJL.out = x) := hx
      clear hjw hcl hL hlc hx
      go_upto_if 52 with fail
      go_cut [13] (fun s13 wx => s13 = .int .i64 (j : Nat) ∧ w1 = wx)
      case first =>
        have hjw := HJW.out
        clear HJW
        rcases hjw with ⟨q1, q2⟩ | ⟨q1, q2⟩
        · go_wp2_with fail
          go_meet
          case rel => exact ⟨by first | rfl | rw [q2], rfl⟩
        · go_wp2_with fail
          go_meet
          case rel => exact ⟨by first | rfl | rw [q2], rfl⟩
      case rest =>
        obtain ⟨rfl, rfl⟩ := hcut
        clear HJW o1
        have q0 := HCl.out.1
        have q1 := HCl.out.2
        rw [HXJ.out] at q0 q1
        have c2 := chg_one w1 (.cells #[.pointer (some ⟨x.a, 0, none⟩), .pointer (some ⟨x.r, 0, none⟩)] 61)
        have HPL : Hid (Pl w0 (w1.alloc (.cells #[.pointer (some ⟨x.a, 0, none⟩), .pointer (some ⟨x.r, 0, none⟩)] 61)) sb_ (.slice (some ⟨g, 0, none⟩) L lcap) its bv hs) := HPL1.out.new c2
        have HBO' : Hid ((w1.alloc (.cells #[.pointer (some ⟨x.a, 0, none⟩), .pointer (some ⟨x.r, 0, none⟩)] 61)).heap[O]? = some (.cells #[.int .i64 kd, .int .i64 E, .int .i64 S, .int .i64 I, .int .i64 Bt, .int .u32 (X : Int), .int .i64 N] 65 (0, 0))) := blk_keep HBO1.out c2 (fun f => f)
        have HBP : Hid ((w1.alloc (.cells #[.pointer (some ⟨x.a, 0, none⟩), .pointer (some ⟨x.r, 0, none⟩)] 61)).heap[w1.heap.size]? = some (.cells #[.pointer (some ⟨x.a, 0, none⟩), .pointer (some ⟨x.r, 0, none⟩)] 61 (0, 0))) := heap_alloc_last w1 _
        clear c2 HPL1 HBO1
        go_upto_region 13 with fail
        clear q0 q1 HCl
        generalize w1.alloc (.cells #[.pointer (some ⟨x.a, 0, none⟩), .pointer (some ⟨x.r, 0, none⟩)] 61) = W at *
        generalize w1.heap.size = P at *
        have HG : Hid (Good W w0.heap.size x) := by have := HPL.out.good j HJL.out; rw [HXJ.out] at this; exact this
        have o0 := (cells7 HBO'.out).1
        have o2 := (cells7 HBO'.out).2.2.1
        by_cases k1 : kd = 1
        · have HBO : Hid (W.heap[O]? = some (.cells #[.int .i64 1, .int .i64 E, .int .i64 S, .int .i64 I, .int .i64 Bt, .int .u32 (X : Int), .int .i64 N] 65 (0, 0))) := by rw [k1] at HBO'; exact HBO'
          clear HBO'
          subst k1
          obtain ⟨c, hc2, hand⟩ := and1 S
          obtain ⟨T, hT⟩ := HPL.out.sets
          obtain ⟨hSO, hcs, hcq⟩ := hT.at c hc2
          have HSO : Hid (SetOk W w0.heap.size T c) := hSO
          have HT : Hid (SetsOk W w0.heap.size sb_ T) := hT
          have HTB : Hid (W.heap[sb_]? = some (SBOX T)) := hT.box
          have hc2i : (c : Int) < 2 := by omega
          have HK31 : Hid (x.e.k ≤ 32 * k) := by have := HKI.out j HJL.out; rw [HXJ.out] at this; exact this
          have HSZW : Hid (w0.heap.size ≤ W.heap.size) := HPL.out.chg.size
          clear hSO hT
          by_cases hin : 0 ≤ I ∧ I < ((T.x c).length : Int)
          · obtain ⟨i, hi⟩ : ∃ i : Nat, I = (i : Int) := ⟨I.toNat, by omega⟩
            have HIX : Hid (i < (T.x c).length) := by show i < _; omega
            have HI : Hid (I = (i : Int)) := hi
            have HKK : Hid (x.e.k + 1 ≤ 140737488355328) := by have := HK31.out; show x.e.k + 1 ≤ _; omega
            have HKR : Hid (x.e.k ≤ 70368744177664) := by have := HK31.out; show x.e.k ≤ _; omega
            have HSBX : Hid (∀ w w3, Chg (fun z => Foot x.a x.v z ∨ (T.u c).ownBlock = some z) W w → Chg (fun z => Foot x.r x.y z ∨ (T.t c).ownBlock = some z) w w3 → w.cell? ⟨sb_, c, none⟩ = some (.pointer (some ⟨T.s c, 0, none⟩)) → w.cell? ⟨sb_, 2 + c, none⟩ = some (.pointer (some ⟨T.q c, 0, none⟩)) → w3.cell? ⟨sb_, c, none⟩ = some (.pointer (some ⟨T.s c, 0, none⟩)) ∧ w3.cell? ⟨sb_, 2 + c, none⟩ = some (.pointer (some ⟨T.q c, 0, none⟩))) := fun w w3 c2 c3 a1 a2 => by
              have hms : ¬ (Foot x.r x.y sb_ ∨ (T.t c).ownBlock = some sb_) := fun f => by
                rcases f with f | f
                · exact HG.out.miss HTB.out (by decide) (by decide) (by decide) (.inr f)
                · obtain ⟨cur, hcur⟩ := owns_blk HSO.out.rt.own f
                  exact ty_ne hcur HTB.out (by decide)
              exact ⟨cell_keep a1 c3 hms, cell_keep a2 c3 hms⟩
            clear hin hi
            go_wp2_with fail
            refine wp_region_phase (mk := fun u => #[_, _, _, _, _, _, _, _, _, _, _, _, _, _, _, _, _, _, _, _, _, _, _, _, _, _, _, _, _, _, _, _, _, _, _, _, _, _, _, _, _, _, _, _, _, _, _, _, _, _, _, _, _, _, _, _, _, _, _, _, _, _, _, _, _, _, _, _, u 68, u 69, u 70, u 71, u 72, u 73, u 74, u 75, u 76, u 77, u 78, u 79, u 80, u 81, u 82, u 83, u 84, u 85, u 86, u 87, u 88, u 89, _, _, _, _, _, _, _, _, _, _, _, _, _, _, _, _, _, _, _, _, _, _, _, _, _, _, _, _, _, _, _, _, _, _, _, _, _, _, _, _, _, _, _, _, _, _, _, _, _, _, _, _, _, _, _, _, _, _, _, _, _, _, _, _, _, _, _, _, _, _, _, _, _, _, _, _, _, _, _, _, _, _, _, _, _, _, _, _, _, _, _, _, _, _, _, _, _, _, _, _, _, _, _, _, _, _, _, _, _, _, _, _, _, _, _, _, _, _, _, _, _]) (G := lookG [(68, .pointer (some ⟨P, 0, none⟩)), (69, .pointer (some ⟨x.a, 0, none⟩)), (70, .int .i64 (c : Int)), (71, .pointer (some ⟨sb_, 0, none⟩)), (72, .pointer (some ⟨sb_, c, none⟩)), (73, .pointer (some ⟨T.s c, 0, none⟩)), (74, .pointer (some ⟨O, 3, none⟩)), (75, .int .i64 I), (76, .pointer (some ⟨O, 4, none⟩)), (77, .int .i64 Bt), (78, .int .i64 0), (79, .pointer (some ⟨P, 1, none⟩)), (80, .pointer (some ⟨x.r, 0, none⟩)), (81, .int .i64 (c : Int)), (82, .pointer (some ⟨sb_, 2, none⟩)), (83, .pointer (some ⟨sb_, 2 + c, none⟩)), (84, .pointer (some ⟨T.q c, 0, none⟩)), (85, .pointer (some ⟨O, 3, none⟩)), (86, .int .i64 I), (87, .pointer (some ⟨O, 4, none⟩)), (88, .int .i64 Bt), (89, .int .i64 0)]) (J := fun q _ w => (w.heap[O]? = some (.cells #[.int .i64 1, .int .i64 E, .int .i64 S, .int .i64 I, .int .i64 Bt, .int .u32 (X : Int), .int .i64 N] 65 (0, 0)) ∧ w.heap[P]? = some (.cells #[.pointer (some ⟨x.a, 0, none⟩), .pointer (some ⟨x.r, 0, none⟩)] 61 (0, 0))) ∧ (w.cell? ⟨sb_, c, none⟩ = some (.pointer (some ⟨T.s c, 0, none⟩)) ∧ w.cell? ⟨sb_, 2 + c, none⟩ = some (.pointer (some ⟨T.q c, 0, none⟩))) ∧ BitJ w0.heap.size W x T c i Bt q w) [10, 21] (fun slot => match slot with | 68 => u68 | 69 => u69 | 70 => u70 | 71 => u71 | 72 => u72 | 73 => u73 | 74 => u74 | 75 => u75 | 76 => u76 | 77 => u77 | 78 => u78 | 79 => u79 | 80 => u80 | 81 => u81 | 82 => u82 | 83 => u83 | 84 => u84 | 85 => u85 | 86 => u86 | 87 => u87 | 88 => u88 | 89 => u89 | _ => undef) rfl (by kernel_rfl) 22 _ rfl rfl (by kernel_rfl) (by kernel_rfl) (by kernel_rfl) (by decide) ?_ ?_ ?_ ?_ ?_
            · repeat (refine ⟨⟨_, rfl, fun _ _ => rfl⟩, ?_⟩)
              exact trivial
            · exact fun q u u2 w _ h => h
            · exact ⟨⟨blk_keep HBO.out (Chg.refl (fun _ => False) W).drew (fun f => f), blk_keep HBP.out (Chg.refl (fun _ => False) W).drew (fun f => f)⟩, ⟨cell_chg hcs (Chg.refl _ W).drew, cell_chg hcq (Chg.refl _ W).drew⟩, (Chg.refl _ W).drew⟩
            · refine ⟨?_, ?_, ?_, ?_, ?_, ?_, ?_, ?_, ?_, ?_, ?_, ?_, ?_, ?_, ?_, ?_, ?_, ?_, ?_, ?_, ?_, ?_, trivial⟩
              · show StepR _ _ _ _ _ _  _ -- 68
                unfold StepR
                intro q u w hj hd K hK
                clear hd
                go_simp
                exact hK.out (.pointer (some ⟨P, 0, none⟩)) rfl
              · show StepR _ _ _ _ _ _  _ -- 69
                unfold StepR
                intro q u w hj hd K hK
                have h68 : u 68 = .pointer (some ⟨P, 0, none⟩) := hd.get 0 (by kernel_rfl)
                clear hd
                simp only [h68] at hK
                have hcell := cell0 hj.1.2
                go_simp
                exact hK.out _ rfl
              · show StepR _ _ _ _ _ _  _ -- 70
                unfold StepR
                intro q u w hj hd K hK
                clear hd
                go_simp
                exact hK.out (.int .i64 (c : Int)) rfl
              · show StepR _ _ _ _ _ _  _ -- 71
                unfold StepR
                intro q u w hj hd K hK
                clear hd
                go_simp
                exact hK.out (.pointer (some ⟨sb_, 0, none⟩)) rfl
              · show StepR _ _ _ _ _ _  _ -- 72
                unfold StepR
                intro q u w hj hd K hK
                have h71 : u 71 = .pointer (some ⟨sb_, 0, none⟩) := hd.get 3 (by kernel_rfl)
                have h70 : u 70 = .int .i64 (c : Int) := hd.get 2 (by kernel_rfl)
                clear hd
                simp only [h71, h70] at hK
                go_simp
                first | exact hK.out (.pointer (some ⟨sb_, c, none⟩)) rfl | (rw [if_pos hc2i]; go_simp; exact hK.out (.pointer (some ⟨sb_, c, none⟩)) rfl)
              · show StepR _ _ _ _ _ _  _ -- 73
                unfold StepR
                intro q u w hj hd K hK
                have h72 : u 72 = .pointer (some ⟨sb_, c, none⟩) := hd.get 4 (by kernel_rfl)
                clear hd
                simp only [h72] at hK
                have hcell := hj.2.1.1
                go_simp
                exact hK.out _ rfl
              · show StepR _ _ _ _ _ _  _ -- 74
                unfold StepR
                intro q u w hj hd K hK
                clear hd
                go_simp
                exact hK.out (.pointer (some ⟨O, 3, none⟩)) rfl
              · show StepR _ _ _ _ _ _  _ -- 75
                unfold StepR
                intro q u w hj hd K hK
                have h74 : u 74 = .pointer (some ⟨O, 3, none⟩) := hd.get 6 (by kernel_rfl)
                clear hd
                simp only [h74] at hK
                have hcell := (cells7 hj.1.1).2.2.2.1
                go_simp
                exact hK.out _ rfl
              · show StepR _ _ _ _ _ _  _ -- 76
                unfold StepR
                intro q u w hj hd K hK
                clear hd
                go_simp
                exact hK.out (.pointer (some ⟨O, 4, none⟩)) rfl
              · show StepR _ _ _ _ _ _  _ -- 77
                unfold StepR
                intro q u w hj hd K hK
                have h76 : u 76 = .pointer (some ⟨O, 4, none⟩) := hd.get 8 (by kernel_rfl)
                clear hd
                simp only [h76] at hK
                have hcell := (cells7 hj.1.1).2.2.2.2.1
                go_simp
                exact hK.out _ rfl
              · show StepW _ _ _ _ _ _ 0 _ -- 78
                unfold StepW
                intro u w hj hd K hK
                have h69 : u 69 = .pointer (some ⟨x.a, 0, none⟩) := hd.get 1 (by kernel_rfl)
                have h73 : u 73 = .pointer (some ⟨T.s c, 0, none⟩) := hd.get 5 (by kernel_rfl)
                have h75 : u 75 = .int .i64 I := hd.get 7 (by kernel_rfl)
                have h77 : u 77 = .int .i64 Bt := hd.get 9 (by kernel_rfl)
                clear hd
                simp only [h69, h73, h75, h77] at hK
                obtain ⟨⟨hbo, hbp⟩, ⟨hbs, hbq⟩, hc⟩ := hj
                go_simp
                go_at_call 17
                have hG := HG.out.new hc
                have hSt := HSO.out.far hc (fun _ f => f.elim)
                have hcon := bit_in w0.heap.size w0.heap.size x.a (T.s c) (T.u c) x.v (T.x c) i Bt x.e w hSt.st hSt.inn HIX.out hG.en hG.ok HKK.out (Nat.le_trans HPL.out.chg.size hc.size)
                rw [← HI.out] at hcon
                refine hcon.mono ?_
                rintro z w2 ⟨rfl, v2, hE2, hS2, c2, m2⟩
                rw [← p_at HIX.out] at hE2 hS2
                have T1 : ∀ z, (Foot x.a x.v z ∨ (T.u c).ownBlock = some z) → Foot x.a x.v z ∨ ∃ cs t, w.heap[z]? = some (.cells cs t (0, 0)) ∧ (t = 85 ∨ t = 3) := fun z f => by
                  rcases f with f | f
                  · exact .inl f
                  · obtain ⟨cur, hcur⟩ := owns_blk hSt.st.own f
                    exact .inr ⟨_, _, hcur, .inl rfl⟩
                have ms : ∀ {g cs t}, w.heap[g]? = some (.cells cs t (0, 0)) → t ≠ 77 → t ≠ 5 → t ≠ 85 → ¬ (Foot x.a x.v g ∨ (T.u c).ownBlock = some g) := fun hb h1 h2 h3 f => by
                  obtain ⟨l, hl, _⟩ := hG.en
                  rcases f with f | f
                  · rcases f with f | f
                    · rw [f] at hb
                      exact ty_ne hb hl.blk h1
                    · obtain ⟨cur, hcur⟩ := owns_blk hl.own f
                      exact ty_ne hb hcur h2
                  · obtain ⟨cur, hcur⟩ := owns_blk hSt.st.own f
                    exact ty_ne hb hcur h3
                have hbx : w.heap[sb_]? = some (SBOX T) := blk_keep HTB.out hc (fun f => f)
                exact hK.out _ w2 ⟨⟨blk_keep hbo c2 (ms hbo (by decide) (by decide) (by decide)), blk_keep hbp c2 (ms hbp (by decide) (by decide) (by decide))⟩, ⟨cell_keep hbs c2 (ms hbx (by decide) (by decide) (by decide)), cell_keep hbq c2 (ms hbx (by decide) (by decide) (by decide))⟩, v2, hE2, hS2, hG.half c2 T1, hSt.rt.keep c2 (ms hSt.rt.blk (by decide) (by decide) (by decide)) (fun g e => by obtain ⟨cur, hcur⟩ := owns_blk hSt.rt.own e; exact ms hcur (by decide) (by decide) (by decide)), (hc.mono (fun _ f => f.elim)).trans c2 (fun _ e => .inl e), moved_from hc.size m2⟩ rfl
              · show StepR _ _ _ _ _ _  _ -- 79
                unfold StepR
                intro q u w hj hd K hK
                clear hd
                go_simp
                exact hK.out (.pointer (some ⟨P, 1, none⟩)) rfl
              · show StepR _ _ _ _ _ _  _ -- 80
                unfold StepR
                intro q u w hj hd K hK
                have h79 : u 79 = .pointer (some ⟨P, 1, none⟩) := hd.get 11 (by kernel_rfl)
                clear hd
                simp only [h79] at hK
                have hcell := cell1 hj.1.2
                go_simp
                exact hK.out _ rfl
              · show StepR _ _ _ _ _ _  _ -- 81
                unfold StepR
                intro q u w hj hd K hK
                clear hd
                go_simp
                exact hK.out (.int .i64 (c : Int)) rfl
              · show StepR _ _ _ _ _ _  _ -- 82
                unfold StepR
                intro q u w hj hd K hK
                clear hd
                go_simp
                exact hK.out (.pointer (some ⟨sb_, 2, none⟩)) rfl
              · show StepR _ _ _ _ _ _  _ -- 83
                unfold StepR
                intro q u w hj hd K hK
                have h82 : u 82 = .pointer (some ⟨sb_, 2, none⟩) := hd.get 14 (by kernel_rfl)
                have h81 : u 81 = .int .i64 (c : Int) := hd.get 13 (by kernel_rfl)
                clear hd
                simp only [h82, h81] at hK
                go_simp
                first | exact hK.out (.pointer (some ⟨sb_, 2 + c, none⟩)) rfl | (rw [if_pos hc2i]; go_simp; exact hK.out (.pointer (some ⟨sb_, 2 + c, none⟩)) rfl)
              · show StepR _ _ _ _ _ _  _ -- 84
                unfold StepR
                intro q u w hj hd K hK
                have h83 : u 83 = .pointer (some ⟨sb_, 2 + c, none⟩) := hd.get 15 (by kernel_rfl)
                clear hd
                simp only [h83] at hK
                have hcell := hj.2.1.2
                go_simp
                exact hK.out _ rfl
              · show StepR _ _ _ _ _ _  _ -- 85
                unfold StepR
                intro q u w hj hd K hK
                clear hd
                go_simp
                exact hK.out (.pointer (some ⟨O, 3, none⟩)) rfl
              · show StepR _ _ _ _ _ _  _ -- 86
                unfold StepR
                intro q u w hj hd K hK
                have h85 : u 85 = .pointer (some ⟨O, 3, none⟩) := hd.get 17 (by kernel_rfl)
                clear hd
                simp only [h85] at hK
                have hcell := (cells7 hj.1.1).2.2.2.1
                go_simp
                exact hK.out _ rfl
              · show StepR _ _ _ _ _ _  _ -- 87
                unfold StepR
                intro q u w hj hd K hK
                clear hd
                go_simp
                exact hK.out (.pointer (some ⟨O, 4, none⟩)) rfl
              · show StepR _ _ _ _ _ _  _ -- 88
                unfold StepR
                intro q u w hj hd K hK
                have h87 : u 87 = .pointer (some ⟨O, 4, none⟩) := hd.get 19 (by kernel_rfl)
                clear hd
                simp only [h87] at hK
                have hcell := (cells7 hj.1.1).2.2.2.2.1
                go_simp
                exact hK.out _ rfl
              · show StepW _ _ _ _ _ _ 1 _ -- 89
                unfold StepW
                intro u w hj hd K hK
                have h80 : u 80 = .pointer (some ⟨x.r, 0, none⟩) := hd.get 12 (by kernel_rfl)
                have h84 : u 84 = .pointer (some ⟨T.q c, 0, none⟩) := hd.get 16 (by kernel_rfl)
                have h86 : u 86 = .int .i64 I := hd.get 18 (by kernel_rfl)
                have h88 : u 88 = .int .i64 Bt := hd.get 20 (by kernel_rfl)
                clear hd
                simp only [h80, h84, h86, h88] at hK
                obtain ⟨⟨hbo, hbp⟩, ⟨hbs, hbq⟩, v2, hE2, hS2, hR2, hT2, c2, m2⟩ := hj
                go_simp
                go_at_call 23
                have hcon := rebit_in w0.heap.size w0.heap.size x.r (T.q c) ((T.x c).length : Int) (T.t c) x.y (T.x c) i Bt x.e w hT2 HSO.out.inn HIX.out hR2 HG.out.ok HKR.out (Nat.le_trans HPL.out.chg.size c2.size)
                rw [← HI.out] at hcon
                refine hcon.mono ?_
                rintro z w3 ⟨rfl, y3, hR3, hT3, c3, m3⟩
                rw [← p_at HIX.out] at hR3 hT3
                have ms : ∀ {g cs t}, w.heap[g]? = some (.cells cs t (0, 0)) → t ≠ 94 → t ≠ 5 → t ≠ 3 → ¬ (Foot x.r x.y g ∨ (T.t c).ownBlock = some g) := fun hb h1 h2 h3 f => by
                  rcases f with f | f
                  · rcases f with f | f
                    · rw [f] at hb
                      exact ty_ne hb hR2.blk h1
                    · obtain ⟨cur, hcur⟩ := owns_blk hR2.own f
                      exact ty_ne hb hcur h2
                  · obtain ⟨cur, hcur⟩ := owns_blk hT2.own f
                    exact ty_ne hb hcur h3
                exact hK.out _ w3 ⟨⟨blk_keep hbo c3 (ms hbo (by decide) (by decide) (by decide)), blk_keep hbp c3 (ms hbp (by decide) (by decide) (by decide))⟩, HSBX.out w w3 c2 c3 hbs hbq, w, v2, y3, hE2, hS2.keep c3 (ms hS2.blk (by decide) (by decide) (by decide)) (fun g e => by obtain ⟨cur, hcur⟩ := owns_blk hS2.own e; exact ms hcur (by decide) (by decide) (by decide)), c2, m2, hR3, hT3, c3, m3⟩ rfl
            · intro u w hj hA K hK
              have e78 : u 78 = .int .i64 0 := hA.at 78 (by kernel_rfl)
              have e89 : u 89 = .int .i64 0 := hA.at 89 (by kernel_rfl)
              clear hA
              obtain ⟨_, _, w1, v2, y3, hE2, hS3, c2, m2, hR3, hT3, c3, m3⟩ := hj
              rw [p_at HIX.out] at hE2 hS3 hR3 hT3
              have HP3 : Hid (Pl w0 w sb_ (.slice (some ⟨g, 0, none⟩) L lcap) (its.set j ⟨x.a, x.r, v2, y3, coded x.e (T.x c)[i] Bt⟩) bv hs) := by
                have hx := HXJ.out
                have hpp := HSO.out.inn.at i HIX.out
                have ty : ∀ z, (T.u c).ownBlock = some z → w0.heap.size ≤ z ∧ ∃ cs t, W.heap[z]? = some (.cells cs t (0, 0)) ∧ (t = 85 ∨ t = 3) := fun z e => by
                  obtain ⟨cur, hcur⟩ := owns_blk HSO.out.st.own e
                  exact ⟨(HSO.out.st.own.lt z e).1, _, _, hcur, .inl rfl⟩
                have ty2 : ∀ z, (T.t c).ownBlock = some z → w0.heap.size ≤ z ∧ ∃ cs t, W.heap[z]? = some (.cells cs t (0, 0)) ∧ (t = 85 ∨ t = 3) := fun z e => by
                  obtain ⟨cur, hcur⟩ := owns_blk HSO.out.rt.own e
                  exact ⟨(HSO.out.rt.own.lt z e).1, _, _, hcur, .inr rfl⟩
                have hsets : ∃ S, SetsOk w w0.heap.size sb_ S := by
                  refine ⟨T.put c ((T.x c).set i (Prob.nx (T.x c)[i] Bt)), HT.out.put c hc2 (T := fun z => (Foot x.a x.v z ∨ (T.u c).ownBlock = some z) ∨ (Foot x.r x.y z ∨ (T.t c).ownBlock = some z)) ((c2.mono (fun _ e => .inl (.inl e))).trans c3 (fun _ e => .inl (.inr e))) (fun z s => ?_) _ hS3 hT3 (by simp) (HSO.out.inn.set i _ (Prob.nx_lo hpp.1 hpp.2))⟩
                  rcases s with (s | s) | (s | s)
                  · exact .inr (.inr (HG.out.far z (.inl s)))
                  · exact .inl s
                  · exact .inr (.inr (HG.out.far z (.inr s)))
                  · exact .inr (.inl s)
                have key := HPL.out.both j HJL.out (v' := v2) (y' := y3) (e' := coded x.e (T.x c)[i] Bt) c2 (fun z s => by
                    rw [hx]
                    rcases s with s | s
                    · exact .inl s
                    · exact .inr (ty z s)) (by rw [hx]; exact m2) (by rw [hx]; exact hE2) c3 (fun z s => by
                    rw [hx]
                    rcases s with s | s
                    · exact .inl s
                    · exact .inr (ty2 z s)) (by rw [hx]; exact m3) (by rw [hx]; exact hR3) (coded_ok HG.out.ok hpp.1 hpp.2) hsets
                rw [hx] at key
                exact key
              have HKN : Hid (∀ q (h : q < (its.set j ⟨x.a, x.r, v2, y3, coded x.e (T.x c)[i] Bt⟩).length), ((its.set j ⟨x.a, x.r, v2, y3, coded x.e (T.x c)[i] Bt⟩)[q]).e.k ≤ 32 * (k + 1)) := kset HKI.out HJL.out (by have h1 := (cut_k x.e (x.e.R / 2048 * ((T.x c)[i]).toNat) (decide (Bt ≠ 0))).2; have h2 := HK31.out; show (coded x.e (T.x c)[i] Bt).k ≤ _; unfold coded; omega) (by omega)
              clear hE2 hS3 c2 m2 hR3 hT3 c3 m3
              go_simp
              refine hK.out _ _ ?_
              clear hK
              go_wp2
              go_roundw
              case rel => exact ⟨k + 1, _, hs, by omega, by go_num, HP3.out, HKN.out, Nat.le_trans HHL.out (by omega)⟩
              case measure => simp [intOf]; omega
          · have HOUT : Hid (I < 0 ∨ ((T.x c).length : Int) ≤ I) := by show _ ∨ _; omega
            have p0 := cell0 HBP.out
            have p1 := cell1 HBP.out
            have o3 := (cells7 HBO.out).2.2.2.1
            have o4 := (cells7 HBO.out).2.2.2.2.1
            clear hin
            go_wp2_with fail
            refine wp_region_last (mk := fun u => #[_, _, _, _, _, _, _, _, _, _, _, _, _, _, _, _, _, _, _, _, _, _, _, _, _, _, _, _, _, _, _, _, _, _, _, _, _, _, _, _, _, _, _, _, _, _, _, _, _, _, _, _, _, _, _, _, _, _, _, _, _, _, _, _, _, _, _, _, u 68, u 69, u 70, u 71, u 72, u 73, u 74, u 75, u 76, u 77, u 78, u 79, u 80, u 81, u 82, u 83, u 84, u 85, u 86, u 87, u 88, u 89, _, _, _, _, _, _, _, _, _, _, _, _, _, _, _, _, _, _, _, _, _, _, _, _, _, _, _, _, _, _, _, _, _, _, _, _, _, _, _, _, _, _, _, _, _, _, _, _, _, _, _, _, _, _, _, _, _, _, _, _, _, _, _, _, _, _, _, _, _, _, _, _, _, _, _, _, _, _, _, _, _, _, _, _, _, _, _, _, _, _, _, _, _, _, _, _, _, _, _, _, _, _, _, _, _, _, _, _, _, _, _, _, _, _, _, _, _, _, _, _, _]) (F := fun slot vv ww => (look [(68, .val (.pointer (some ⟨P, 0, none⟩))), (69, .val (.pointer (some ⟨x.a, 0, none⟩))), (70, .val (.int .i64 (c : Int))), (71, .val (.pointer (some ⟨sb_, 0, none⟩))), (72, .val (.pointer (some ⟨sb_, c, none⟩))), (73, .val (.pointer (some ⟨T.s c, 0, none⟩))), (74, .val (.pointer (some ⟨O, 3, none⟩))), (75, .val (.int .i64 I)), (76, .val (.pointer (some ⟨O, 4, none⟩))), (77, .val (.int .i64 Bt)), (78, .val (.int .i64 7)), (79, .val (.pointer (some ⟨P, 1, none⟩))), (80, .val (.pointer (some ⟨x.r, 0, none⟩))), (81, .val (.int .i64 (c : Int))), (82, .val (.pointer (some ⟨sb_, 2, none⟩))), (83, .val (.pointer (some ⟨sb_, 2 + c, none⟩))), (84, .val (.pointer (some ⟨T.q c, 0, none⟩))), (85, .val (.pointer (some ⟨O, 3, none⟩))), (86, .val (.int .i64 I)), (87, .val (.pointer (some ⟨O, 4, none⟩))), (88, .val (.int .i64 Bt)), (89, .val (.int .i64 7))] slot).holds vv ww) (fun slot => match slot with | 68 => u68 | 69 => u69 | 70 => u70 | 71 => u71 | 72 => u72 | 73 => u73 | 74 => u74 | 75 => u75 | 76 => u76 | 77 => u77 | 78 => u78 | 79 => u79 | 80 => u80 | 81 => u81 | 82 => u82 | 83 => u83 | 84 => u84 | 85 => u85 | 86 => u86 | 87 => u87 | 88 => u88 | 89 => u89 | _ => undef) rfl (by kernel_rfl) 22 _ rfl rfl (by kernel_rfl) ?_ (fun _ v w w' hc h => Fact.stays _ v w w' hc h) ?_ ?_
            · repeat (refine ⟨⟨_, rfl, fun _ _ => rfl⟩, ?_⟩)
              exact trivial
            · refine ⟨?_, ?_, ?_, ?_, ?_, ?_, ?_, ?_, ?_, ?_, ?_, ?_, ?_, ?_, ?_, ?_, ?_, ?_, ?_, ?_, ?_, ?_, trivial⟩
              · intro u w hc hd K hK -- 68
                clear hd
                go_simp
                exact hK.out (.pointer (some ⟨P, 0, none⟩)) w (Chg.refl _ _) rfl
              · intro u w hc hd K hK -- 69
                have h68 : (Fact.val (.pointer (some ⟨P, 0, none⟩))).holds (u 68) w := hd.get 0 (by kernel_rfl)
                simp only [Fact.holds] at h68
                clear hd
                simp only [h68] at hK
                have hcell := cell_chg (p0) hc
                go_simp
                exact hK.out _ _ (Chg.refl _ _) rfl
              · intro u w hc hd K hK -- 70
                clear hd
                go_simp
                exact hK.out (.int .i64 (c : Int)) w (Chg.refl _ _) rfl
              · intro u w hc hd K hK -- 71
                clear hd
                go_simp
                exact hK.out (.pointer (some ⟨sb_, 0, none⟩)) w (Chg.refl _ _) rfl
              · intro u w hc hd K hK -- 72
                have h71 : (Fact.val (.pointer (some ⟨sb_, 0, none⟩))).holds (u 71) w := hd.get 3 (by kernel_rfl)
                simp only [Fact.holds] at h71
                have h70 : (Fact.val (.int .i64 (c : Int))).holds (u 70) w := hd.get 2 (by kernel_rfl)
                simp only [Fact.holds] at h70
                clear hd
                simp only [h70, h71] at hK
                go_simp
                first | exact hK.out (.pointer (some ⟨sb_, c, none⟩)) w (Chg.refl _ _) rfl | (rw [if_pos hc2i]; go_simp; exact hK.out (.pointer (some ⟨sb_, c, none⟩)) w (Chg.refl _ _) rfl)
              · intro u w hc hd K hK -- 73
                have h72 : (Fact.val (.pointer (some ⟨sb_, c, none⟩))).holds (u 72) w := hd.get 4 (by kernel_rfl)
                simp only [Fact.holds] at h72
                clear hd
                simp only [h72] at hK
                have hcell := cell_chg (hcs) hc
                go_simp
                exact hK.out _ _ (Chg.refl _ _) rfl
              · intro u w hc hd K hK -- 74
                clear hd
                go_simp
                exact hK.out (.pointer (some ⟨O, 3, none⟩)) w (Chg.refl _ _) rfl
              · intro u w hc hd K hK -- 75
                have h74 : (Fact.val (.pointer (some ⟨O, 3, none⟩))).holds (u 74) w := hd.get 6 (by kernel_rfl)
                simp only [Fact.holds] at h74
                clear hd
                simp only [h74] at hK
                have hcell := cell_chg (o3) hc
                go_simp
                exact hK.out _ _ (Chg.refl _ _) rfl
              · intro u w hc hd K hK -- 76
                clear hd
                go_simp
                exact hK.out (.pointer (some ⟨O, 4, none⟩)) w (Chg.refl _ _) rfl
              · intro u w hc hd K hK -- 77
                have h76 : (Fact.val (.pointer (some ⟨O, 4, none⟩))).holds (u 76) w := hd.get 8 (by kernel_rfl)
                simp only [Fact.holds] at h76
                clear hd
                simp only [h76] at hK
                have hcell := cell_chg (o4) hc
                go_simp
                exact hK.out _ _ (Chg.refl _ _) rfl
              · intro u w hc hd K hK -- 78
                have h69 : (Fact.val (.pointer (some ⟨x.a, 0, none⟩))).holds (u 69) w := hd.get 1 (by kernel_rfl)
                simp only [Fact.holds] at h69
                have h73 : (Fact.val (.pointer (some ⟨T.s c, 0, none⟩))).holds (u 73) w := hd.get 5 (by kernel_rfl)
                simp only [Fact.holds] at h73
                have h75 : (Fact.val (.int .i64 I)).holds (u 75) w := hd.get 7 (by kernel_rfl)
                simp only [Fact.holds] at h75
                have h77 : (Fact.val (.int .i64 Bt)).holds (u 77) w := hd.get 9 (by kernel_rfl)
                simp only [Fact.holds] at h77
                clear hd
                simp only [h69, h73, h75, h77] at hK
                go_simp
                go_at_call 17
                refine (bit_out w0.heap.size (T.s c) (T.u c) _ (T.x c) I _ w (HSO.out.far hc (fun _ f => f.elim)).st HOUT.out).mono ?_
                rintro z w2 ⟨rfl, rfl⟩
                exact hK.out _ _ (Chg.refl _ _) rfl
              · intro u w hc hd K hK -- 79
                clear hd
                go_simp
                exact hK.out (.pointer (some ⟨P, 1, none⟩)) w (Chg.refl _ _) rfl
              · intro u w hc hd K hK -- 80
                have h79 : (Fact.val (.pointer (some ⟨P, 1, none⟩))).holds (u 79) w := hd.get 11 (by kernel_rfl)
                simp only [Fact.holds] at h79
                clear hd
                simp only [h79] at hK
                have hcell := cell_chg (p1) hc
                go_simp
                exact hK.out _ _ (Chg.refl _ _) rfl
              · intro u w hc hd K hK -- 81
                clear hd
                go_simp
                exact hK.out (.int .i64 (c : Int)) w (Chg.refl _ _) rfl
              · intro u w hc hd K hK -- 82
                clear hd
                go_simp
                exact hK.out (.pointer (some ⟨sb_, 2, none⟩)) w (Chg.refl _ _) rfl
              · intro u w hc hd K hK -- 83
                have h82 : (Fact.val (.pointer (some ⟨sb_, 2, none⟩))).holds (u 82) w := hd.get 14 (by kernel_rfl)
                simp only [Fact.holds] at h82
                have h81 : (Fact.val (.int .i64 (c : Int))).holds (u 81) w := hd.get 13 (by kernel_rfl)
                simp only [Fact.holds] at h81
                clear hd
                simp only [h81, h82] at hK
                go_simp
                first | exact hK.out (.pointer (some ⟨sb_, 2 + c, none⟩)) w (Chg.refl _ _) rfl | (rw [if_pos hc2i]; go_simp; exact hK.out (.pointer (some ⟨sb_, 2 + c, none⟩)) w (Chg.refl _ _) rfl)
              · intro u w hc hd K hK -- 84
                have h83 : (Fact.val (.pointer (some ⟨sb_, 2 + c, none⟩))).holds (u 83) w := hd.get 15 (by kernel_rfl)
                simp only [Fact.holds] at h83
                clear hd
                simp only [h83] at hK
                have hcell := cell_chg (hcq) hc
                go_simp
                exact hK.out _ _ (Chg.refl _ _) rfl
              · intro u w hc hd K hK -- 85
                clear hd
                go_simp
                exact hK.out (.pointer (some ⟨O, 3, none⟩)) w (Chg.refl _ _) rfl
              · intro u w hc hd K hK -- 86
                have h85 : (Fact.val (.pointer (some ⟨O, 3, none⟩))).holds (u 85) w := hd.get 17 (by kernel_rfl)
                simp only [Fact.holds] at h85
                clear hd
                simp only [h85] at hK
                have hcell := cell_chg (o3) hc
                go_simp
                exact hK.out _ _ (Chg.refl _ _) rfl
              · intro u w hc hd K hK -- 87
                clear hd
                go_simp
                exact hK.out (.pointer (some ⟨O, 4, none⟩)) w (Chg.refl _ _) rfl
              · intro u w hc hd K hK -- 88
                have h87 : (Fact.val (.pointer (some ⟨O, 4, none⟩))).holds (u 87) w := hd.get 19 (by kernel_rfl)
                simp only [Fact.holds] at h87
                clear hd
                simp only [h87] at hK
                have hcell := cell_chg (o4) hc
                go_simp
                exact hK.out _ _ (Chg.refl _ _) rfl
              · intro u w hc hd K hK -- 89
                have h80 : (Fact.val (.pointer (some ⟨x.r, 0, none⟩))).holds (u 80) w := hd.get 12 (by kernel_rfl)
                simp only [Fact.holds] at h80
                have h84 : (Fact.val (.pointer (some ⟨T.q c, 0, none⟩))).holds (u 84) w := hd.get 16 (by kernel_rfl)
                simp only [Fact.holds] at h84
                have h86 : (Fact.val (.int .i64 I)).holds (u 86) w := hd.get 18 (by kernel_rfl)
                simp only [Fact.holds] at h86
                have h88 : (Fact.val (.int .i64 Bt)).holds (u 88) w := hd.get 20 (by kernel_rfl)
                simp only [Fact.holds] at h88
                clear hd
                simp only [h80, h84, h86, h88] at hK
                go_simp
                go_at_call 23
                refine (rebit_out w0.heap.size 0 (T.q c) ((T.x c).length : Int) (T.t c) _ (T.x c) I _ w (HSO.out.far hc (fun _ f => f.elim)).rt HOUT.out).mono ?_
                rintro z w2 ⟨rfl, rfl⟩
                exact hK.out _ _ (Chg.refl _ _) rfl
            · intro u w hc hA K hK
              have e78 : u 78 = .int .i64 7 := hA.at 78 (by kernel_rfl)
              have e89 : u 89 = .int .i64 7 := hA.at 89 (by kernel_rfl)
              clear hA
              have HP3 : Hid (Pl w0 w sb_ (.slice (some ⟨g, 0, none⟩) L lcap) its bv hs) := HPL.out.new hc
              clear hc
              go_simp
              refine hK.out _ _ ?_
              clear hK
              go_wp2
              go_roundw
              case rel => exact ⟨k + 1, its, hs, by omega, by go_num, HP3.out, kmore HKI.out (by omega), Nat.le_trans HHL.out (by omega)⟩
              case measure => simp [intOf]; omega
        · have d1 : decide (kd = 1) = false := by simp; exact k1
          have d1' : (kd == 1) = false := by simp; exact k1
          by_cases k2 : kd = 2
          · have HBO : Hid (W.heap[O]? = some (.cells #[.int .i64 2, .int .i64 E, .int .i64 S, .int .i64 I, .int .i64 Bt, .int .u32 (X : Int), .int .i64 N] 65 (0, 0))) := by rw [k2] at HBO'; exact HBO'
            clear HBO' d1 d1' k1
            subst k2
            have HK31 : Hid (x.e.k ≤ 32 * k) := by have := HKI.out j HJL.out; rw [HXJ.out] at this; exact this
            by_cases hin : 0 ≤ N ∧ N ≤ 32
            · obtain ⟨i, hi⟩ : ∃ i : Nat, N = (i : Int) := ⟨N.toNat, by omega⟩
              have HIX : Hid (i ≤ 32) := by show i ≤ 32; omega
              have HI : Hid (N = (i : Int)) := hi
              have HKD : Hid ((direct X i x.e).k ≤ 32 * (k + 1)) := by have h1 := direct_k_le X i x.e; have h2 := HK31.out; have h3 := HIX.out; show _ ≤ _; omega
              have HKK : Hid ((direct X i x.e).k + 1 ≤ 140737488355328) := by have := HKD.out; show _ + 1 ≤ _; omega
              have HKR : Hid (x.e.k + 32 ≤ 70368744177664) := by have := HK31.out; show x.e.k + 32 ≤ _; omega
              clear hin hi
              go_wp2_with fail
              refine wp_region_phase (mk := fun u => #[_, _, _, _, _, _, _, _, _, _, _, _, _, _, _, _, _, _, _, _, _, _, _, _, _, _, _, _, _, _, _, _, _, _, _, _, _, _, _, _, _, _, _, _, _, _, _, _, _, _, _, _, _, _, _, _, _, _, _, _, _, _, _, _, _, _, _, _, _, _, _, _, _, _, _, _, _, _, _, _, _, _, _, _, _, _, _, _, _, _, _, _, _, u 93, u 94, u 95, u 96, u 97, u 98, u 99, u 100, u 101, u 102, u 103, u 104, u 105, u 106, _, _, _, _, _, _, _, _, _, _, _, _, _, _, _, _, _, _, _, _, _, _, _, _, _, _, _, _, _, _, _, _, _, _, _, _, _, _, _, _, _, _, _, _, _, _, _, _, _, _, _, _, _, _, _, _, _, _, _, _, _, _, _, _, _, _, _, _, _, _, _, _, _, _, _, _, _, _, _, _, _, _, _, _, _, _, _, _, _, _, _, _, _, _, _, _, _, _, _, _, _, _, _, _]) (G := lookG [(93, .pointer (some ⟨P, 0, none⟩)), (94, .pointer (some ⟨x.a, 0, none⟩)), (95, .pointer (some ⟨O, 5, none⟩)), (96, .int .u32 (X : Int)), (97, .pointer (some ⟨O, 6, none⟩)), (98, .int .i64 N), (99, .int .i64 0), (100, .pointer (some ⟨P, 1, none⟩)), (101, .pointer (some ⟨x.r, 0, none⟩)), (102, .pointer (some ⟨O, 5, none⟩)), (103, .int .u32 (X : Int)), (104, .pointer (some ⟨O, 6, none⟩)), (105, .int .i64 N), (106, .int .i64 0)]) (J := fun q _ w => (w.heap[O]? = some (.cells #[.int .i64 2, .int .i64 E, .int .i64 S, .int .i64 I, .int .i64 Bt, .int .u32 (X : Int), .int .i64 N] 65 (0, 0)) ∧ w.heap[P]? = some (.cells #[.pointer (some ⟨x.a, 0, none⟩), .pointer (some ⟨x.r, 0, none⟩)] 61 (0, 0))) ∧ DirJ w0.heap.size W x X i q w) [6, 13] (fun slot => match slot with | 93 => u93 | 94 => u94 | 95 => u95 | 96 => u96 | 97 => u97 | 98 => u98 | 99 => u99 | 100 => u100 | 101 => u101 | 102 => u102 | 103 => u103 | 104 => u104 | 105 => u105 | 106 => u106 | _ => undef) rfl (by kernel_rfl) 14 _ rfl rfl (by kernel_rfl) (by kernel_rfl) (by kernel_rfl) (by decide) ?_ ?_ ?_ ?_ ?_
              · repeat (refine ⟨⟨_, rfl, fun _ _ => rfl⟩, ?_⟩)
                exact trivial
              · exact fun q u u2 w _ h => h
              · exact ⟨⟨blk_keep HBO.out (Chg.refl (fun _ => False) W).drew (fun f => f), blk_keep HBP.out (Chg.refl (fun _ => False) W).drew (fun f => f)⟩, (Chg.refl _ W).drew⟩
              · refine ⟨?_, ?_, ?_, ?_, ?_, ?_, ?_, ?_, ?_, ?_, ?_, ?_, ?_, ?_, trivial⟩
                · show StepR _ _ _ _ _ _  _ -- 93
                  unfold StepR
                  intro q u w hj hd K hK
                  clear hd
                  go_simp
                  exact hK.out (.pointer (some ⟨P, 0, none⟩)) rfl
                · show StepR _ _ _ _ _ _  _ -- 94
                  unfold StepR
                  intro q u w hj hd K hK
                  have h93 : u 93 = .pointer (some ⟨P, 0, none⟩) := hd.get 0 (by kernel_rfl)
                  clear hd
                  simp only [h93] at hK
                  have hcell := cell0 hj.1.2
                  go_simp
                  exact hK.out _ rfl
                · show StepR _ _ _ _ _ _  _ -- 95
                  unfold StepR
                  intro q u w hj hd K hK
                  clear hd
                  go_simp
                  exact hK.out (.pointer (some ⟨O, 5, none⟩)) rfl
                · show StepR _ _ _ _ _ _  _ -- 96
                  unfold StepR
                  intro q u w hj hd K hK
                  have h95 : u 95 = .pointer (some ⟨O, 5, none⟩) := hd.get 2 (by kernel_rfl)
                  clear hd
                  simp only [h95] at hK
                  have hcell := (cells7 hj.1.1).2.2.2.2.2.1
                  go_simp
                  exact hK.out _ rfl
                · show StepR _ _ _ _ _ _  _ -- 97
                  unfold StepR
                  intro q u w hj hd K hK
                  clear hd
                  go_simp
                  exact hK.out (.pointer (some ⟨O, 6, none⟩)) rfl
                · show StepR _ _ _ _ _ _  _ -- 98
                  unfold StepR
                  intro q u w hj hd K hK
                  have h97 : u 97 = .pointer (some ⟨O, 6, none⟩) := hd.get 4 (by kernel_rfl)
                  clear hd
                  simp only [h97] at hK
                  have hcell := (cells7 hj.1.1).2.2.2.2.2.2
                  go_simp
                  exact hK.out _ rfl
                · show StepW _ _ _ _ _ _ 0 _ -- 99
                  unfold StepW
                  intro u w hj hd K hK
                  have h94 : u 94 = .pointer (some ⟨x.a, 0, none⟩) := hd.get 1 (by kernel_rfl)
                  have h96 : u 96 = .int .u32 (X : Int) := hd.get 3 (by kernel_rfl)
                  have h98 : u 98 = .int .i64 N := hd.get 5 (by kernel_rfl)
                  clear hd
                  simp only [h94, h96, h98] at hK
                  obtain ⟨⟨hbo, hbp⟩, hc⟩ := hj
                  go_simp
                  go_at_call 9
                  have hG := HG.out.new hc
                  have hcon := direct_in w0.heap.size x.a x.v x.e X i w hG.en hG.ok HX4.out HIX.out HKK.out (Nat.le_trans HPL.out.chg.size hc.size)
                  rw [← HI.out] at hcon
                  refine hcon.mono ?_
                  rintro z w2 ⟨rfl, v2, hE2, c2, m2⟩
                  have ms : ∀ {g cs t}, w.heap[g]? = some (.cells cs t (0, 0)) → t ≠ 77 → t ≠ 5 → ¬ Foot x.a x.v g := fun hb h1 h2 f => by
                    obtain ⟨l, hl, _⟩ := hG.en
                    rcases f with f | f
                    · rw [f] at hb
                      exact ty_ne hb hl.blk h1
                    · obtain ⟨cur, hcur⟩ := owns_blk hl.own f
                      exact ty_ne hb hcur h2
                  exact hK.out _ w2 ⟨⟨blk_keep hbo c2 (ms hbo (by decide) (by decide)), blk_keep hbp c2 (ms hbp (by decide) (by decide))⟩, v2, hE2, hG.half c2 (fun z f => .inl f), (hc.mono (fun _ f => f.elim)).trans c2 (fun _ e => .inl e), moved_from hc.size m2⟩ rfl
                · show StepR _ _ _ _ _ _  _ -- 100
                  unfold StepR
                  intro q u w hj hd K hK
                  clear hd
                  go_simp
                  exact hK.out (.pointer (some ⟨P, 1, none⟩)) rfl
                · show StepR _ _ _ _ _ _  _ -- 101
                  unfold StepR
                  intro q u w hj hd K hK
                  have h100 : u 100 = .pointer (some ⟨P, 1, none⟩) := hd.get 7 (by kernel_rfl)
                  clear hd
                  simp only [h100] at hK
                  have hcell := cell1 hj.1.2
                  go_simp
                  exact hK.out _ rfl
                · show StepR _ _ _ _ _ _  _ -- 102
                  unfold StepR
                  intro q u w hj hd K hK
                  clear hd
                  go_simp
                  exact hK.out (.pointer (some ⟨O, 5, none⟩)) rfl
                · show StepR _ _ _ _ _ _  _ -- 103
                  unfold StepR
                  intro q u w hj hd K hK
                  have h102 : u 102 = .pointer (some ⟨O, 5, none⟩) := hd.get 9 (by kernel_rfl)
                  clear hd
                  simp only [h102] at hK
                  have hcell := (cells7 hj.1.1).2.2.2.2.2.1
                  go_simp
                  exact hK.out _ rfl
                · show StepR _ _ _ _ _ _  _ -- 104
                  unfold StepR
                  intro q u w hj hd K hK
                  clear hd
                  go_simp
                  exact hK.out (.pointer (some ⟨O, 6, none⟩)) rfl
                · show StepR _ _ _ _ _ _  _ -- 105
                  unfold StepR
                  intro q u w hj hd K hK
                  have h104 : u 104 = .pointer (some ⟨O, 6, none⟩) := hd.get 11 (by kernel_rfl)
                  clear hd
                  simp only [h104] at hK
                  have hcell := (cells7 hj.1.1).2.2.2.2.2.2
                  go_simp
                  exact hK.out _ rfl
                · show StepW _ _ _ _ _ _ 1 _ -- 106
                  unfold StepW
                  intro u w hj hd K hK
                  have h101 : u 101 = .pointer (some ⟨x.r, 0, none⟩) := hd.get 8 (by kernel_rfl)
                  have h103 : u 103 = .int .u32 (X : Int) := hd.get 10 (by kernel_rfl)
                  have h105 : u 105 = .int .i64 N := hd.get 12 (by kernel_rfl)
                  clear hd
                  simp only [h101, h103, h105] at hK
                  obtain ⟨⟨hbo, hbp⟩, v2, hE2, hR2, c2, m2⟩ := hj
                  go_simp
                  go_at_call 24
                  have hcon := redirect_in w0.heap.size x.r x.y x.e X i w hR2 HG.out.ok HX4.out HIX.out HKR.out (Nat.le_trans HPL.out.chg.size c2.size)
                  rw [← HI.out] at hcon
                  refine hcon.mono ?_
                  rintro z w3 ⟨rfl, y3, hR3, c3, m3⟩
                  have ms : ∀ {g cs t}, w.heap[g]? = some (.cells cs t (0, 0)) → t ≠ 94 → t ≠ 5 → ¬ Foot x.r x.y g := fun hb h1 h2 f => by
                    rcases f with f | f
                    · rw [f] at hb
                      exact ty_ne hb hR2.blk h1
                    · obtain ⟨cur, hcur⟩ := owns_blk hR2.own f
                      exact ty_ne hb hcur h2
                  exact hK.out _ w3 ⟨⟨blk_keep hbo c3 (ms hbo (by decide) (by decide)), blk_keep hbp c3 (ms hbp (by decide) (by decide))⟩, w, v2, y3, hE2, c2, m2, hR3, c3, m3⟩ rfl
              · intro u w hj hA K hK
                have e78 : u 99 = .int .i64 0 := hA.at 99 (by kernel_rfl)
                have e89 : u 106 = .int .i64 0 := hA.at 106 (by kernel_rfl)
                clear hA
                obtain ⟨_, w1, v2, y3, hE2, c2, m2, hR3, c3, m3⟩ := hj
                have HP3 : Hid (Pl w0 w sb_ (.slice (some ⟨g, 0, none⟩) L lcap) (its.set j ⟨x.a, x.r, v2, y3, direct X i x.e⟩) bv hs) := by
                  have hx := HXJ.out
                  obtain ⟨T, hT⟩ := HPL.out.sets
                  have hsets : ∃ S, SetsOk w w0.heap.size sb_ S := ⟨T, hT.far (T := fun z => Foot x.a x.v z ∨ Foot x.r x.y z) ((c2.mono (fun _ e => .inl (.inl e))).trans c3 (fun _ e => .inl (.inr e))) (fun z s => HG.out.far z s)⟩
                  have key := HPL.out.both j HJL.out (v' := v2) (y' := y3) (e' := direct X i x.e) c2 (fun z s => by rw [hx]; exact .inl s) (by rw [hx]; exact m2) (by rw [hx]; exact hE2) c3 (fun z s => by rw [hx]; exact .inl s) (by rw [hx]; exact m3) (by rw [hx]; exact hR3) (direct_ok X i HG.out.ok) hsets
                  rw [hx] at key
                  exact key
                have HKN : Hid (∀ q (h : q < (its.set j ⟨x.a, x.r, v2, y3, direct X i x.e⟩).length), ((its.set j ⟨x.a, x.r, v2, y3, direct X i x.e⟩)[q]).e.k ≤ 32 * (k + 1)) := kset HKI.out HJL.out HKD.out (by omega)
                clear hE2 c2 m2 hR3 c3 m3
                go_simp
                refine hK.out _ _ ?_
                clear hK
                go_wp2
                go_roundw
                case rel => exact ⟨k + 1, _, hs, by omega, by go_num, HP3.out, HKN.out, Nat.le_trans HHL.out (by omega)⟩
                case measure => simp [intOf]; omega
            · have HOUT : Hid (N < 0 ∨ 32 < N) := by show _ ∨ _; omega
              have p0 := cell0 HBP.out
              have p1 := cell1 HBP.out
              have o5 := (cells7 HBO.out).2.2.2.2.2.1
              have o6 := (cells7 HBO.out).2.2.2.2.2.2
              clear hin
              go_wp2_with fail
              refine wp_region_last (mk := fun u => #[_, _, _, _, _, _, _, _, _, _, _, _, _, _, _, _, _, _, _, _, _, _, _, _, _, _, _, _, _, _, _, _, _, _, _, _, _, _, _, _, _, _, _, _, _, _, _, _, _, _, _, _, _, _, _, _, _, _, _, _, _, _, _, _, _, _, _, _, _, _, _, _, _, _, _, _, _, _, _, _, _, _, _, _, _, _, _, _, _, _, _, _, _, u 93, u 94, u 95, u 96, u 97, u 98, u 99, u 100, u 101, u 102, u 103, u 104, u 105, u 106, _, _, _, _, _, _, _, _, _, _, _, _, _, _, _, _, _, _, _, _, _, _, _, _, _, _, _, _, _, _, _, _, _, _, _, _, _, _, _, _, _, _, _, _, _, _, _, _, _, _, _, _, _, _, _, _, _, _, _, _, _, _, _, _, _, _, _, _, _, _, _, _, _, _, _, _, _, _, _, _, _, _, _, _, _, _, _, _, _, _, _, _, _, _, _, _, _, _, _, _, _, _, _, _]) (F := fun slot vv ww => (look [(93, .val (.pointer (some ⟨P, 0, none⟩))), (94, .val (.pointer (some ⟨x.a, 0, none⟩))), (95, .val (.pointer (some ⟨O, 5, none⟩))), (96, .val (.int .u32 (X : Int))), (97, .val (.pointer (some ⟨O, 6, none⟩))), (98, .val (.int .i64 N)), (99, .val (.int .i64 7)), (100, .val (.pointer (some ⟨P, 1, none⟩))), (101, .val (.pointer (some ⟨x.r, 0, none⟩))), (102, .val (.pointer (some ⟨O, 5, none⟩))), (103, .val (.int .u32 (X : Int))), (104, .val (.pointer (some ⟨O, 6, none⟩))), (105, .val (.int .i64 N)), (106, .val (.int .i64 7))] slot).holds vv ww) (fun slot => match slot with | 93 => u93 | 94 => u94 | 95 => u95 | 96 => u96 | 97 => u97 | 98 => u98 | 99 => u99 | 100 => u100 | 101 => u101 | 102 => u102 | 103 => u103 | 104 => u104 | 105 => u105 | 106 => u106 | _ => undef) rfl (by kernel_rfl) 14 _ rfl rfl (by kernel_rfl) ?_ (fun _ v w w' hc h => Fact.stays _ v w w' hc h) ?_ ?_
              · repeat (refine ⟨⟨_, rfl, fun _ _ => rfl⟩, ?_⟩)
                exact trivial
              · refine ⟨?_, ?_, ?_, ?_, ?_, ?_, ?_, ?_, ?_, ?_, ?_, ?_, ?_, ?_, trivial⟩
                · intro u w hc hd K hK -- 93
                  clear hd
                  go_simp
                  exact hK.out (.pointer (some ⟨P, 0, none⟩)) w (Chg.refl _ _) rfl
                · intro u w hc hd K hK -- 94
                  have h93 : (Fact.val (.pointer (some ⟨P, 0, none⟩))).holds (u 93) w := hd.get 0 (by kernel_rfl)
                  simp only [Fact.holds] at h93
                  clear hd
                  simp only [h93] at hK
                  have hcell := cell_chg (p0) hc
                  go_simp
                  exact hK.out _ _ (Chg.refl _ _) rfl
                · intro u w hc hd K hK -- 95
                  clear hd
                  go_simp
                  exact hK.out (.pointer (some ⟨O, 5, none⟩)) w (Chg.refl _ _) rfl
                · intro u w hc hd K hK -- 96
                  have h95 : (Fact.val (.pointer (some ⟨O, 5, none⟩))).holds (u 95) w := hd.get 2 (by kernel_rfl)
                  simp only [Fact.holds] at h95
                  clear hd
                  simp only [h95] at hK
                  have hcell := cell_chg (o5) hc
                  go_simp
                  exact hK.out _ _ (Chg.refl _ _) rfl
                · intro u w hc hd K hK -- 97
                  clear hd
                  go_simp
                  exact hK.out (.pointer (some ⟨O, 6, none⟩)) w (Chg.refl _ _) rfl
                · intro u w hc hd K hK -- 98
                  have h97 : (Fact.val (.pointer (some ⟨O, 6, none⟩))).holds (u 97) w := hd.get 4 (by kernel_rfl)
                  simp only [Fact.holds] at h97
                  clear hd
                  simp only [h97] at hK
                  have hcell := cell_chg (o6) hc
                  go_simp
                  exact hK.out _ _ (Chg.refl _ _) rfl
                · intro u w hc hd K hK -- 99
                  have h94 : (Fact.val (.pointer (some ⟨x.a, 0, none⟩))).holds (u 94) w := hd.get 1 (by kernel_rfl)
                  simp only [Fact.holds] at h94
                  have h96 : (Fact.val (.int .u32 (X : Int))).holds (u 96) w := hd.get 3 (by kernel_rfl)
                  simp only [Fact.holds] at h96
                  have h98 : (Fact.val (.int .i64 N)).holds (u 98) w := hd.get 5 (by kernel_rfl)
                  simp only [Fact.holds] at h98
                  clear hd
                  simp only [h94, h96, h98] at hK
                  go_simp
                  go_at_call 9
                  refine (direct_out _ _ N w HOUT.out).mono ?_
                  rintro z w2 ⟨rfl, rfl⟩
                  exact hK.out _ _ (Chg.refl _ _) rfl
                · intro u w hc hd K hK -- 100
                  clear hd
                  go_simp
                  exact hK.out (.pointer (some ⟨P, 1, none⟩)) w (Chg.refl _ _) rfl
                · intro u w hc hd K hK -- 101
                  have h100 : (Fact.val (.pointer (some ⟨P, 1, none⟩))).holds (u 100) w := hd.get 7 (by kernel_rfl)
                  simp only [Fact.holds] at h100
                  clear hd
                  simp only [h100] at hK
                  have hcell := cell_chg (p1) hc
                  go_simp
                  exact hK.out _ _ (Chg.refl _ _) rfl
                · intro u w hc hd K hK -- 102
                  clear hd
                  go_simp
                  exact hK.out (.pointer (some ⟨O, 5, none⟩)) w (Chg.refl _ _) rfl
                · intro u w hc hd K hK -- 103
                  have h102 : (Fact.val (.pointer (some ⟨O, 5, none⟩))).holds (u 102) w := hd.get 9 (by kernel_rfl)
                  simp only [Fact.holds] at h102
                  clear hd
                  simp only [h102] at hK
                  have hcell := cell_chg (o5) hc
                  go_simp
                  exact hK.out _ _ (Chg.refl _ _) rfl
                · intro u w hc hd K hK -- 104
                  clear hd
                  go_simp
                  exact hK.out (.pointer (some ⟨O, 6, none⟩)) w (Chg.refl _ _) rfl
                · intro u w hc hd K hK -- 105
                  have h104 : (Fact.val (.pointer (some ⟨O, 6, none⟩))).holds (u 104) w := hd.get 11 (by kernel_rfl)
                  simp only [Fact.holds] at h104
                  clear hd
                  simp only [h104] at hK
                  have hcell := cell_chg (o6) hc
                  go_simp
                  exact hK.out _ _ (Chg.refl _ _) rfl
                · intro u w hc hd K hK -- 106
                  have h101 : (Fact.val (.pointer (some ⟨x.r, 0, none⟩))).holds (u 101) w := hd.get 8 (by kernel_rfl)
                  simp only [Fact.holds] at h101
                  have h103 : (Fact.val (.int .u32 (X : Int))).holds (u 103) w := hd.get 10 (by kernel_rfl)
                  simp only [Fact.holds] at h103
                  have h105 : (Fact.val (.int .i64 N)).holds (u 105) w := hd.get 12 (by kernel_rfl)
                  simp only [Fact.holds] at h105
                  clear hd
                  simp only [h101, h103, h105] at hK
                  go_simp
                  go_at_call 24
                  refine (redirect_out _ _ N w HOUT.out).mono ?_
                  rintro z w2 ⟨rfl, rfl⟩
                  exact hK.out _ _ (Chg.refl _ _) rfl
              · intro u w hc hA K hK
                have e78 : u 99 = .int .i64 7 := hA.at 99 (by kernel_rfl)
                have e89 : u 106 = .int .i64 7 := hA.at 106 (by kernel_rfl)
                clear hA
                have HP3 : Hid (Pl w0 w sb_ (.slice (some ⟨g, 0, none⟩) L lcap) its bv hs) := HPL.out.new hc
                clear hc
                go_simp
                refine hK.out _ _ ?_
                clear hK
                go_wp2
                go_roundw
                case rel => exact ⟨k + 1, its, hs, by omega, by go_num, HP3.out, kmore HKI.out (by omega), Nat.le_trans HHL.out (by omega)⟩
                case measure => simp [intOf]; omega
          · have d2 : decide (kd = 2) = false := by simp; exact k2
            have d2' : (kd == 2) = false := by simp; exact k2
            by_cases k3 : kd = 3
            · clear HBO' d1 d1' k1 d2 d2' k2
              subst k3
              have HK31 : Hid (x.e.k ≤ 32 * k) := by have := HKI.out j HJL.out; rw [HXJ.out] at this; exact this
              have HK4 : Hid (x.e.k ≤ 140737488355328) := by have := HK31.out; show x.e.k ≤ _; omega
              have HK6 : Hid (x.e.k ≤ 4611686018427387904) := by have := HK31.out; show x.e.k ≤ _; omega
              obtain ⟨q5, hq5⟩ : ∃ q : Int, ((x.e.k + 5 : Nat) : Int) = q := ⟨_, rfl⟩
              have HQ5 : Hid (((x.e.k + 5 : Nat) : Int) = q5) := hq5
              have p0 := cell0 HBP.out
              have p1 := cell1 HBP.out
              clear hq5
              go_wp2_with fail
              refine wp_region_last (mk := fun u => #[_, _, _, _, _, _, _, _, _, _, _, _, _, _, _, _, _, _, _, _, _, _, _, _, _, _, _, _, _, _, _, _, _, _, _, _, _, _, _, _, _, _, _, _, _, _, _, _, _, _, _, _, _, _, _, _, _, _, _, _, _, _, _, _, _, _, _, _, _, _, _, _, _, _, _, _, _, _, _, _, _, _, _, _, _, _, _, _, _, _, _, _, _, _, _, _, _, _, _, _, _, _, _, _, _, _, _, _, _, _, u 110, u 111, u 112, u 113, u 114, u 115, _, _, _, _, _, _, _, _, _, _, _, _, _, _, _, _, _, _, _, _, _, _, _, _, _, _, _, _, _, _, _, _, _, _, _, _, _, _, _, _, _, _, _, _, _, _, _, _, _, _, _, _, _, _, _, _, _, _, _, _, _, _, _, _, _, _, _, _, _, _, _, _, _, _, _, _, _, _, _, _, _, _, _, _, _, _, _, _, _, _, _, _, _, _, _]) (F := fun slot vv ww => (look [(110, .val (.pointer (some ⟨P, 0, none⟩))), (111, .val (.pointer (some ⟨x.a, 0, none⟩))), (112, .val (.int .i64 q5)), (113, .val (.pointer (some ⟨P, 1, none⟩))), (114, .val (.pointer (some ⟨x.r, 0, none⟩))), (115, .val (.int .i64 q5))] slot).holds vv ww) (fun slot => match slot with | 110 => u110 | 111 => u111 | 112 => u112 | 113 => u113 | 114 => u114 | 115 => u115 | _ => undef) rfl (by kernel_rfl) 6 _ rfl rfl (by kernel_rfl) ?_ (fun _ v w w' hc h => Fact.stays _ v w w' hc h) ?_ ?_
              · repeat (refine ⟨⟨_, rfl, fun _ _ => rfl⟩, ?_⟩)
                exact trivial
              · refine ⟨?_, ?_, ?_, ?_, ?_, ?_, trivial⟩
                · intro u w hc hd K hK -- 110
                  clear hd
                  go_simp
                  exact hK.out (.pointer (some ⟨P, 0, none⟩)) w (Chg.refl _ _) rfl
                · intro u w hc hd K hK -- 111
                  have h110 : (Fact.val (.pointer (some ⟨P, 0, none⟩))).holds (u 110) w := hd.get 0 (by kernel_rfl)
                  simp only [Fact.holds] at h110
                  clear hd
                  simp only [h110] at hK
                  have hcell := cell_chg (p0) hc
                  go_simp
                  exact hK.out _ _ (Chg.refl _ _) rfl
                · intro u w hc hd K hK -- 112
                  have h111 : (Fact.val (.pointer (some ⟨x.a, 0, none⟩))).holds (u 111) w := hd.get 1 (by kernel_rfl)
                  simp only [Fact.holds] at h111
                  clear hd
                  simp only [h111] at hK
                  go_simp
                  go_at_call 11
                  refine (size_any w0.heap.size x.a x.v x.e w (HG.out.new hc).en HK4.out).mono ?_
                  rintro z w2 ⟨rfl, c2⟩
                  rw [HQ5.out]
                  exact hK.out _ _ c2 rfl
                · intro u w hc hd K hK -- 113
                  clear hd
                  go_simp
                  exact hK.out (.pointer (some ⟨P, 1, none⟩)) w (Chg.refl _ _) rfl
                · intro u w hc hd K hK -- 114
                  have h113 : (Fact.val (.pointer (some ⟨P, 1, none⟩))).holds (u 113) w := hd.get 3 (by kernel_rfl)
                  simp only [Fact.holds] at h113
                  clear hd
                  simp only [h113] at hK
                  have hcell := cell_chg (p1) hc
                  go_simp
                  exact hK.out _ _ (Chg.refl _ _) rfl
                · intro u w hc hd K hK -- 115
                  have h114 : (Fact.val (.pointer (some ⟨x.r, 0, none⟩))).holds (u 114) w := hd.get 4 (by kernel_rfl)
                  simp only [Fact.holds] at h114
                  clear hd
                  simp only [h114] at hK
                  go_simp
                  go_at_call 25
                  refine (resize_any w0.heap.size x.r x.y (Rc.by_ x.e) x.e.R x.e.k w (HG.out.new hc).re HK6.out).mono ?_
                  rintro z w2 ⟨rfl, rfl⟩
                  rw [HQ5.out]
                  exact hK.out _ _ (Chg.refl _ _) rfl
              · intro u w hc hA K hK
                have e78 : u 112 = .int .i64 q5 := hA.at 112 (by kernel_rfl)
                have e89 : u 115 = .int .i64 q5 := hA.at 115 (by kernel_rfl)
                clear hA
                have HP3 : Hid (Pl w0 w sb_ (.slice (some ⟨g, 0, none⟩) L lcap) its bv hs) := HPL.out.new hc
                clear hc
                go_simp
                refine hK.out _ _ ?_
                clear hK
                go_wp2
                go_roundw
                case rel => exact ⟨k + 1, its, hs, by omega, by go_num, HP3.out, kmore HKI.out (by omega), Nat.le_trans HHL.out (by omega)⟩
                case measure => simp [intOf]; omega
            · have d3 : decide (kd = 3) = false := by simp; exact k3
              have d3' : (kd == 3) = false := by simp; exact k3
              by_cases k4 : kd = 4
              · clear HBO' d1 d1' k1 d2 d2' k2 d3 d3' k3
                subst k4
                have HK31 : Hid (x.e.k ≤ 32 * k) := by have := HKI.out j HJL.out; rw [HXJ.out] at this; exact this
                have HK5 : Hid (x.e.k + 5 ≤ 140737488355328) := by have := HK31.out; show x.e.k + 5 ≤ _; omega
                have HBL : Hid ((Rc.by_ x.e).length ≤ 140737488355328) := by show (Rc.dg _ _).length ≤ _; rw [Rc.dg_len]; exact HK5.out
                have p0 := cell0 HBP.out
                go_wp2_with fail
                refine (bytes_any w0.heap.size x.a x.v x.e _ HG.out.en HK5.out).mono ?_
                rintro z w5 ⟨vb, rfl, hob, c5⟩
                obtain ⟨adb, capb, rfl, _⟩ := own_any hob
                have HPL5 : Hid (Pl w0 w5 sb_ (.slice (some ⟨g, 0, none⟩) L lcap) its bv hs) := HPL.out.new c5
                have HLB5 : Hid (Loose w0 w5 its hs (.slice adb (x.e.k + 5) capb) (x.e.k + 5) (nums (Rc.by_ x.e))) := HPL.out.loose hob
                have HG5 : Hid (Good w5 w0.heap.size x) := HG.out.new c5
                have HBP5 : Hid (w5.heap[P]? = some (.cells #[.pointer (some ⟨x.a, 0, none⟩), .pointer (some ⟨x.r, 0, none⟩)] 61 (0, 0))) := blk_keep HBP.out c5 (fun f => f)
                have p05 := cell0 HBP5.out
                clear hob c5 p0
                go_wp2_with fail
                refine (bytes_any w0.heap.size x.a x.v x.e _ HG5.out.en HK5.out).mono ?_
                rintro z w6 ⟨vc, rfl, hoc, c6⟩
                obtain ⟨adc, capc, rfl, _⟩ := own_any hoc
                have HPL6 : Hid (Pl w0 w6 sb_ (.slice (some ⟨g, 0, none⟩) L lcap) its bv hs) := HPL5.out.new c6
                have HLB : Hid (Loose w0 w6 its hs (.slice adb (x.e.k + 5) capb) (x.e.k + 5) (nums (Rc.by_ x.e))) := HLB5.out.new c6
                have HLC : Hid (Loose w0 w6 its hs (.slice adc (x.e.k + 5) capc) (x.e.k + 5) (nums (Rc.by_ x.e))) := HPL5.out.loose hoc
                have HNE : Hid (∀ g, (Value.slice adb (x.e.k + 5) capb).ownBlock = some g → (Value.slice adc (x.e.k + 5) capc).ownBlock ≠ some g) := fun g e e2 => by
                  have h1 := (HLB5.out.own.lt g e).2
                  have h2 := (hoc.lt g e2).1
                  omega
                have HG6 : Hid (Good w6 w0.heap.size x) := HG5.out.new c6
                have p1 := cell1 (blk_keep HBP5.out c6 (fun f => f))
                clear hoc c6 HPL5 HLB5 HG5 HBP5 p05
                go_wp2_with fail
                refine wp_region_last (mk := fun u => #[_, _, _, _, _, _, _, _, _, _, _, _, _, _, _, _, _, _, _, _, _, _, _, _, _, _, _, _, _, _, _, _, _, _, _, _, _, _, _, _, _, _, _, _, _, _, _, _, _, _, _, _, _, _, _, _, _, _, _, _, _, _, _, _, _, _, _, _, _, _, _, _, _, _, _, _, _, _, _, _, _, _, _, _, _, _, _, _, _, _, _, _, _, _, _, _, _, _, _, _, _, _, _, _, _, _, _, _, _, _, _, _, _, _, _, _, _, _, _, _, _, _, _, _, _, u 125, u 126, u 127, u 128, u 129, u 130, u 131, u 132, u 133, u 134, u 135, u 136, u 137, _, _, _, _, _, _, _, _, _, _, _, _, _, _, _, _, _, _, _, _, _, _, _, _, _, _, _, _, _, _, _, _, _, _, _, _, _, _, _, _, _, _, _, _, _, _, _, _, _, _, _, _, _, _, _, _, _, _, _, _, _, _, _, _, _, _, _, _, _, _, _, _, _]) (F := fun slot vv ww => (look [(125, .val (.slice adb (x.e.k + 5) capb)), (126, .val (.string (sb x.e))), (127, .val (.pointer (some ⟨P, 1, none⟩))), (128, .val (.pointer (some ⟨x.r, 0, none⟩))), (129, .is (fun q wq => wq.ownsRow w0.heap.size 5 1 q (Rc.by_ x.e).length (ins .u8 (nums (Rc.by_ x.e))))), (130, .val (.string (sb x.e))), (131, .val (.bool false)), (132, .val (.bool false)), (133, .val (.slice adc (x.e.k + 5) capc)), (134, .val (.string (sb x.e))), (135, .val (.slice adb (x.e.k + 5) capb)), (136, .val (.string (sb x.e))), (137, .val (.bool false))] slot).holds vv ww) (fun slot => match slot with | 125 => u125 | 126 => u126 | 127 => u127 | 128 => u128 | 129 => u129 | 130 => u130 | 131 => u131 | 132 => u132 | 133 => u133 | 134 => u134 | 135 => u135 | 136 => u136 | 137 => u137 | _ => undef) rfl (by kernel_rfl) 13 _ rfl rfl (by kernel_rfl) ?_ (fun _ v w w' hc h => Fact.stays _ v w w' hc h) ?_ ?_
                · repeat (refine ⟨⟨_, rfl, fun _ _ => rfl⟩, ?_⟩)
                  exact trivial
                · refine ⟨?_, ?_, ?_, ?_, ?_, ?_, ?_, ?_, ?_, ?_, ?_, ?_, ?_, trivial⟩
                  · intro u w hc hd K hK -- 125
                    clear hd
                    go_simp
                    exact hK.out (.slice adb (x.e.k + 5) capb) w (Chg.refl _ _) rfl
                  · intro u w hc hd K hK -- 126
                    have h125 : (Fact.val (.slice adb (x.e.k + 5) capb)).holds (u 125) w := hd.get 0 (by kernel_rfl)
                    simp only [Fact.holds] at h125
                    clear hd
                    simp only [h125] at hK
                    have hcv : (convert 29 9 (.slice adb (x.e.k + 5) capb)).run Try.prog w = .ok (.string (sb x.e)) w := conv_own (ownsRow_keep HLB.out.own hc (fun _ _ f => f))
                    go_simp
                    exact hK.out (.string (sb x.e)) w (Chg.refl _ _) rfl
                  · intro u w hc hd K hK -- 127
                    clear hd
                    go_simp
                    exact hK.out (.pointer (some ⟨P, 1, none⟩)) w (Chg.refl _ _) rfl
                  · intro u w hc hd K hK -- 128
                    have h127 : (Fact.val (.pointer (some ⟨P, 1, none⟩))).holds (u 127) w := hd.get 2 (by kernel_rfl)
                    simp only [Fact.holds] at h127
                    clear hd
                    simp only [h127] at hK
                    have hcell := cell_chg (p1) hc
                    go_simp
                    exact hK.out _ _ (Chg.refl _ _) rfl
                  · intro u w hc hd K hK -- 129
                    have h128 : (Fact.val (.pointer (some ⟨x.r, 0, none⟩))).holds (u 128) w := hd.get 3 (by kernel_rfl)
                    simp only [Fact.holds] at h128
                    clear hd
                    simp only [h128] at hK
                    go_simp
                    go_at_call 26
                    refine (rebytes_any w0.heap.size x.r x.y (Rc.by_ x.e) x.e.R x.e.k w (HG6.out.new hc).re HBL.out).mono ?_
                    rintro z w2 ⟨v2, rfl, ho, c2⟩
                    exact hK.out _ _ c2 ⟨w2, owns_base ho (Nat.le_trans HPL6.out.chg.size hc.size), Chg.refl _ _⟩
                  · intro u w hc hd K hK -- 130
                    have h129 : (Fact.is (fun q wq => wq.ownsRow w0.heap.size 5 1 q (Rc.by_ x.e).length (ins .u8 (nums (Rc.by_ x.e))))).holds (u 129) w := hd.get 4 (by kernel_rfl)
                    obtain ⟨q129, h129, p129⟩ := h129
                    clear hd
                    have o129 := ownsRow_keep h129 p129 (fun _ _ f => f)
                    obtain ⟨ad, cap, e129, _⟩ := own_any o129
                    rw [e129] at o129
                    have hcv : (convert 29 9 (.slice ad (Rc.by_ x.e).length cap)).run Try.prog w = .ok (.string (sb x.e)) w := conv_own o129
                    clear o129
                    simp only [e129] at hK
                    go_simp
                    exact hK.out (.string (sb x.e)) w (Chg.refl _ _) rfl
                  · intro u w hc hd K hK -- 131
                    have h126 : (Fact.val (.string (sb x.e))).holds (u 126) w := hd.get 1 (by kernel_rfl)
                    simp only [Fact.holds] at h126
                    have h130 : (Fact.val (.string (sb x.e))).holds (u 130) w := hd.get 5 (by kernel_rfl)
                    simp only [Fact.holds] at h130
                    clear hd
                    simp only [h126, h130] at hK
                    go_simp
                    exact hK.out (.bool false) w (Chg.refl _ _) rfl
                  · intro u w hc hd K hK -- 132
                    have h131 : (Fact.val (.bool false)).holds (u 131) w := hd.get 6 (by kernel_rfl)
                    simp only [Fact.holds] at h131
                    clear hd
                    simp only [h131] at hK
                    go_simp
                    exact hK.out (.bool false) w (Chg.refl _ _) rfl
                  · intro u w hc hd K hK -- 133
                    have h132 : (Fact.val (.bool false)).holds (u 132) w := hd.get 7 (by kernel_rfl)
                    simp only [Fact.holds] at h132
                    clear hd
                    simp only [h132] at hK
                    go_simp
                    exact hK.out (.slice adc (x.e.k + 5) capc) w (Chg.refl _ _) rfl
                  · intro u w hc hd K hK -- 134
                    have h133 : (Fact.val (.slice adc (x.e.k + 5) capc)).holds (u 133) w := hd.get 8 (by kernel_rfl)
                    simp only [Fact.holds] at h133
                    have h132 : (Fact.val (.bool false)).holds (u 132) w := hd.get 7 (by kernel_rfl)
                    simp only [Fact.holds] at h132
                    clear hd
                    simp only [h132, h133] at hK
                    have hcv : (convert 29 9 (.slice adc (x.e.k + 5) capc)).run Try.prog w = .ok (.string (sb x.e)) w := conv_own (ownsRow_keep HLC.out.own hc (fun _ _ f => f))
                    go_simp
                    exact hK.out (.string (sb x.e)) w (Chg.refl _ _) rfl
                  · intro u w hc hd K hK -- 135
                    have h132 : (Fact.val (.bool false)).holds (u 132) w := hd.get 7 (by kernel_rfl)
                    simp only [Fact.holds] at h132
                    clear hd
                    simp only [h132] at hK
                    go_simp
                    exact hK.out (.slice adb (x.e.k + 5) capb) w (Chg.refl _ _) rfl
                  · intro u w hc hd K hK -- 136
                    have h135 : (Fact.val (.slice adb (x.e.k + 5) capb)).holds (u 135) w := hd.get 10 (by kernel_rfl)
                    simp only [Fact.holds] at h135
                    have h132 : (Fact.val (.bool false)).holds (u 132) w := hd.get 7 (by kernel_rfl)
                    simp only [Fact.holds] at h132
                    clear hd
                    simp only [h132, h135] at hK
                    have hcv : (convert 29 9 (.slice adb (x.e.k + 5) capb)).run Try.prog w = .ok (.string (sb x.e)) w := conv_own (ownsRow_keep HLB.out.own hc (fun _ _ f => f))
                    go_simp
                    exact hK.out (.string (sb x.e)) w (Chg.refl _ _) rfl
                  · intro u w hc hd K hK -- 137
                    have h134 : (Fact.val (.string (sb x.e))).holds (u 134) w := hd.get 9 (by kernel_rfl)
                    simp only [Fact.holds] at h134
                    have h136 : (Fact.val (.string (sb x.e))).holds (u 136) w := hd.get 11 (by kernel_rfl)
                    simp only [Fact.holds] at h136
                    have h132 : (Fact.val (.bool false)).holds (u 132) w := hd.get 7 (by kernel_rfl)
                    simp only [Fact.holds] at h132
                    clear hd
                    simp only [h132, h134, h136] at hK
                    go_simp
                    exact hK.out (.bool false) w (Chg.refl _ _) rfl
                · intro u w hc hA K hK
                  have e78 : u 132 = .bool false := hA.at 132 (by kernel_rfl)
                  have e89 : u 137 = .bool false := hA.at 137 (by kernel_rfl)
                  clear hA
                  have HPL7 : Hid (Pl w0 w sb_ (.slice (some ⟨g, 0, none⟩) L lcap) its bv hs) := HPL6.out.new hc
                  have HLB7 : Hid (Loose w0 w its hs (.slice adb (x.e.k + 5) capb) (x.e.k + 5) (nums (Rc.by_ x.e))) := HLB.out.new hc
                  have HLC7 : Hid (Loose w0 w its hs (.slice adc (x.e.k + 5) capc) (x.e.k + 5) (nums (Rc.by_ x.e))) := HLC.out.new hc
                  clear hc HPL6 HLB HLC HG6 p1
                  obtain ⟨la, lc, hbv⟩ := book_form HPL7.out.book.book
                  obtain ⟨M, hM⟩ : ∃ M, hs.length = M := ⟨_, rfl⟩
                  have HM : Hid (hs.length = M) := hM
                  rw [hM] at hbv
                  subst hbv
                  clear hM
                  go_simp
                  refine hK.out _ _ ?_
                  clear hK
                  have hhold := Bk.hold_any w0.heap.size (.slice adb (x.e.k + 5) capb) (nums (Rc.by_ x.e)) (x.e.k + 5) M w (by have := HK31.out; omega) HLB7.out.own HPL7.out.chg.size (by have := HHL.out; have := HM.out; omega)
                  have HHOLD : Hid (∀ w2, w2 = w → Calls Try.prog 27 #[.slice adb (x.e.k + 5) capb, .int .i64 ((M : Nat) : Int)] w2 fun e w' => ∃ (h' : Bk.Hd) (va : Option Addr) (vc : Nat), e = .returned (.agg #[.slice va h'.ys.length vc, .int .i64 h'.n, .int .u8 h'.mark, .string h'.want, .bool h'.kept]) ∧ h'.v = .slice va h'.ys.length vc ∧ h'.ok ∧ h'.n = x.e.k + 5 ∧ Bk.Row w0.heap.size w' h' ∧ Chg (fun b => (Value.slice adb (x.e.k + 5) capb).ownBlock = some b) w w' ∧ Moved w (.slice adb (x.e.k + 5) capb) h'.v) := fun w2 e2 => by subst e2; exact hhold
                  clear hhold
                  go_wp2_with fail
                  refine (HHOLD.out _ rfl).mono ?_
                  rintro z w8 ⟨hb, vab, vcb, rfl, hva, hok, hhn, hrow, hc3, hm3⟩
                  have HCE : Hid (hb.cells = [.slice vab hb.ys.length vcb, .int .i64 hb.n, .int .u8 hb.mark, .string hb.want, .bool hb.kept]) := by show Bk.Hd.cells _ = _; unfold Bk.Hd.cells; rw [hva]
                  have hhn1 : hb.n ≤ 1099511627776 := by rw [hhn]; have := HK31.out; omega
                  have hbk := bk_keep HPL7.out.book hc3 (fun g e f => by
                    obtain ⟨cur, hcur⟩ := Bk.own_blk HPL7.out.book.book e
                    obtain ⟨cur2, hcur2⟩ := owns_blk HLB7.out.own f
                    exact ty_ne hcur hcur2 (by decide)) (fun i a hi g e f => HLB7.out.rows i a hi g e f)
                  have hal := fun o => hbk.book.alloc o
                  rw [show hs.length = M from HM.out] at hal
                  have hsz4 : w0.heap.size ≤ w8.heap.size := Nat.le_trans HPL7.out.chg.size hc3.size
                  have HM3 : Hid (Moved w (.slice adb (x.e.k + 5) capb) hb.v) := hm3
                  have HC3 : Hid (Chg (fun b => (Value.slice adb (x.e.k + 5) capb).ownBlock = some b) w w8) := hc3
                  have HROW : Hid (Bk.Row w0.heap.size w8 hb) := hrow
                  have HOK : Hid (hb.ok ∧ hb.n ≤ 1099511627776) := ⟨hok, hhn1⟩
                  have HBK : Hid (Bk.Bk w0.heap.size w8 (.slice la M lc) hs) := hbk
                  have hn16 : M ≤ 1000000000 := by have := HHL.out; have := HM.out; omega
                  clear hva hok hhn hrow hc3 hm3 hhn1 HHOLD hbk
                  obtain ⟨j0, hj, hj0, hj1, hj2⟩ := info_parts Bk.infoHeld
                  go_wp2_with (at_builtin; refine wpList_append_moved rfl _ _ 63 rfl w0.heap.size 69 j0 (.agg #[.slice none 0 0, .int .i64 0, .int .u8 0, .string ⟨#[]⟩, .bool false]) 5 64 Try.underlying63 hj hj0 hj1 hj2 rfl (by decide) _ M (Bk.hcells (hs)) rfl (some ⟨w8.heap.size, 0, none⟩) 1 1 rfl [.slice vab hb.ys.length vcb, .int .i64 hb.n, .int .u8 hb.mark, .string hb.want, .bool hb.kept] (hal _) (Bk.from_held _ w8.heap.size rfl _ _ _ _ _) (Bk.held_one _ _ _ _ _ _ _ _ rfl) (by unfold maxLen; omega) (by omega) (Nat.le_trans hsz4 (by rw [World.size_alloc]; omega)) ?_)
                  intro lvb w9 hown4 hg4 hm4
                  rw [← HCE.out] at hown4
                  have hpl := HPL7.out.hold HLB7.out HC3.out HM3.out HROW.out HOK.out.1 HOK.out.2 (by rw [show hs.length = M from HM.out]; exact hown4) hg4
                  have HPL9 : Hid (Pl w0 w9 sb_ (.slice (some ⟨g, 0, none⟩) L lcap) its lvb (hs ++ [hb])) := hpl.1
                  have HLC9 : Hid (Loose w0 w9 its (hs ++ [hb]) (.slice adc (x.e.k + 5) capc) (x.e.k + 5) (nums (Rc.by_ x.e))) := HLC7.out.beside HLB7.out HNE.out HC3.out HM3.out ⟨_, HBK.out.book⟩ hg4
                  obtain ⟨lab, lcb, hlvb⟩ : ∃ a c, lvb = .slice a (M + 1) c := by
                    obtain ⟨a, c, e⟩ := book_form HPL9.out.book.book
                    exact ⟨a, c, by rw [e]; simp [HM.out]⟩
                  subst hlvb
                  clear hown4 hg4 hm4 hpl hal hsz4 HCE HM3 HC3 HROW HOK HBK hn16 hj hj0 hj1 hj2 j0
                  have HM1 : Hid ((hs ++ [hb]).length = M + 1) := by show _ = _; rw [List.length_append, HM.out]; rfl
                  clear HPL7 HLB7 HLC7 HNE
                  have hhold := Bk.hold_any w0.heap.size (.slice adc (x.e.k + 5) capc) (nums (Rc.by_ x.e)) (x.e.k + 5) (M + 1) w9 (by have := HK31.out; omega) HLC9.out.own HPL9.out.chg.size (by have := HHL.out; have := HM.out; omega)
                  have HHOLD : Hid (∀ w2, w2 = w9 → Calls Try.prog 27 #[.slice adc (x.e.k + 5) capc, .int .i64 (((M + 1) : Nat) : Int)] w2 fun e w' => ∃ (h' : Bk.Hd) (va : Option Addr) (vc : Nat), e = .returned (.agg #[.slice va h'.ys.length vc, .int .i64 h'.n, .int .u8 h'.mark, .string h'.want, .bool h'.kept]) ∧ h'.v = .slice va h'.ys.length vc ∧ h'.ok ∧ h'.n = x.e.k + 5 ∧ Bk.Row w0.heap.size w' h' ∧ Chg (fun b => (Value.slice adc (x.e.k + 5) capc).ownBlock = some b) w9 w' ∧ Moved w9 (.slice adc (x.e.k + 5) capc) h'.v) := fun w2 e2 => by subst e2; exact hhold
                  clear hhold
                  go_wp2_with fail
                  refine (HHOLD.out _ rfl).mono ?_
                  rintro z wA ⟨hc, vac, vcc, rfl, hva, hok, hhn, hrow, hc3, hm3⟩
                  have HCE : Hid (hc.cells = [.slice vac hc.ys.length vcc, .int .i64 hc.n, .int .u8 hc.mark, .string hc.want, .bool hc.kept]) := by show Bk.Hd.cells _ = _; unfold Bk.Hd.cells; rw [hva]
                  have hhn1 : hc.n ≤ 1099511627776 := by rw [hhn]; have := HK31.out; omega
                  have hbk := bk_keep HPL9.out.book hc3 (fun g e f => by
                    obtain ⟨cur, hcur⟩ := Bk.own_blk HPL9.out.book.book e
                    obtain ⟨cur2, hcur2⟩ := owns_blk HLC9.out.own f
                    exact ty_ne hcur hcur2 (by decide)) (fun i a hi g e f => HLC9.out.rows i a hi g e f)
                  have hal := fun o => hbk.book.alloc o
                  rw [show (hs ++ [hb]).length = (M + 1) from HM1.out] at hal
                  have hsz4 : w0.heap.size ≤ wA.heap.size := Nat.le_trans HPL9.out.chg.size hc3.size
                  have HM3 : Hid (Moved w9 (.slice adc (x.e.k + 5) capc) hc.v) := hm3
                  have HC3 : Hid (Chg (fun b => (Value.slice adc (x.e.k + 5) capc).ownBlock = some b) w9 wA) := hc3
                  have HROW : Hid (Bk.Row w0.heap.size wA hc) := hrow
                  have HOK : Hid (hc.ok ∧ hc.n ≤ 1099511627776) := ⟨hok, hhn1⟩
                  have HBK : Hid (Bk.Bk w0.heap.size wA (.slice lab (M + 1) lcb) (hs ++ [hb])) := hbk
                  have hn16 : (M + 1) ≤ 1000000000 := by have := HHL.out; have := HM.out; omega
                  clear hva hok hhn hrow hc3 hm3 hhn1 HHOLD hbk
                  obtain ⟨j0, hj, hj0, hj1, hj2⟩ := info_parts Bk.infoHeld
                  go_wp2_with (at_builtin; refine wpList_append_moved rfl _ _ 63 rfl w0.heap.size 69 j0 (.agg #[.slice none 0 0, .int .i64 0, .int .u8 0, .string ⟨#[]⟩, .bool false]) 5 64 Try.underlying63 hj hj0 hj1 hj2 rfl (by decide) _ (M + 1) (Bk.hcells ((hs ++ [hb]))) rfl (some ⟨wA.heap.size, 0, none⟩) 1 1 rfl [.slice vac hc.ys.length vcc, .int .i64 hc.n, .int .u8 hc.mark, .string hc.want, .bool hc.kept] (hal _) (Bk.from_held _ wA.heap.size rfl _ _ _ _ _) (Bk.held_one _ _ _ _ _ _ _ _ rfl) (by unfold maxLen; omega) (by omega) (Nat.le_trans hsz4 (by rw [World.size_alloc]; omega)) ?_)
                  intro lvc wB hown4 hg4 hm4
                  rw [← HCE.out] at hown4
                  have hpl := HPL9.out.hold HLC9.out HC3.out HM3.out HROW.out HOK.out.1 HOK.out.2 (by rw [show (hs ++ [hb]).length = (M + 1) from HM1.out]; exact hown4) hg4
                  have HPLB : Hid (Pl w0 wB sb_ (.slice (some ⟨g, 0, none⟩) L lcap) its lvc ((hs ++ [hb]) ++ [hc])) := hpl.1
                  obtain ⟨lac, lcc, hlvc⟩ : ∃ a c, lvc = .slice a ((M + 1) + 1) c := by
                    obtain ⟨a, c, e⟩ := book_form HPLB.out.book.book
                    exact ⟨a, c, by rw [e]; simp [HM.out]⟩
                  subst hlvc
                  clear hown4 hg4 hm4 hpl hal hsz4 HCE HM3 HC3 HROW HOK HBK hn16 hj hj0 hj1 hj2 j0
                  have HHN : Hid (((hs ++ [hb]) ++ [hc]).length ≤ 2 * (k + 1)) := by show _ ≤ _; rw [List.length_append, HM1.out]; have := HHL.out; have := HM.out; simp; omega
                  clear HPL9 HLC9 HM1
                  go_wp2
                  go_roundw
                  case rel => exact ⟨k + 1, its, _, by omega, by go_num, HPLB.out, kmore HKI.out (by omega), HHN.out⟩
                  case measure => simp [intOf]; omega
              · have d4 : decide (kd = 4) = false := by simp; exact k4
                have d4' : (kd == 4) = false := by simp; exact k4
                by_cases k5 : kd = 5
                · skip
                  subst k5
                  have HK31 : Hid (x.e.k ≤ 32 * k) := by have := HKI.out j HJL.out; rw [HXJ.out] at this; exact this
                  have HK4 : Hid (x.e.k ≤ 140737488355328) := by have := HK31.out; show x.e.k ≤ _; omega
                  have HBL : Hid ((Rc.by_ x.e).length ≤ 140737488355328) := by show (Rc.dg _ _).length ≤ _; rw [Rc.dg_len]; have := HK31.out; omega
                  have HBO : Hid (W.heap[O]? = some (.cells #[.int .i64 5, .int .i64 E, .int .i64 S, .int .i64 I, .int .i64 Bt, .int .u32 (X : Int), .int .i64 N] 65 (0, 0))) := HBO'.out
                  have p0 := cell0 HBP.out
                  have p1 := cell1 HBP.out
                  clear HBO'
                  go_wp2_with fail
                  refine wp_region_grow (mk := fun u => #[_, _, _, _, _, _, _, _, _, _, _, _, _, _, _, _, _, _, u 18, _, _, _, _, _, _, _, _, _, _, _, _, _, _, _, _, _, _, _, _, _, _, _, _, _, _, _, _, _, _, _, _, _, _, _, _, _, _, _, _, _, _, _, _, _, _, _, _, _, _, _, _, _, _, _, _, _, _, _, _, _, _, _, _, _, _, _, _, _, _, _, _, _, _, _, _, _, _, _, _, _, _, _, _, _, _, _, _, _, _, _, _, _, _, _, _, _, _, _, _, _, _, _, _, _, _, _, _, _, _, _, _, _, _, _, _, _, _, _, _, _, _, _, _, _, _, _, _, _, _, _, _, _, _, _, _, _, u 156, u 157, u 158, u 159, u 160, u 161, u 162, _, _, _, _, _, _, _, _, _, _, _, _, _, _, _, _, _, _, _, _, _, _, _, _, _, _, _, _, _, _, _, _, _, _, _, _, _, _, _, _, _, _, _, _, _, _, _, _]) (F := fun slot vv ww => (look [(156, .val (.pointer (some ⟨P, 0, none⟩))), (157, .val (.pointer (some ⟨x.a, 0, none⟩))), (158, .any), (159, .val (.pointer (some ⟨P, 1, none⟩))), (160, .val (.pointer (some ⟨x.r, 0, none⟩))), (161, .any), (162, .any), (18, .is (fun q wq => ∃ G, q = .pointer (some ⟨G, 0, none⟩) ∧ W.heap.size ≤ G ∧ wq.heap[G]? = some (.cells #[.pointer none, .pointer none] 61 (0, 0))))] slot).holds vv ww) (J := fun q u w => Chg (fun _ => False) W w ∧ ForkJ W x (u 158) (u 161) (u 162) q w) [2, 5, 6] (fun slot => match slot with | 18 => u18 | 156 => u156 | 157 => u157 | 158 => u158 | 159 => u159 | 160 => u160 | 161 => u161 | 162 => u162 | _ => undef) rfl (by kernel_rfl) 8 _ rfl rfl (by kernel_rfl) (by kernel_rfl) (by kernel_rfl) (by decide) ?_ ?_ ?_ (fun _ v w w' hc h => Fact.stays _ v w w' hc h) ?_ ?_ ?_
                  · repeat (refine ⟨⟨_, rfl, fun _ _ => rfl⟩, ?_⟩)
                    exact trivial
                  · intro q u u2 w h hj
                    have e1 : u 158 = u2 158 := h 2 (by decide)
                    have e2 : u 161 = u2 161 := h 5 (by decide)
                    have e3 : u 162 = u2 162 := h 6 (by decide)
                    show _ ∧ ForkJ W x (u2 158) (u2 161) (u2 162) q w
                    rw [← e1, ← e2, ← e3]
                    exact hj
                  · exact fun q u w w2 hc hj => ⟨chg_then hj.1 hc, forkj_new hj.2 hc⟩
                  · exact ⟨(Chg.refl _ W).drew, trivial⟩
                  · refine ⟨?_, ?_, ?_, ?_, ?_, ?_, ?_, ?_, trivial⟩
                    · show StepS _ _ _ _ _ _  _ -- 156
                      unfold StepS
                      intro q u w hj hd K hK
                      clear hd
                      go_simp
                      exact hK.out (.pointer (some ⟨P, 0, none⟩)) w (Chg.refl _ _) rfl
                    · show StepS _ _ _ _ _ _  _ -- 157
                      unfold StepS
                      intro q u w hj hd K hK
                      have h156 : (Fact.val (.pointer (some ⟨P, 0, none⟩))).holds (u 156) w := hd.get 0 (by kernel_rfl)
                      simp only [Fact.holds] at h156
                      clear hd
                      simp only [h156] at hK
                      have hcell := cell_chg (p0) hj.1
                      go_simp
                      exact hK.out _ _ (Chg.refl _ _) rfl
                    · show StepT _ _ _ _ _ _ 0 _ -- 158
                      unfold StepT
                      intro u w hj hd K hK
                      have h157 : (Fact.val (.pointer (some ⟨x.a, 0, none⟩))).holds (u 157) w := hd.get 1 (by kernel_rfl)
                      simp only [Fact.holds] at h157
                      clear hd
                      simp only [h157] at hK
                      obtain ⟨hc, _⟩ := hj
                      go_simp
                      go_at_call 19
                      refine (efork_any w0.heap.size x.a x.v x.e w (HG.out.new hc).en HK4.out).mono ?_
                      rintro z w2 ⟨a2, v2, rfl, _, hE2, c2⟩
                      exact hK.out (.pointer (some ⟨a2, 0, none⟩)) w2 c2 ⟨chg_then hc c2, a2, v2, by simp [upd], enc_base hE2 hc.size⟩ trivial
                    · show StepS _ _ _ _ _ _  _ -- 159
                      unfold StepS
                      intro q u w hj hd K hK
                      clear hd
                      go_simp
                      exact hK.out (.pointer (some ⟨P, 1, none⟩)) w (Chg.refl _ _) rfl
                    · show StepS _ _ _ _ _ _  _ -- 160
                      unfold StepS
                      intro q u w hj hd K hK
                      have h159 : (Fact.val (.pointer (some ⟨P, 1, none⟩))).holds (u 159) w := hd.get 3 (by kernel_rfl)
                      simp only [Fact.holds] at h159
                      clear hd
                      simp only [h159] at hK
                      have hcell := cell_chg (p1) hj.1
                      go_simp
                      exact hK.out _ _ (Chg.refl _ _) rfl
                    · show StepT _ _ _ _ _ _ 1 _ -- 161
                      unfold StepT
                      intro u w hj hd K hK
                      have h160 : (Fact.val (.pointer (some ⟨x.r, 0, none⟩))).holds (u 160) w := hd.get 4 (by kernel_rfl)
                      simp only [Fact.holds] at h160
                      clear hd
                      simp only [h160] at hK
                      obtain ⟨hc, a2, v2, e158, hE2⟩ := hj
                      have E158 : Hid (u 158 = .pointer (some ⟨a2, 0, none⟩)) := e158
                      clear e158
                      go_simp
                      go_at_call 28
                      refine (refork_any w0.heap.size x.r x.y (Rc.by_ x.e) x.e.R x.e.k w (HG.out.new hc).re HBL.out).mono ?_
                      rintro z w2 ⟨r2, y2, rfl, _, hR2, c2⟩
                      exact hK.out (.pointer (some ⟨r2, 0, none⟩)) w2 c2 ⟨chg_then hc c2, a2, r2, v2, y2, by simp [upd]; exact E158.out, by simp [upd], newpair hc c2 hE2 hR2 HG.out.ok⟩ trivial
                    · show StepT _ _ _ _ _ _ 2 _ -- 162
                      unfold StepT
                      intro u w hj hd K hK
                      clear hd
                      obtain ⟨hc, a2, r2, v2, y2, e158, e161, hN⟩ := hj
                      simp only [e158, e161] at hK
                      go_simp
                      exact hK.out (.agg #[.pointer (some ⟨a2, 0, none⟩), .pointer (some ⟨r2, 0, none⟩)]) w (Chg.refl _ _) ⟨hc, a2, r2, v2, y2, by simp [upd], hN⟩ trivial
                    · show StepS _ _ _ _ _ _  _ -- 18
                      unfold StepS
                      intro q u w hj hd K hK
                      clear hd
                      obtain ⟨hc, _⟩ := hj
                      go_simp
                      exact hK.out _ _ (chg_one w (.cells #[.pointer none, .pointer none] 61)) ⟨_, ⟨_, rfl, hc.size, heap_alloc_last w _⟩, Chg.refl _ _⟩
                  · intro u w hj hA K hK
                    have a18 : (Fact.is (fun q wq => ∃ G, q = .pointer (some ⟨G, 0, none⟩) ∧ W.heap.size ≤ G ∧ wq.heap[G]? = some (.cells #[.pointer none, .pointer none] 61 (0, 0)))).holds (u 18) w := hA.at 18 (by kernel_rfl)
                    clear hA
                    obtain ⟨wq, ⟨G, e18, hG18, hb18⟩, cq⟩ := a18
                    obtain ⟨hc, a2, r2, v2, y2, e162, hN⟩ := hj
                    have hb := blk_keep hb18 cq (fun f => f)
                    have z0 := cell0 hb
                    have z1 := cell1 hb
                    have zf : ∀ j, w.frozen? ⟨G, j, none⟩ = false := fun j => by simp [World.frozen?, hb]
                    have zf0 := zf 0
                    have zf1 := zf 1
                    obtain ⟨wE, hwE⟩ : ∃ wE, wE = (w.setCell ⟨G, 0, none⟩ (.pointer (some ⟨a2, 0, none⟩))).setCell ⟨G, 1, none⟩ (.pointer (some ⟨r2, 0, none⟩)) := ⟨_, rfl⟩
                    have cE : Chg (fun z => z = G) w wE := by rw [hwE]; exact ((Chg.refl (fun z => z = G) w).setCell (p := ⟨G, 0, none⟩) (.inl rfl) _).setCell (p := ⟨G, 1, none⟩) (.inl rfl) _
                    have HGB : Hid (wE.heap[G]? = some (.cells #[.pointer (some ⟨a2, 0, none⟩), .pointer (some ⟨r2, 0, none⟩)] 61 (0, 0))) := by
                      have d1 := blk_setk (l := [.pointer none, .pointer none]) hb 0 (.pointer (some ⟨a2, 0, none⟩))
                      have d2 := blk_setk (l := [.pointer (some ⟨a2, 0, none⟩), .pointer none]) d1 1 (.pointer (some ⟨r2, 0, none⟩))
                      show wE.heap[G]? = _
                      rw [hwE]
                      exact d2
                    have HNP : Hid (NewPair W wE ⟨a2, r2, v2, y2, x.e⟩) := ⟨hN.good.keep cE (fun z e f => by rw [e] at f; exact hN.good.miss hb (by decide) (by decide) (by decide) f)⟩
                    have HCE : Hid (Chg (fun _ => False) W wE) := hc.trans cE (fun z e => .inr (by omega))
                    have HOE : Hid (wE.heap[O]? = some (.cells #[.int .i64 5, .int .i64 E, .int .i64 S, .int .i64 I, .int .i64 Bt, .int .u32 (X : Int), .int .i64 N] 65 (0, 0))) := blk_keep (blk_keep HBO.out hc (fun f => f)) cE (fun e => by have := lt_of_blk HBO.out; omega)
                    have HGW : Hid (W.heap.size ≤ G) := hG18
                    clear hN hc cE zf hb18 cq
                    go_simp
                    refine hK.out _ _ ?_
                    clear hK
                    rw [← hwE]
                    clear hwE z0 z1 zf0 zf1 hb
                    have t0 := (cells7 HOE.out).1
                    have HKE : Hid (x.e.k ≤ 32 * (k + 1)) := Nat.le_trans HK31.out (by omega)
                    have HPE : Hid (Pl w0 wE sb_ (.slice (some ⟨g, 0, none⟩) L lcap) its bv hs) := HPL.out.new HCE.out
                    obtain ⟨jP, hjP, hjz, hj2, hj16⟩ := info_parts infoP2
                    have c8 := chg_one wE (.cells #[.pointer (some ⟨a2, 0, none⟩), .pointer (some ⟨r2, 0, none⟩)] 61)
                    have hown : (wE.alloc (.cells #[.pointer (some ⟨a2, 0, none⟩), .pointer (some ⟨r2, 0, none⟩)] 61)).ownsRow w0.heap.size 61 2 (.slice (some ⟨g, 0, none⟩) L lcap) L (its.flatMap It.cells) := by
                      have := (HPE.out.new c8).row
                      rw [HL.out] at this
                      exact this
                    have hsz := (HPE.out.new c8).chg.size
                    have hsrc := from_p wE (.pointer (some ⟨a2, 0, none⟩)) (.pointer (some ⟨r2, 0, none⟩)) 61
                    have HC8 : Hid (Chg (fun _ => False) W (wE.alloc (.cells #[.pointer (some ⟨a2, 0, none⟩), .pointer (some ⟨r2, 0, none⟩)] 61))) := chg_then HCE.out c8
                    have HY8 : Hid (Good (wE.alloc (.cells #[.pointer (some ⟨a2, 0, none⟩), .pointer (some ⟨r2, 0, none⟩)] 61)) W.heap.size ⟨a2, r2, v2, y2, x.e⟩) := HNP.out.good.new c8
                    have n0 := cell0 HGB.out
                    have n1 := cell1 HGB.out
                    clear c8
                    by_cases h6 : L < 5
                    · go_wp2_with (at_builtin; refine wpList_append_moved rfl _ _ 62 rfl w0.heap.size 61 jP (.agg #[.pointer none, .pointer none]) 2 16 Try.underlying62 hjP hjz hj2 hj16 rfl (by decide) _ L (its.flatMap It.cells) rfl (some ⟨wE.heap.size, 0, none⟩) 1 1 rfl [.pointer (some ⟨a2, 0, none⟩), .pointer (some ⟨r2, 0, none⟩)] hown hsrc (fun u hu => by simp at hu; rcases hu with rfl | rfl <;> rfl) (by unfold maxLen; omega) (by omega) hsz ?_)
                      intro v9 w9 ho9 hg9 _
                      have HP9 : Hid (Pl w0 w9 sb_ v9 (its ++ [⟨a2, r2, v2, y2, x.e⟩]) bv hs) := HPL.out.push (x := ⟨a2, r2, v2, y2, x.e⟩) HC8.out (HY8.out.base HPL.out.chg.size) (fun z f => (HY8.out.lt f).1) (by rw [HL.out]; exact ho9) hg9 (by rw [HL.out]; exact h6)
                      have HKN : Hid (∀ q (h : q < (its ++ [(⟨a2, r2, v2, y2, x.e⟩ : It)]).length), ((its ++ [(⟨a2, r2, v2, y2, x.e⟩ : It)])[q]).e.k ≤ 32 * (k + 1)) := kpush (kmore HKI.out (by omega)) HKE.out
                      clear ho9 hg9 HC8 HY8 hown hsrc n0 n1
                      obtain ⟨la9, lc9, hv9⟩ : ∃ a c, v9 = .slice a (L + 1) c := by
                        obtain ⟨g9, c9, e9, _⟩ := HP9.out.at
                        exact ⟨some ⟨g9, 0, none⟩, c9, by rw [e9]; simp [HL.out]⟩
                      subst hv9
                      go_wp2
                      go_roundw
                      case rel => exact ⟨k + 1, _, hs, by omega, by go_num, HP9.out, HKN.out, Nat.le_trans HHL.out (by omega)⟩
                      case measure => simp [intOf]; omega
                    · have hd6 : decide ((L : Int) < 5) = false := by simp; omega
                      clear hown hsrc HC8 HY8
                      go_wp2
                      go_roundw
                      case rel => exact ⟨k + 1, its, hs, by omega, by go_num, HPE.out, kmore HKI.out (by omega), Nat.le_trans HHL.out (by omega)⟩
                      case measure => simp [intOf]; omega
                · have d5 : decide (kd = 5) = false := by simp; exact k5
                  have d5' : (kd == 5) = false := by simp; exact k5
                  by_cases k6 : kd = 6
                  · skip
                    subst k6
                    have HK31 : Hid (x.e.k ≤ 32 * k) := by have := HKI.out j HJL.out; rw [HXJ.out] at this; exact this
                    have HK4 : Hid (x.e.k ≤ 140737488355328) := by have := HK31.out; show x.e.k ≤ _; omega
                    have HBL : Hid ((Rc.by_ x.e).length ≤ 140737488355328) := by show (Rc.dg _ _).length ≤ _; rw [Rc.dg_len]; have := HK31.out; omega
                    have HBO : Hid (W.heap[O]? = some (.cells #[.int .i64 6, .int .i64 E, .int .i64 S, .int .i64 I, .int .i64 Bt, .int .u32 (X : Int), .int .i64 N] 65 (0, 0))) := HBO'.out
                    have p0 := cell0 HBP.out
                    have p1 := cell1 HBP.out
                    clear HBO'
                    go_wp2_with fail
                    refine wp_region_grow (mk := fun u => #[_, _, _, _, _, _, _, _, _, _, _, _, _, _, _, _, _, _, u 18, _, _, _, _, _, _, _, _, _, _, _, _, _, _, _, _, _, _, _, _, _, _, _, _, _, _, _, _, _, _, _, _, _, _, _, _, _, _, _, _, _, _, _, _, _, _, _, _, _, _, _, _, _, _, _, _, _, _, _, _, _, _, _, _, _, _, _, _, _, _, _, _, _, _, _, _, _, _, _, _, _, _, _, _, _, _, _, _, _, _, _, _, _, _, _, _, _, _, _, _, _, _, _, _, _, _, _, _, _, _, _, _, _, _, _, _, _, _, _, _, _, _, _, _, _, _, _, _, _, _, _, _, _, _, _, _, _, u 156, u 157, u 158, u 159, u 160, u 161, u 162, _, _, _, _, _, _, _, _, _, _, _, _, _, _, _, _, _, _, _, _, _, _, _, _, _, _, _, _, _, _, _, _, _, _, _, _, _, _, _, _, _, _, _, _, _, _, _, _]) (F := fun slot vv ww => (look [(156, .val (.pointer (some ⟨P, 0, none⟩))), (157, .val (.pointer (some ⟨x.a, 0, none⟩))), (158, .any), (159, .val (.pointer (some ⟨P, 1, none⟩))), (160, .val (.pointer (some ⟨x.r, 0, none⟩))), (161, .any), (162, .any), (18, .is (fun q wq => ∃ G, q = .pointer (some ⟨G, 0, none⟩) ∧ W.heap.size ≤ G ∧ wq.heap[G]? = some (.cells #[.pointer none, .pointer none] 61 (0, 0))))] slot).holds vv ww) (J := fun q u w => Chg (fun _ => False) W w ∧ ForkJ W x (u 158) (u 161) (u 162) q w) [2, 5, 6] (fun slot => match slot with | 18 => u18 | 156 => u156 | 157 => u157 | 158 => u158 | 159 => u159 | 160 => u160 | 161 => u161 | 162 => u162 | _ => undef) rfl (by kernel_rfl) 8 _ rfl rfl (by kernel_rfl) (by kernel_rfl) (by kernel_rfl) (by decide) ?_ ?_ ?_ (fun _ v w w' hc h => Fact.stays _ v w w' hc h) ?_ ?_ ?_
                    · repeat (refine ⟨⟨_, rfl, fun _ _ => rfl⟩, ?_⟩)
                      exact trivial
                    · intro q u u2 w h hj
                      have e1 : u 158 = u2 158 := h 2 (by decide)
                      have e2 : u 161 = u2 161 := h 5 (by decide)
                      have e3 : u 162 = u2 162 := h 6 (by decide)
                      show _ ∧ ForkJ W x (u2 158) (u2 161) (u2 162) q w
                      rw [← e1, ← e2, ← e3]
                      exact hj
                    · exact fun q u w w2 hc hj => ⟨chg_then hj.1 hc, forkj_new hj.2 hc⟩
                    · exact ⟨(Chg.refl _ W).drew, trivial⟩
                    · refine ⟨?_, ?_, ?_, ?_, ?_, ?_, ?_, ?_, trivial⟩
                      · show StepS _ _ _ _ _ _  _ -- 156
                        unfold StepS
                        intro q u w hj hd K hK
                        clear hd
                        go_simp
                        exact hK.out (.pointer (some ⟨P, 0, none⟩)) w (Chg.refl _ _) rfl
                      · show StepS _ _ _ _ _ _  _ -- 157
                        unfold StepS
                        intro q u w hj hd K hK
                        have h156 : (Fact.val (.pointer (some ⟨P, 0, none⟩))).holds (u 156) w := hd.get 0 (by kernel_rfl)
                        simp only [Fact.holds] at h156
                        clear hd
                        simp only [h156] at hK
                        have hcell := cell_chg (p0) hj.1
                        go_simp
                        exact hK.out _ _ (Chg.refl _ _) rfl
                      · show StepT _ _ _ _ _ _ 0 _ -- 158
                        unfold StepT
                        intro u w hj hd K hK
                        have h157 : (Fact.val (.pointer (some ⟨x.a, 0, none⟩))).holds (u 157) w := hd.get 1 (by kernel_rfl)
                        simp only [Fact.holds] at h157
                        clear hd
                        simp only [h157] at hK
                        obtain ⟨hc, _⟩ := hj
                        go_simp
                        go_at_call 19
                        refine (efork_any w0.heap.size x.a x.v x.e w (HG.out.new hc).en HK4.out).mono ?_
                        rintro z w2 ⟨a2, v2, rfl, _, hE2, c2⟩
                        exact hK.out (.pointer (some ⟨a2, 0, none⟩)) w2 c2 ⟨chg_then hc c2, a2, v2, by simp [upd], enc_base hE2 hc.size⟩ trivial
                      · show StepS _ _ _ _ _ _  _ -- 159
                        unfold StepS
                        intro q u w hj hd K hK
                        clear hd
                        go_simp
                        exact hK.out (.pointer (some ⟨P, 1, none⟩)) w (Chg.refl _ _) rfl
                      · show StepS _ _ _ _ _ _  _ -- 160
                        unfold StepS
                        intro q u w hj hd K hK
                        have h159 : (Fact.val (.pointer (some ⟨P, 1, none⟩))).holds (u 159) w := hd.get 3 (by kernel_rfl)
                        simp only [Fact.holds] at h159
                        clear hd
                        simp only [h159] at hK
                        have hcell := cell_chg (p1) hj.1
                        go_simp
                        exact hK.out _ _ (Chg.refl _ _) rfl
                      · show StepT _ _ _ _ _ _ 1 _ -- 161
                        unfold StepT
                        intro u w hj hd K hK
                        have h160 : (Fact.val (.pointer (some ⟨x.r, 0, none⟩))).holds (u 160) w := hd.get 4 (by kernel_rfl)
                        simp only [Fact.holds] at h160
                        clear hd
                        simp only [h160] at hK
                        obtain ⟨hc, a2, v2, e158, hE2⟩ := hj
                        have E158 : Hid (u 158 = .pointer (some ⟨a2, 0, none⟩)) := e158
                        clear e158
                        go_simp
                        go_at_call 28
                        refine (refork_any w0.heap.size x.r x.y (Rc.by_ x.e) x.e.R x.e.k w (HG.out.new hc).re HBL.out).mono ?_
                        rintro z w2 ⟨r2, y2, rfl, _, hR2, c2⟩
                        exact hK.out (.pointer (some ⟨r2, 0, none⟩)) w2 c2 ⟨chg_then hc c2, a2, r2, v2, y2, by simp [upd]; exact E158.out, by simp [upd], newpair hc c2 hE2 hR2 HG.out.ok⟩ trivial
                      · show StepT _ _ _ _ _ _ 2 _ -- 162
                        unfold StepT
                        intro u w hj hd K hK
                        clear hd
                        obtain ⟨hc, a2, r2, v2, y2, e158, e161, hN⟩ := hj
                        simp only [e158, e161] at hK
                        go_simp
                        exact hK.out (.agg #[.pointer (some ⟨a2, 0, none⟩), .pointer (some ⟨r2, 0, none⟩)]) w (Chg.refl _ _) ⟨hc, a2, r2, v2, y2, by simp [upd], hN⟩ trivial
                      · show StepS _ _ _ _ _ _  _ -- 18
                        unfold StepS
                        intro q u w hj hd K hK
                        clear hd
                        obtain ⟨hc, _⟩ := hj
                        go_simp
                        exact hK.out _ _ (chg_one w (.cells #[.pointer none, .pointer none] 61)) ⟨_, ⟨_, rfl, hc.size, heap_alloc_last w _⟩, Chg.refl _ _⟩
                    · intro u w hj hA K hK
                      have a18 : (Fact.is (fun q wq => ∃ G, q = .pointer (some ⟨G, 0, none⟩) ∧ W.heap.size ≤ G ∧ wq.heap[G]? = some (.cells #[.pointer none, .pointer none] 61 (0, 0)))).holds (u 18) w := hA.at 18 (by kernel_rfl)
                      clear hA
                      obtain ⟨wq, ⟨G, e18, hG18, hb18⟩, cq⟩ := a18
                      obtain ⟨hc, a2, r2, v2, y2, e162, hN⟩ := hj
                      have hb := blk_keep hb18 cq (fun f => f)
                      have z0 := cell0 hb
                      have z1 := cell1 hb
                      have zf : ∀ j, w.frozen? ⟨G, j, none⟩ = false := fun j => by simp [World.frozen?, hb]
                      have zf0 := zf 0
                      have zf1 := zf 1
                      obtain ⟨wE, hwE⟩ : ∃ wE, wE = (w.setCell ⟨G, 0, none⟩ (.pointer (some ⟨a2, 0, none⟩))).setCell ⟨G, 1, none⟩ (.pointer (some ⟨r2, 0, none⟩)) := ⟨_, rfl⟩
                      have cE : Chg (fun z => z = G) w wE := by rw [hwE]; exact ((Chg.refl (fun z => z = G) w).setCell (p := ⟨G, 0, none⟩) (.inl rfl) _).setCell (p := ⟨G, 1, none⟩) (.inl rfl) _
                      have HGB : Hid (wE.heap[G]? = some (.cells #[.pointer (some ⟨a2, 0, none⟩), .pointer (some ⟨r2, 0, none⟩)] 61 (0, 0))) := by
                        have d1 := blk_setk (l := [.pointer none, .pointer none]) hb 0 (.pointer (some ⟨a2, 0, none⟩))
                        have d2 := blk_setk (l := [.pointer (some ⟨a2, 0, none⟩), .pointer none]) d1 1 (.pointer (some ⟨r2, 0, none⟩))
                        show wE.heap[G]? = _
                        rw [hwE]
                        exact d2
                      have HNP : Hid (NewPair W wE ⟨a2, r2, v2, y2, x.e⟩) := ⟨hN.good.keep cE (fun z e f => by rw [e] at f; exact hN.good.miss hb (by decide) (by decide) (by decide) f)⟩
                      have HCE : Hid (Chg (fun _ => False) W wE) := hc.trans cE (fun z e => .inr (by omega))
                      have HOE : Hid (wE.heap[O]? = some (.cells #[.int .i64 6, .int .i64 E, .int .i64 S, .int .i64 I, .int .i64 Bt, .int .u32 (X : Int), .int .i64 N] 65 (0, 0))) := blk_keep (blk_keep HBO.out hc (fun f => f)) cE (fun e => by have := lt_of_blk HBO.out; omega)
                      have HGW : Hid (W.heap.size ≤ G) := hG18
                      clear hN hc cE zf hb18 cq
                      go_simp
                      refine hK.out _ _ ?_
                      clear hK
                      rw [← hwE]
                      clear hwE z0 z1 zf0 zf1 hb
                      have t0 := (cells7 HOE.out).1
                      have n0_ := cell0 HGB.out
                      have n1_ := cell1 HGB.out
                      have nf : ∀ j, wE.frozen? ⟨G, j, none⟩ = false := fun j => by simp [World.frozen?, HGB.out]
                      clear HNP nf n0_ n1_
                      go_wp2_with fail
                      refine (rcnew_any _).mono ?_
                      rintro z w5 ⟨a3, rfl, ha3, hE5, c5⟩
                      have HE5 : Hid (Enc w5 W.heap.size a3 (.slice none 0 0) Rc.start) := enc_base ⟨_, hE5, Rc.begin_is⟩ HCE.out.size
                      have HC5 : Hid (Chg (fun _ => False) W w5) := chg_then HCE.out c5
                      have HGB5 : Hid (w5.heap[G]? = some (.cells #[.pointer (some ⟨a2, 0, none⟩), .pointer (some ⟨r2, 0, none⟩)] 61 (0, 0))) := blk_keep HGB.out c5 (fun f => f)
                      clear hE5 c5 HGB HOE HCE t0
                      go_wp2_with fail
                      refine (renew_any _).mono ?_
                      rintro z w6 ⟨r3, y3, rfl, hr3, hR6, c6⟩
                      have eby : Rc.by_ Rc.start = List.replicate 5 0 := by decide +kernel
                      rw [← eby] at hR6
                      have hN6 : NewPair W w6 ⟨a3, r3, .slice none 0 0, y3, Rc.start⟩ := newpair HC5.out c6 HE5.out hR6 Rc.start_ok
                      have hb := blk_keep HGB5.out c6 (fun f => f)
                      have z0 := cell0 hb
                      have z1 := cell1 hb
                      have zf : ∀ j, w6.frozen? ⟨G, j, none⟩ = false := fun j => by simp [World.frozen?, hb]
                      have zf0 := zf 0
                      have zf1 := zf 1
                      obtain ⟨wF, hwF⟩ : ∃ wF, wF = (w6.setCell ⟨G, 0, none⟩ (.pointer (some ⟨a3, 0, none⟩))).setCell ⟨G, 1, none⟩ (.pointer (some ⟨r3, 0, none⟩)) := ⟨_, rfl⟩
                      have cE : Chg (fun z => z = G) w6 wF := by rw [hwF]; exact ((Chg.refl (fun z => z = G) w6).setCell (p := ⟨G, 0, none⟩) (.inl rfl) _).setCell (p := ⟨G, 1, none⟩) (.inl rfl) _
                      have HGB : Hid (wF.heap[G]? = some (.cells #[.pointer (some ⟨a3, 0, none⟩), .pointer (some ⟨r3, 0, none⟩)] 61 (0, 0))) := by
                        have d1 := blk_setk (l := [.pointer (some ⟨a2, 0, none⟩), .pointer (some ⟨r2, 0, none⟩)]) hb 0 (.pointer (some ⟨a3, 0, none⟩))
                        have d2 := blk_setk (l := [.pointer (some ⟨a3, 0, none⟩), .pointer (some ⟨r2, 0, none⟩)]) d1 1 (.pointer (some ⟨r3, 0, none⟩))
                        show wF.heap[G]? = _
                        rw [hwF]
                        exact d2
                      have HNP : Hid (NewPair W wF ⟨a3, r3, .slice none 0 0, y3, Rc.start⟩) := ⟨hN6.good.keep cE (fun z e f => by rw [e] at f; exact hN6.good.miss hb (by decide) (by decide) (by decide) f)⟩
                      have HCE : Hid (Chg (fun _ => False) W wF) := (chg_then HC5.out c6).trans cE (fun z e => .inr (by have := HGW.out; omega))
                      have HKE : Hid (Rc.start.k ≤ 32 * (k + 1)) := Nat.zero_le _
                      clear hN6 cE zf hR6 c6 HE5 HC5 HGB5 eby
                      go_upto_region 36 with fail
                      rw [← hwF]
                      clear hwF z0 z1 zf0 zf1 hb
                      have HPE : Hid (Pl w0 wF sb_ (.slice (some ⟨g, 0, none⟩) L lcap) its bv hs) := HPL.out.new HCE.out
                      obtain ⟨jP, hjP, hjz, hj2, hj16⟩ := info_parts infoP2
                      have c8 := chg_one wF (.cells #[.pointer (some ⟨a3, 0, none⟩), .pointer (some ⟨r3, 0, none⟩)] 61)
                      have hown : (wF.alloc (.cells #[.pointer (some ⟨a3, 0, none⟩), .pointer (some ⟨r3, 0, none⟩)] 61)).ownsRow w0.heap.size 61 2 (.slice (some ⟨g, 0, none⟩) L lcap) L (its.flatMap It.cells) := by
                        have := (HPE.out.new c8).row
                        rw [HL.out] at this
                        exact this
                      have hsz := (HPE.out.new c8).chg.size
                      have hsrc := from_p wF (.pointer (some ⟨a3, 0, none⟩)) (.pointer (some ⟨r3, 0, none⟩)) 61
                      have HC8 : Hid (Chg (fun _ => False) W (wF.alloc (.cells #[.pointer (some ⟨a3, 0, none⟩), .pointer (some ⟨r3, 0, none⟩)] 61))) := chg_then HCE.out c8
                      have HY8 : Hid (Good (wF.alloc (.cells #[.pointer (some ⟨a3, 0, none⟩), .pointer (some ⟨r3, 0, none⟩)] 61)) W.heap.size ⟨a3, r3, .slice none 0 0, y3, Rc.start⟩) := HNP.out.good.new c8
                      have n0 := cell0 HGB.out
                      have n1 := cell1 HGB.out
                      clear c8
                      by_cases h6 : L < 5
                      · go_wp2_with (at_builtin; refine wpList_append_moved rfl _ _ 62 rfl w0.heap.size 61 jP (.agg #[.pointer none, .pointer none]) 2 16 Try.underlying62 hjP hjz hj2 hj16 rfl (by decide) _ L (its.flatMap It.cells) rfl (some ⟨wF.heap.size, 0, none⟩) 1 1 rfl [.pointer (some ⟨a3, 0, none⟩), .pointer (some ⟨r3, 0, none⟩)] hown hsrc (fun u hu => by simp at hu; rcases hu with rfl | rfl <;> rfl) (by unfold maxLen; omega) (by omega) hsz ?_)
                        intro v9 w9 ho9 hg9 _
                        have HP9 : Hid (Pl w0 w9 sb_ v9 (its ++ [⟨a3, r3, .slice none 0 0, y3, Rc.start⟩]) bv hs) := HPL.out.push (x := ⟨a3, r3, .slice none 0 0, y3, Rc.start⟩) HC8.out (HY8.out.base HPL.out.chg.size) (fun z f => (HY8.out.lt f).1) (by rw [HL.out]; exact ho9) hg9 (by rw [HL.out]; exact h6)
                        have HKN : Hid (∀ q (h : q < (its ++ [(⟨a3, r3, .slice none 0 0, y3, Rc.start⟩ : It)]).length), ((its ++ [(⟨a3, r3, .slice none 0 0, y3, Rc.start⟩ : It)])[q]).e.k ≤ 32 * (k + 1)) := kpush (kmore HKI.out (by omega)) HKE.out
                        clear ho9 hg9 HC8 HY8 hown hsrc n0 n1
                        obtain ⟨la9, lc9, hv9⟩ : ∃ a c, v9 = .slice a (L + 1) c := by
                          obtain ⟨g9, c9, e9, _⟩ := HP9.out.at
                          exact ⟨some ⟨g9, 0, none⟩, c9, by rw [e9]; simp [HL.out]⟩
                        subst hv9
                        go_wp2
                        go_roundw
                        case rel => exact ⟨k + 1, _, hs, by omega, by go_num, HP9.out, HKN.out, Nat.le_trans HHL.out (by omega)⟩
                        case measure => simp [intOf]; omega
                      · have hd6 : decide ((L : Int) < 5) = false := by simp; omega
                        clear hown hsrc HC8 HY8
                        go_wp2
                        go_roundw
                        case rel => exact ⟨k + 1, its, hs, by omega, by go_num, HPE.out, kmore HKI.out (by omega), Nat.le_trans HHL.out (by omega)⟩
                        case measure => simp [intOf]; omega
                  · have d6 : decide (kd = 6) = false := by simp; exact k6
                    have d6' : (kd == 6) = false := by simp; exact k6
                    go_wp2
                    go_roundw
                    case rel => exact ⟨k + 1, its, hs, by omega, by go_num, HPL.out, kmore HKI.out (by omega), Nat.le_trans HHL.out (by omega)⟩
                    case measure => simp [intOf]; omega
    · skip
      obtain rfl : k = n := by omega
      have hdk : decide ((k : Int) < (k : Int)) = false := by simp
      obtain ⟨g, lcap, hlv, hlc, hcl⟩ := HPL.out.at
      obtain ⟨L, hL⟩ : ∃ L, its.length = L := ⟨_, rfl⟩
      have HL : Hid (its.length = L) := hL
      have hL5 : L ≤ 5 := by rw [← hL]; exact HPL.out.most
      have hlc2 : L ≤ lcap := by rw [← hL]; exact hlc
      rw [hL] at hlv
      subst hlv
      obtain ⟨bv, hbv⟩ : ∃ bv, bv = u10 := ⟨_, rfl⟩
      rw [← hbv] at HPL ⊢
      clear hbv hL hlc hcl
      have HP0 : Hid (Pl w0 wr sb_ (.slice (some ⟨g, 0, none⟩) L lcap) its bv hs) := HPL.out
      clear HPL
      go_wp2_with fail
      go_loopw [182] (fun iv wr => ∃ i : Nat, i ≤ L ∧ iv = .int .i64 (i : Int) ∧ Hid (Pl w0 wr sb_ (.slice (some ⟨g, 0, none⟩) L lcap) its bv hs)) (fun iv _ => L - (intOf iv).toNat)
      case atStart => exact ⟨0, Nat.zero_le _, rfl, HP0.out⟩
      case round =>
        clear HP0
        obtain ⟨i, hi, rfl, HPL⟩ := hrel
        by_cases hil : i < L
        · have HIL : Hid (i < its.length) := by show i < _; rw [HL.out]; exact hil
          obtain ⟨g2, c2_, e2_, _, hcl⟩ := HPL.out.at
          simp only [Value.slice.injEq, Option.some.injEq, Addr.mk.injEq, true_and, and_true] at e2_
          obtain ⟨rfl, hLL, rfl⟩ := e2_
          clear hLL
          obtain ⟨x, hx⟩ : ∃ x, its[i]'HIL.out = x := ⟨_, rfl⟩
          have HXJ : Hid (its[i]'HIL.out = x) := hx
          have q0 := (hcl i HIL.out).1
          have q1 := (hcl i HIL.out).2
          rw [hx] at q0 q1
          have cB := chg_one wr (.cells #[.pointer (some ⟨x.a, 0, none⟩), .pointer (some ⟨x.r, 0, none⟩)] 61)
          have HPL' : Hid (Pl w0 (wr.alloc (.cells #[.pointer (some ⟨x.a, 0, none⟩), .pointer (some ⟨x.r, 0, none⟩)] 61)) sb_ (.slice (some ⟨g, 0, none⟩) L lcap) its bv hs) := HPL.out.new cB
          have HBP : Hid ((wr.alloc (.cells #[.pointer (some ⟨x.a, 0, none⟩), .pointer (some ⟨x.r, 0, none⟩)] 61)).heap[wr.heap.size]? = some (.cells #[.pointer (some ⟨x.a, 0, none⟩), .pointer (some ⟨x.r, 0, none⟩)] 61 (0, 0))) := heap_alloc_last wr _
          have HK31 : Hid (x.e.k ≤ 32 * k) := by have := HKI.out i HIL.out; rw [hx] at this; exact this
          clear cB hx hcl HPL
          go_upto_region 44 with fail
          clear q0 q1
          generalize wr.alloc (.cells #[.pointer (some ⟨x.a, 0, none⟩), .pointer (some ⟨x.r, 0, none⟩)] 61) = W at *
          generalize wr.heap.size = P at *
          have HPL : Hid (Pl w0 W sb_ (.slice (some ⟨g, 0, none⟩) L lcap) its bv hs) := HPL'.out
          have HG : Hid (Good W w0.heap.size x) := by have := HPL.out.good i HIL.out; rw [HXJ.out] at this; exact this
          have HK5 : Hid (x.e.k + 5 ≤ 140737488355328) := by have := HK31.out; show x.e.k + 5 ≤ _; omega
          have HK4 : Hid (x.e.k ≤ 140737488355328) := by have := HK31.out; show x.e.k ≤ _; omega
          have HK6 : Hid (x.e.k ≤ 4611686018427387904) := by have := HK31.out; show x.e.k ≤ _; omega
          have HBL : Hid ((Rc.by_ x.e).length ≤ 140737488355328) := by show (Rc.dg _ _).length ≤ _; rw [Rc.dg_len]; exact HK5.out
          obtain ⟨q5, hq5⟩ : ∃ q : Int, ((x.e.k + 5 : Nat) : Int) = q := ⟨_, rfl⟩
          have HQ5 : Hid (((x.e.k + 5 : Nat) : Int) = q5) := hq5
          have p0 := cell0 HBP.out
          have p1 := cell1 HBP.out
          clear hq5 HPL'
          refine wp_region_last (mk := fun u => #[_, _, _, _, _, _, _, _, _, _, _, _, _, _, _, _, _, _, _, _, _, _, _, _, _, _, _, _, _, _, _, _, _, _, _, _, _, _, _, _, _, _, _, _, _, _, _, _, _, _, _, _, _, _, _, _, _, _, _, _, _, _, _, _, _, _, _, _, _, _, _, _, _, _, _, _, _, _, _, _, _, _, _, _, _, _, _, _, _, _, _, _, _, _, _, _, _, _, _, _, _, _, _, _, _, _, _, _, _, _, _, _, _, _, _, _, _, _, _, _, _, _, _, _, _, _, _, _, _, _, _, _, _, _, _, _, _, _, _, _, _, _, _, _, _, _, _, _, _, _, _, _, _, _, _, _, _, _, _, _, _, _, _, _, _, _, _, _, _, _, _, _, _, _, _, _, _, _, _, _, _, _, _, _, _, _, u 186, u 187, u 188, u 189, u 190, u 191, u 192, u 193, u 194, u 195, u 196, u 197, u 198, u 199, u 200, u 201, u 202, _, _, _, _, _, _, _, _]) (F := fun slot vv ww => (look [(186, .val (.pointer (some ⟨P, 0, none⟩))), (187, .val (.pointer (some ⟨x.a, 0, none⟩))), (188, .is (fun q wq => wq.ownsRow w0.heap.size 5 1 q (x.e.k + 5) (ins .u8 (nums (Rc.by_ x.e))))), (189, .val (.string (sb x.e))), (190, .val (.pointer (some ⟨P, 1, none⟩))), (191, .val (.pointer (some ⟨x.r, 0, none⟩))), (192, .is (fun q wq => wq.ownsRow w0.heap.size 5 1 q (Rc.by_ x.e).length (ins .u8 (nums (Rc.by_ x.e))))), (193, .val (.string (sb x.e))), (194, .val (.bool false)), (195, .val (.bool false)), (196, .val (.pointer (some ⟨P, 0, none⟩))), (197, .val (.pointer (some ⟨x.a, 0, none⟩))), (198, .val (.int .i64 q5)), (199, .val (.pointer (some ⟨P, 1, none⟩))), (200, .val (.pointer (some ⟨x.r, 0, none⟩))), (201, .val (.int .i64 q5)), (202, .val (.bool false))] slot).holds vv ww) (fun slot => match slot with | 186 => u186 | 187 => u187 | 188 => u188 | 189 => u189 | 190 => u190 | 191 => u191 | 192 => u192 | 193 => u193 | 194 => u194 | 195 => u195 | 196 => u196 | 197 => u197 | 198 => u198 | 199 => u199 | 200 => u200 | 201 => u201 | 202 => u202 | _ => undef) rfl (by kernel_rfl) 17 _ rfl rfl (by kernel_rfl) ?_ (fun _ v w w' hc h => Fact.stays _ v w w' hc h) ?_ ?_
          · repeat (refine ⟨⟨_, rfl, fun _ _ => rfl⟩, ?_⟩)
            exact trivial
          · refine ⟨?_, ?_, ?_, ?_, ?_, ?_, ?_, ?_, ?_, ?_, ?_, ?_, ?_, ?_, ?_, ?_, ?_, trivial⟩
            · intro u w hc hd K hK -- 186
              clear hd
              go_simp
              exact hK.out (.pointer (some ⟨P, 0, none⟩)) w (Chg.refl _ _) rfl
            · intro u w hc hd K hK -- 187
              have h186 : (Fact.val (.pointer (some ⟨P, 0, none⟩))).holds (u 186) w := hd.get 0 (by kernel_rfl)
              simp only [Fact.holds] at h186
              clear hd
              simp only [h186] at hK
              have hcell := cell_chg (p0) hc
              go_simp
              exact hK.out _ _ (Chg.refl _ _) rfl
            · intro u w hc hd K hK -- 188
              have h187 : (Fact.val (.pointer (some ⟨x.a, 0, none⟩))).holds (u 187) w := hd.get 1 (by kernel_rfl)
              simp only [Fact.holds] at h187
              clear hd
              simp only [h187] at hK
              go_simp
              go_at_call 10
              refine (bytes_any w0.heap.size x.a x.v x.e w (HG.out.new hc).en HK5.out).mono ?_
              rintro z w2 ⟨v2, rfl, ho, c2⟩
              exact hK.out _ _ c2 ⟨w2, owns_base ho (Nat.le_trans HPL.out.chg.size hc.size), Chg.refl _ _⟩
            · intro u w hc hd K hK -- 189
              have h188 : (Fact.is (fun q wq => wq.ownsRow w0.heap.size 5 1 q (x.e.k + 5) (ins .u8 (nums (Rc.by_ x.e))))).holds (u 188) w := hd.get 2 (by kernel_rfl)
              obtain ⟨q188, h188, p188⟩ := h188
              clear hd
              have o188 := ownsRow_keep h188 p188 (fun _ _ f => f)
              obtain ⟨ad, cap, e188, _⟩ := own_any o188
              rw [e188] at o188
              have hcv : (convert 29 9 (.slice ad (x.e.k + 5) cap)).run Try.prog w = .ok (.string (sb x.e)) w := conv_own o188
              clear o188
              simp only [e188] at hK
              go_simp
              exact hK.out (.string (sb x.e)) w (Chg.refl _ _) rfl
            · intro u w hc hd K hK -- 190
              clear hd
              go_simp
              exact hK.out (.pointer (some ⟨P, 1, none⟩)) w (Chg.refl _ _) rfl
            · intro u w hc hd K hK -- 191
              have h190 : (Fact.val (.pointer (some ⟨P, 1, none⟩))).holds (u 190) w := hd.get 4 (by kernel_rfl)
              simp only [Fact.holds] at h190
              clear hd
              simp only [h190] at hK
              have hcell := cell_chg (p1) hc
              go_simp
              exact hK.out _ _ (Chg.refl _ _) rfl
            · intro u w hc hd K hK -- 192
              have h191 : (Fact.val (.pointer (some ⟨x.r, 0, none⟩))).holds (u 191) w := hd.get 5 (by kernel_rfl)
              simp only [Fact.holds] at h191
              clear hd
              simp only [h191] at hK
              go_simp
              go_at_call 26
              refine (rebytes_any w0.heap.size x.r x.y (Rc.by_ x.e) x.e.R x.e.k w (HG.out.new hc).re HBL.out).mono ?_
              rintro z w2 ⟨v2, rfl, ho, c2⟩
              exact hK.out _ _ c2 ⟨w2, owns_base ho (Nat.le_trans HPL.out.chg.size hc.size), Chg.refl _ _⟩
            · intro u w hc hd K hK -- 193
              have h192 : (Fact.is (fun q wq => wq.ownsRow w0.heap.size 5 1 q (Rc.by_ x.e).length (ins .u8 (nums (Rc.by_ x.e))))).holds (u 192) w := hd.get 6 (by kernel_rfl)
              obtain ⟨q192, h192, p192⟩ := h192
              clear hd
              have o192 := ownsRow_keep h192 p192 (fun _ _ f => f)
              obtain ⟨ad, cap, e192, _⟩ := own_any o192
              rw [e192] at o192
              have hcv : (convert 29 9 (.slice ad ((Rc.by_ x.e).length) cap)).run Try.prog w = .ok (.string (sb x.e)) w := conv_own o192
              clear o192
              simp only [e192] at hK
              go_simp
              exact hK.out (.string (sb x.e)) w (Chg.refl _ _) rfl
            · intro u w hc hd K hK -- 194
              have h189 : (Fact.val (.string (sb x.e))).holds (u 189) w := hd.get 3 (by kernel_rfl)
              simp only [Fact.holds] at h189
              have h193 : (Fact.val (.string (sb x.e))).holds (u 193) w := hd.get 7 (by kernel_rfl)
              simp only [Fact.holds] at h193
              clear hd
              simp only [h189, h193] at hK
              go_simp
              exact hK.out (.bool false) w (Chg.refl _ _) rfl
            · intro u w hc hd K hK -- 195
              have h194 : (Fact.val (.bool false)).holds (u 194) w := hd.get 8 (by kernel_rfl)
              simp only [Fact.holds] at h194
              clear hd
              simp only [h194] at hK
              go_simp
              exact hK.out (.bool false) w (Chg.refl _ _) rfl
            · intro u w hc hd K hK -- 196
              have h195 : (Fact.val (.bool false)).holds (u 195) w := hd.get 9 (by kernel_rfl)
              simp only [Fact.holds] at h195
              clear hd
              simp only [h195] at hK
              go_simp
              exact hK.out (.pointer (some ⟨P, 0, none⟩)) w (Chg.refl _ _) rfl
            · intro u w hc hd K hK -- 197
              have h196 : (Fact.val (.pointer (some ⟨P, 0, none⟩))).holds (u 196) w := hd.get 10 (by kernel_rfl)
              simp only [Fact.holds] at h196
              have h195 : (Fact.val (.bool false)).holds (u 195) w := hd.get 9 (by kernel_rfl)
              simp only [Fact.holds] at h195
              clear hd
              simp only [h195, h196] at hK
              have hcell := cell_chg (p0) hc
              go_simp
              exact hK.out _ _ (Chg.refl _ _) rfl
            · intro u w hc hd K hK -- 198
              have h197 : (Fact.val (.pointer (some ⟨x.a, 0, none⟩))).holds (u 197) w := hd.get 11 (by kernel_rfl)
              simp only [Fact.holds] at h197
              have h195 : (Fact.val (.bool false)).holds (u 195) w := hd.get 9 (by kernel_rfl)
              simp only [Fact.holds] at h195
              clear hd
              simp only [h195, h197] at hK
              go_simp
              go_at_call 11
              refine (size_any w0.heap.size x.a x.v x.e w (HG.out.new hc).en HK4.out).mono ?_
              rintro z w2 ⟨rfl, c2⟩
              rw [HQ5.out]
              exact hK.out _ _ c2 rfl
            · intro u w hc hd K hK -- 199
              have h195 : (Fact.val (.bool false)).holds (u 195) w := hd.get 9 (by kernel_rfl)
              simp only [Fact.holds] at h195
              clear hd
              simp only [h195] at hK
              go_simp
              exact hK.out (.pointer (some ⟨P, 1, none⟩)) w (Chg.refl _ _) rfl
            · intro u w hc hd K hK -- 200
              have h199 : (Fact.val (.pointer (some ⟨P, 1, none⟩))).holds (u 199) w := hd.get 13 (by kernel_rfl)
              simp only [Fact.holds] at h199
              have h195 : (Fact.val (.bool false)).holds (u 195) w := hd.get 9 (by kernel_rfl)
              simp only [Fact.holds] at h195
              clear hd
              simp only [h195, h199] at hK
              have hcell := cell_chg (p1) hc
              go_simp
              exact hK.out _ _ (Chg.refl _ _) rfl
            · intro u w hc hd K hK -- 201
              have h200 : (Fact.val (.pointer (some ⟨x.r, 0, none⟩))).holds (u 200) w := hd.get 14 (by kernel_rfl)
              simp only [Fact.holds] at h200
              have h195 : (Fact.val (.bool false)).holds (u 195) w := hd.get 9 (by kernel_rfl)
              simp only [Fact.holds] at h195
              clear hd
              simp only [h195, h200] at hK
              go_simp
              go_at_call 25
              refine (resize_any w0.heap.size x.r x.y (Rc.by_ x.e) x.e.R x.e.k w (HG.out.new hc).re HK6.out).mono ?_
              rintro z w2 ⟨rfl, rfl⟩
              rw [HQ5.out]
              exact hK.out _ _ (Chg.refl _ _) rfl
            · intro u w hc hd K hK -- 202
              have h198 : (Fact.val (.int .i64 q5)).holds (u 198) w := hd.get 12 (by kernel_rfl)
              simp only [Fact.holds] at h198
              have h201 : (Fact.val (.int .i64 q5)).holds (u 201) w := hd.get 15 (by kernel_rfl)
              simp only [Fact.holds] at h201
              have h195 : (Fact.val (.bool false)).holds (u 195) w := hd.get 9 (by kernel_rfl)
              simp only [Fact.holds] at h195
              clear hd
              simp only [h195, h198, h201] at hK
              go_simp
              exact hK.out (.bool false) w (Chg.refl _ _) rfl
          · intro u w hc hA K hK
            have e1_ : u 195 = .bool false := hA.at 195 (by kernel_rfl)
            have e2_ : u 202 = .bool false := hA.at 202 (by kernel_rfl)
            clear hA
            have HP3 : Hid (Pl w0 w sb_ (.slice (some ⟨g, 0, none⟩) L lcap) its bv hs) := HPL.out.new hc
            clear hc
            go_simp
            refine hK.out _ _ ?_
            clear hK
            go_wp2
            go_roundw
            case rel => exact ⟨i + 1, by omega, by go_num, HP3.out⟩
            case measure => simp [intOf]; omega
        · obtain rfl : i = L := by omega
          have hdi : decide ((i : Int) < (i : Int)) = false := by simp
          obtain ⟨T2, hT2⟩ := HPL.out.sets
          obtain ⟨z0, z1, z2, z3⟩ := cells4 hT2.box
          have HT2 : Hid (SetsOk wr w0.heap.size sb_ T2) := hT2
          clear hT2
          go_wp2_with fail
          refine (alike_any w0.heap.size T2 _ HT2.out.zero HT2.out.one HT2.out.du HT2.out.dt).mono ?_
          rintro z w5 ⟨rfl, c5⟩
          have HP5 : Hid (Pl w0 w5 sb_ (.slice (some ⟨g, 0, none⟩) i lcap) its bv hs) := HPL.out.new c5
          clear c5 HPL HT2 z0 z1 z2 z3
          go_wp2_with fail
          refine (Bk.held_walk w0.heap.size bv hs _ HP5.out.chg.size HP5.out.book.book HP5.out.book.rows HP5.out.book.apart HP5.out.book.ok (by have := HHL.out; omega) HP5.out.book.small).mono ?_
          rintro z w6 ⟨rfl, c6⟩
          have HC6 : Hid (Chg (fun _ => False) w0 w6) := HP5.out.chg.trans c6 (fun b hb => .inr hb)
          clear c6 HP5
          go_wp2
          go_ret
          exact ⟨rfl, HC6.out⟩
end Go.Proofs.Ythhjllhcgdkjnaa
