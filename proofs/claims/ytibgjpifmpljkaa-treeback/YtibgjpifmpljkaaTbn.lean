/- TreeBack's steps read: a decoder answers what an encoder was given; of no statement by itself. -/
import Derived.Test.YtibgjpifmpljkaaTbm
namespace Go.Proofs.Ytibgjpifmpljkaa
open Go.RowKit
set_option linter.unusedVariables false

variable {Dec : World → Nat → Nat → Value → List Nat → Rc.D → Prop}
theorem numO_bits (back : Bool) {n v : Nat} (h : v < 2 ^ n) : numO back (bitsOf back n v) = v := by
  unfold numO
  cases back
  · rw [if_neg (by decide)]; exact numF_bits h
  · rw [if_pos rfl]; exact numB_bits h
theorem pget_back (S : DecSpec Dec) (G : TreeGet Dec) (back : Bool) (B a : Nat) (v : Value) (x : It) (bs : List Nat) (d : Rc.D) (p n xv : Int) (e F : Rc.E) (hOd : OkD bs d) (hdig : Rc.Dig bs) (hbl : bs.length ≤ 140737488355328) (hI : In31 x.xs) (hl : x.xs.length ≤ 1048576) (hp : I64 p) (hn : I64 n) (hf : Fits x.xs.length p n xv) (hb : Rc.Begins F bs) (hF : 0 < F.R) (hO : Rc.Ok e) (ht : Rc.Tracks e F d) (hw : Rc.Within (encL (numQ back p n xv) e x.xs).1 F) :
    ∃ d', OkD bs d' ∧ Rc.Tracks (encL (numQ back p n xv) e x.xs).1 F d' ∧ PGet Dec (getF back) #[.pointer (some ⟨a, 0, none⟩), .pointer (some ⟨x.a, 0, none⟩), .int .i64 p, .int .i64 n] B a v x bs d (.tuple #[.int .i64 xv, .int .i64 0]) d' (encL (numQ back p n xv) e x.xs).2 := by
  obtain ⟨f1, f2, f3⟩ := fits_bits hf
  obtain ⟨d', hg, ht2⟩ := get_back hb hF p.toNat (bitsOf back n.toNat xv.toNat) 1 (bitsOf_01 _ _ _) hO hI (wayQ_ok1 f1 (bitsOf_01 _ _ _) (by rw [bitsOf_len]; exact Nat.le_refl _)) ht hw
  rw [bitsOf_len] at hg
  have hk := getW_keeps hdig p.toNat n.toNat 1 hOd hI hg
  refine ⟨d', hk.1, ht2, fun w hD hS hB => ?_⟩
  refine (G.get back B B a x.a v x.v bs d x.xs p n w hD hOd hdig hbl hB hS hI hl hp hn).mono ?_
  rintro z w' (⟨h1, _⟩ | ⟨_, l2, d2, xs2, e2, hg2, h1, h2, h3, h4⟩)
  · exact absurd hf.1 h1
  · rw [hg] at hg2
    simp only [Prod.mk.injEq] at hg2
    obtain ⟨rfl, rfl, rfl, rfl⟩ := hg2
    refine ⟨?_, h1, h2, h3⟩
    rcases h4 with ⟨h5, _⟩ | ⟨_, h6⟩
    · exact absurd h5 (by decide)
    · rw [h6, numO_bits back f3, show ((xv.toNat : Nat) : Int) = xv by have := hf.2.1; omega]
theorem got_any (S : DecSpec Dec) (G : TreeGet Dec) (w : World) (B H P : Nat) (av bv : Value) (its : List It) (a : Nat) (v : Value) (bs : List Nat) (d : Rc.D) (e F : Rc.E) (o : Stp) (k : Nat) (hk : k < its.length) (hkk : ofN its.length o.row = k) (h : Sts w B H P av bv its) (hD : Dec w B a v bs d) (ha : H ≤ a) (hB : B ≤ w.heap.size) (hOd : OkD bs d) (hdig : Rc.Dig bs) (hbl : bs.length ≤ 140737488355328) (hb : Rc.Begins F bs) (hF : 0 < F.R) (hO : Rc.Ok e) (ht : Rc.Tracks e F d) (hw : Rc.Within (encL o.qs e its[k].xs).1 F) (htk : o.taken its[k].xs.length) (hoI : o.I) :
    ∃ d', OkD bs d' ∧ Rc.Tracks (encL o.qs e its[k].xs).1 F d' ∧ Calls Try.prog 25 #[.pointer (some ⟨P, 0, none⟩), .pointer (some ⟨a, 0, none⟩), .agg #[.int .i64 o.kd, .int .i64 o.row, .int .i64 o.p, .int .i64 o.n, .int .i64 o.x]] w fun z w' => z = .returned (.bool true) ∧ Sts w' B H P av bv (its.set k (its[k].to (encL o.qs e its[k].xs).2)) ∧ Dec w' B a v bs d' ∧ Chg (Fd a its[k].v) w w' := by
  have hI := h.inn k hk
  have hl := h.len k hk
  have hg := goes_step hO hI htk
  rcases htk with ⟨k0, hf⟩ | ⟨k1, hf⟩ | ⟨k3, h1, h2⟩ | ⟨k4, h1, h2⟩
  · rw [qs0 k0] at hw hg ⊢
    obtain ⟨d', q1, q2, q3⟩ := pget_back S G false B a v its[k] bs d o.p o.n o.x e F hOd hdig hbl hI hl hoI.hp hoI.hn hf hb hF hO ht hw
    rw [k0]
    exact ⟨d', q1, q2, got_0 S w B H P av bv its a v bs d o.row o.p o.n o.x k hk hkk h hD ha hB d' _ q3 hg.inn hg.len⟩
  · rw [qs1 k1] at hw hg ⊢
    obtain ⟨d', q1, q2, q3⟩ := pget_back S G true B a v its[k] bs d o.p o.n o.x e F hOd hdig hbl hI hl hoI.hp hoI.hn hf hb hF hO ht hw
    rw [k1]
    exact ⟨d', q1, q2, got_1 S w B H P av bv its a v bs d o.row o.p o.n o.x k hk hkk h hD ha hB d' _ q3 hg.inn hg.len⟩
  · rw [qs3 k3] at hw hg ⊢
    have hbN := bitN_le o.x
    have hok : (⟨false, o.p, 0, (bitN o.x).toNat⟩ : Q).ok its[k].xs.length := by unfold Q.ok; rw [if_neg (fun f => by cases f)]; exact ⟨h1, h2⟩
    have he : encL [⟨false, o.p, 0, (bitN o.x).toNat⟩] e its[k].xs = (encE ⟨false, o.p, 0, (bitN o.x).toNat⟩ e its[k].xs, encX ⟨false, o.p, 0, (bitN o.x).toNat⟩ its[k].xs) := by rw [encL, if_pos hok, encL]
    rw [he] at hw hg ⊢
    obtain ⟨d', q1, q2⟩ := step_back hb hF _ hO hI hok ht hw
    have hd := decA_ok hdig hOd hI q1
    have hv : (bitN o.x).toNat % 2 ^ (⟨false, o.p, 0, (bitN o.x).toNat⟩ : Q).bits = (bitN o.x).toNat := by show (bitN o.x).toNat % 2 ^ 1 = _; omega
    rw [k3]
    refine ⟨d', hd.2.2.1, q2, got_3 S w B H P av bv its a v bs d o.row o.p o.n o.x k hk hkk h hD ha hB d' _ (fun w hD hS hB => ?_) hg.inn hg.len⟩
    refine (S.bit B B a its[k].a v its[k].v bs d its[k].xs o.p w hD hOd hdig hbl hS hI hB).mono ?_
    rw [hv] at q1
    have q1' : decA bs ⟨false, o.p, 0, 0⟩ d its[k].xs = .ok ((bitN o.x).toNat, d', encX ⟨false, o.p, 0, (bitN o.x).toNat⟩ its[k].xs) := q1
    rintro z w' (⟨e9, he9, _⟩ | ⟨b, d2, xs2, he9, hz, r1, r2, r3⟩)
    · rw [q1'] at he9; cases he9
    · rw [q1'] at he9
      simp only [Except.ok.injEq, Prod.mk.injEq] at he9
      obtain ⟨rfl, rfl, rfl⟩ := he9
      rw [show (((bitN o.x).toNat : Nat) : Int) = bitN o.x by omega] at hz
      exact ⟨hz, r1, r2, r3⟩
  · obtain ⟨X, hX, eX⟩ := u32_nat o.x
    have hXt : (IntKind.u32.wrap o.x).toNat = X := by rw [eX]; exact Int.toNat_natCast X
    obtain ⟨N, hN⟩ : ∃ N : Nat, (N : Int) = o.n := ⟨o.n.toNat, by omega⟩
    rw [qs4 k4, hXt] at hw hg ⊢
    have hok : (⟨true, 0, o.n, X⟩ : Q).ok its[k].xs.length := by unfold Q.ok; rw [if_pos rfl]; exact ⟨h1, h2⟩
    have he : encL [⟨true, 0, o.n, X⟩] e its[k].xs = (encE ⟨true, 0, o.n, X⟩ e its[k].xs, its[k].xs) := by rw [encL, if_pos hok, encL]; rfl
    rw [he] at hw hg ⊢
    have hok0 : (⟨true, 0, o.n, X⟩ : Q).ok ([] : List Int).length := by unfold Q.ok; rw [if_pos rfl]; exact ⟨h1, h2⟩
    obtain ⟨d', q1, q2⟩ := step_back hb hF ⟨true, 0, o.n, X⟩ hO In31.nil hok0 ht hw
    have hd := decA_ok hdig hOd In31.nil q1
    have q1' : decA bs ⟨true, 0, o.n, 0⟩ d [] = .ok (X % 2 ^ N, d', []) := by
      have hv : (⟨true, 0, o.n, X⟩ : Q).bits = N := by show o.n.toNat = N; omega
      rw [hv] at q1
      exact q1
    rw [k4]
    rw [← hN] at q1' hg ⊢
    refine ⟨d', hd.2.2.1, by rw [hN]; exact q2, got_4 S w B H P av bv its a v bs d o.row o.p o.x N X (by omega) hX eX k hk hkk h hD ha hB d' _ (fun w hD hS hB => ?_) hg.inn hg.len⟩
    refine (S.dir B a v bs d (N : Int) w hD hOd hdig hbl hB).mono ?_
    rintro z w' (⟨e9, he9, _⟩ | ⟨b, d2, he9, hz, r1, r2⟩)
    · rw [q1'] at he9; cases he9
    · rw [q1'] at he9
      simp only [Except.ok.injEq, Prod.mk.injEq, and_true] at he9
      obtain ⟨rfl, rfl⟩ := he9
      refine ⟨hz, r1, hS.keep r2 (fun f => ?_) (fun g eg f => ?_), r2.mono (fun z f => .inl (.inl f))⟩
      · obtain ⟨cs, hcs⟩ := S.blk hD
        rw [← f] at hcs
        exact ty_ne hS.blk hcs (by decide)
      · obtain ⟨c2, hc2⟩ := owns_blk hS.own eg
        obtain ⟨cs, hcs⟩ := S.blk hD
        rw [← f] at hcs
        exact ty_ne hc2 hcs (by decide)
end Go.Proofs.Ytibgjpifmpljkaa
