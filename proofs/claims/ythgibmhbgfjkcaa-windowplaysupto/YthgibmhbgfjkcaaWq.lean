/- Windows in pairs, the program's and the document's; the law's told; of no statement by themselves. -/
import Derived.Test.YthgibmhbgfjkcaaWo
namespace Go.Proofs.Ythgibmhbgfjkcaa
open Go.RowKit
set_option linter.unusedVariables false

variable {Win : World → Nat → Nat → Value → Nat → List Nat → Prop}
/-- A pair: the program's window at a, the document's at r, into which the same bytes have come. -/
structure Pr where
  a : Nat
  r : Nat
  v : Value
  y : Value
  n : Nat
  bs : List Nat
def Pr.cells (x : Pr) : List Value := [.pointer (some ⟨x.a, 0, none⟩), .pointer (some ⟨x.r, 0, none⟩)]
def Pr.agg (x : Pr) : Value := .agg #[.pointer (some ⟨x.a, 0, none⟩), .pointer (some ⟨x.r, 0, none⟩)]
/-- What of it may change. -/
def Fq (x : Pr) (z : Nat) : Prop := Foot x.a x.v z ∨ Foot x.r x.y z
structure Good (Win : World → Nat → Nat → Value → Nat → List Nat → Prop) (w : World) (B : Nat) (x : Pr) : Prop where
  win : Win w B x.a x.v x.n x.bs
  rw : Rw w B x.r x.y x.n x.bs
  dis : ∀ z, Foot x.a x.v z → ¬ Foot x.r x.y z
theorem Good.keep (S : WinSpec Win) {w w' : World} {T : Nat → Prop} {B : Nat} {x : Pr} (h : Good Win w B x) (hc : Chg T w w') (hd : ∀ z, Fq x z → ¬ T z) : Good Win w' B x :=
  ⟨S.keep h.win hc (fun z f => hd z (.inl f)), h.rw.keep hc (fun z f => hd z (.inr f)), h.dis⟩
theorem Good.new (S : WinSpec Win) {w w' : World} {B : Nat} {x : Pr} (h : Good Win w B x) (hc : Chg (fun _ => False) w w') : Good Win w' B x := h.keep S hc (fun _ _ f => f)
theorem Good.lt (S : WinSpec Win) {w : World} {B : Nat} {x : Pr} (h : Good Win w B x) {z : Nat} (f : Fq x z) : B ≤ z ∧ z < w.heap.size := by
  rcases f with f | f
  · exact S.lt h.win z f
  · exact h.rw.lt f
theorem Good.ty (S : WinSpec Win) {w : World} {B : Nat} {x : Pr} (h : Good Win w B x) {z : Nat} (f : Fq x z) : ∃ cs t, w.heap[z]? = some (.cells cs t (0, 0)) ∧ (t = 61 ∨ t = 5 ∨ t = 64) := by
  rcases f with f | f
  · rcases f with f | f
    · rw [f]
      obtain ⟨cs, hb⟩ := S.blk h.win
      exact ⟨_, _, hb, .inl rfl⟩
    · obtain ⟨cs, hb⟩ := S.ring h.win z f
      exact ⟨_, _, hb, .inr (.inl rfl)⟩
  · rcases f with f | f
    · rw [f]; exact ⟨_, _, h.rw.blk, .inr (.inr rfl)⟩
    · obtain ⟨cur, hcur⟩ := owns_blk h.rw.own f
      exact ⟨_, _, hcur, .inr (.inl rfl)⟩
theorem Good.miss (S : WinSpec Win) {w : World} {B : Nat} {x : Pr} (h : Good Win w B x) {g : Nat} {cs : Array Value} {t : TypeId} (hb : w.heap[g]? = some (.cells cs t (0, 0))) (h1 : t ≠ 61) (h2 : t ≠ 5) (h3 : t ≠ 64) : ¬ Fq x g := fun f => by
  obtain ⟨cs2, t2, hb2, ht⟩ := h.ty S f
  rcases ht with rfl | rfl | rfl
  · exact ty_ne hb hb2 h1
  · exact ty_ne hb hb2 h2
  · exact ty_ne hb hb2 h3
theorem quiet_size (S : WinSpec Win) {B a : Nat} {v : Value} {n : Nat} {bs : List Nat} {w : World} {k : Nat} (h : Win w B a v n bs) : Calls Try.prog 12 #[.pointer (some ⟨a, 0, none⟩)] (w.drewN k) fun e w'' => e = .returned (.int .i64 (n : Int)) ∧ ∃ m, w'' = w.drewN m :=
  (S.size B a v n bs _ (S.new h (chg_drewN _ _))).mono fun e w' ⟨h1, j, h2⟩ => ⟨h1, k + j, by rw [h2]; simp⟩
theorem quiet_pos (S : WinSpec Win) {B a : Nat} {v : Value} {n : Nat} {bs : List Nat} {w : World} {k : Nat} (h : Win w B a v n bs) : Calls Try.prog 13 #[.pointer (some ⟨a, 0, none⟩)] (w.drewN k) fun e w'' => e = .returned (.int .i64 (bs.length : Int)) ∧ ∃ m, w'' = w.drewN m :=
  (S.pos B a v n bs _ (S.new h (chg_drewN _ _))).mono fun e w' ⟨h1, j, h2⟩ => ⟨h1, k + j, by rw [h2]; simp⟩
theorem quiet_rfull {B r : Nat} {v : Value} {n : Nat} {bs : List Nat} {w : World} {k : Nat} (h : Rw w B r v n bs) (hn : n ≤ 4294967295) (hl : bs.length ≤ 140737488355328) : Calls Try.prog 33 #[.pointer (some ⟨r, 0, none⟩)] (w.drewN k) fun e w'' => e = .returned (.int .i64 ((fullN n bs : Nat) : Int)) ∧ ∃ m, w'' = w.drewN m :=
  (rfull_q B r v n bs _ (h.new (chg_drewN _ _)) hn hl).mono fun e w' ⟨h1, j, h2⟩ => ⟨h1, k + j, by rw [h2]; simp⟩

set_option maxHeartbeats 4000000 in
set_option maxRecDepth 100000 in
theorem told_one (S : WinSpec Win) (B a r : Nat) (v y : Value) (n : Nat) (bs : List Nat) (w0 : World) (hw : Win w0 B a v n bs) (hr : Rw w0 B r y n bs) (hl : bs.length ≤ 140737488355328) : Calls Try.prog 21 #[.agg #[.pointer (some ⟨a, 0, none⟩), .pointer (some ⟨r, 0, none⟩)]] w0 fun e w' => e = .returned (.bool true) ∧ Chg (fun _ => False) w0 w' := by
  have hn := (S.nn hw).2.1
  obtain ⟨ya, yc, hy⟩ := form1 hr.own
  subst hy
  obtain ⟨L, hL⟩ : ∃ L, bs.length = L := ⟨_, rfl⟩
  obtain ⟨F, hF⟩ : ∃ F, fullN n bs = F := ⟨_, rfl⟩
  have HL : Hid (bs.length = L) := hL
  have HF : Hid (fullN n bs = F) := hF
  have hFn : (F : Int) ≤ 4294967295 := by rw [← hF]; unfold fullN; omega
  have hL9 : (L : Int) ≤ 140737488355328 := by omega
  have cB := chg_one w0 (.cells #[.pointer (some ⟨a, 0, none⟩), .pointer (some ⟨r, 0, none⟩)] 48)
  have hbx : (w0.alloc (.cells #[.pointer (some ⟨a, 0, none⟩), .pointer (some ⟨r, 0, none⟩)] 48)).heap[w0.heap.size]? = some (.cells #[.pointer (some ⟨a, 0, none⟩), .pointer (some ⟨r, 0, none⟩)] 48 (0, 0)) := heap_alloc_last _ _
  have HBX : Hid _ := hbx
  have HW1 : Hid (Win (w0.alloc (.cells #[.pointer (some ⟨a, 0, none⟩), .pointer (some ⟨r, 0, none⟩)] 48)) B a v n bs) := S.new hw cB
  have HR1 : Hid (Rw (w0.alloc (.cells #[.pointer (some ⟨a, 0, none⟩), .pointer (some ⟨r, 0, none⟩)] 48)) B r (.slice ya bs.length yc) n bs) := hr.new cB
  have HC1 : Hid (Chg (fun _ => False) w0 (w0.alloc (.cells #[.pointer (some ⟨a, 0, none⟩), .pointer (some ⟨r, 0, none⟩)] 48))) := cB
  have p0 := cell0 hbx
  have p1 := cell1 hbx
  have q0 := cell0 HR1.out.blk
  have q1 := cell1 HR1.out.blk
  rw [hL] at q1 HR1
  clear hw hr cB hbx hL hF
  go_enter Try.func21, Try.ntmps21
  go_wp2_with fail
  generalize w0.alloc (.cells #[.pointer (some ⟨a, 0, none⟩), .pointer (some ⟨r, 0, none⟩)] 48) = W at *
  generalize w0.heap.size = O at *
  have HQS : Hid (∀ k, Calls Try.prog 12 #[.pointer (some ⟨a, 0, none⟩)] (W.drewN k) fun e w'' => e = .returned (.int .i64 (n : Int)) ∧ ∃ m, w'' = W.drewN m) := fun k => quiet_size S HW1.out
  have HQF : Hid (∀ k, Calls Try.prog 11 #[.pointer (some ⟨a, 0, none⟩)] (W.drewN k) fun e w'' => e = .returned (.int .i64 (F : Int)) ∧ ∃ m, w'' = W.drewN m) := fun k => by have h9 := quiet_full S (k := k) HW1.out; rw [HF.out] at h9; exact h9
  have HQP : Hid (∀ k, Calls Try.prog 13 #[.pointer (some ⟨a, 0, none⟩)] (W.drewN k) fun e w'' => e = .returned (.int .i64 (L : Int)) ∧ ∃ m, w'' = W.drewN m) := fun k => by have h9 := quiet_pos S (k := k) HW1.out; rw [HL.out] at h9; exact h9
  have HQR : Hid (∀ k, Calls Try.prog 33 #[.pointer (some ⟨r, 0, none⟩)] (W.drewN k) fun e w'' => e = .returned (.int .i64 (F : Int)) ∧ ∃ m, w'' = W.drewN m) := fun k => by have h9 := quiet_rfull (k := k) HR1.out hn hl; rw [HF.out] at h9; exact h9
  go_quiet (first | (go_at_call 12; exact HQS.out _) | (go_at_call 11; exact HQF.out _) | (go_at_call 13; exact HQP.out _) | (go_at_call 33; exact HQR.out _))
  have cq := chg_drewN W nq
  have HW2 : Hid (Win (W.drewN nq) B a v n bs) := S.new HW1.out cq
  have HR2 : Hid (Rw (W.drewN nq) B r (.slice ya L yc) n bs) := HR1.out.new cq
  have HB2 : Hid ((W.drewN nq).heap[O]? = some (.cells #[.pointer (some ⟨a, 0, none⟩), .pointer (some ⟨r, 0, none⟩)] 48 (0, 0))) := blk_keep HBX.out cq (fun f => f)
  have HC2 : Hid (Chg (fun _ => False) w0 (W.drewN nq)) := chg_then HC1.out cq
  clear cq HQS HQF HQP HQR p0 p1 q0 q1 HW1 HR1 HBX HC1
  generalize W.drewN nq = W2 at *
  go_wp2_with fail
  go_loopw [3] (fun dv wr => ∃ d : Nat, d ≤ F + 2 ∧ dv = .int .i64 (d : Int) ∧ Hid (Win wr B a v n bs) ∧ Hid (Rw wr B r (.slice ya L yc) n bs) ∧ Hid (wr.heap[O]? = some (.cells #[.pointer (some ⟨a, 0, none⟩), .pointer (some ⟨r, 0, none⟩)] 48 (0, 0))) ∧ Hid (Chg (fun _ => False) w0 wr)) (fun dv _ => F + 2 - (intOf dv).toNat)
  case atStart => exact ⟨0, Nat.zero_le _, rfl, HW2.out, HR2.out, HB2.out, HC2.out⟩
  case round =>
    clear HW2 HR2 HB2 HC2
    obtain ⟨d, hd, rfl, HW, HR, HB, HC⟩ := hrel
    have p1 := cell1 HB.out
    go_wp2_with fail
    refine (rfull_any B r _ n bs _ HR.out hn hl).mono ?_
    rintro z w4 ⟨rfl, c4⟩
    rw [HF.out]
    have HW4 : Hid (Win w4 B a v n bs) := S.new HW.out c4
    have HR4 : Hid (Rw w4 B r (.slice ya L yc) n bs) := HR.out.new c4
    have HB4 : Hid (w4.heap[O]? = some (.cells #[.pointer (some ⟨a, 0, none⟩), .pointer (some ⟨r, 0, none⟩)] 48 (0, 0))) := blk_keep HB.out c4 (fun f => f)
    have HC4 : Hid (Chg (fun _ => False) w0 w4) := chg_then HC.out c4
    clear c4 p1 HW HR HB HC
    by_cases hle : d ≤ F + 1
    · have hdd : decide ((d : Int) ≤ (F : Int) + 1) = true := by simp; omega
      by_cases h6 : d < 600
      · have hdd2 : decide ((d : Int) < 600) = true := by simp; omega
        have p0 := cell0 HB4.out
        go_wp2_with fail
        refine (S.last B a v n bs (d : Int) _ HW4.out (by omega) ⟨by omega, by omega⟩).mono ?_
        rintro z w5 ⟨h5, c5⟩
        have HW5 : Hid (Win w5 B a v n bs) := S.new HW4.out c5
        have HR5 : Hid (Rw w5 B r (.slice ya L yc) n bs) := HR4.out.new c5
        have HB5 : Hid (w5.heap[O]? = some (.cells #[.pointer (some ⟨a, 0, none⟩), .pointer (some ⟨r, 0, none⟩)] 48 (0, 0))) := blk_keep HB4.out c5 (fun f => f)
        have HC5 : Hid (Chg (fun _ => False) w0 w5) := chg_then HC4.out c5
        clear c5 p0 HW4 HR4 HB4 HC4
        have p1 := cell1 HB5.out
        rw [show ((d : Int)).toNat = d from Int.toNat_natCast d] at h5
        generalize hbb : backB bs d = bk at *
        rcases h5 with ⟨hno, rfl⟩ | ⟨hyes, rfl⟩
        · have HNO : Hid (¬ Inw n bs (d : Int)) := hno
          clear hno hbb
          go_wp2_with fail
          refine (rlast_any B r _ n bs (d : Int) _ HR5.out hn hl).mono ?_
          rintro z w6 ⟨⟨_, rfl⟩ | ⟨h6', _⟩, c6⟩
          rotate_left
          · exact absurd h6' HNO.out
          have HW6 : Hid (Win w6 B a v n bs) := S.new HW5.out c6
          have HR6 : Hid (Rw w6 B r (.slice ya L yc) n bs) := HR5.out.new c6
          have HB6 : Hid (w6.heap[O]? = some (.cells #[.pointer (some ⟨a, 0, none⟩), .pointer (some ⟨r, 0, none⟩)] 48 (0, 0))) := blk_keep HB5.out c6 (fun f => f)
          have HC6 : Hid (Chg (fun _ => False) w0 w6) := chg_then HC5.out c6
          clear c6 p1 HW5 HR5 HB5 HC5
          go_wp2_with fail
          go_roundw
          case rel => exact ⟨d + 1, by omega, by go_num, HW6.out, HR6.out, HB6.out, HC6.out⟩
          case measure => simp [intOf]; omega
        · have HYES : Hid (Inw n bs (d : Int)) := hyes
          have HBK : Hid (backB bs d = bk) := hbb
          clear hyes hbb
          go_wp2_with fail
          refine (rlast_any B r _ n bs (d : Int) _ HR5.out hn hl).mono ?_
          rintro z w6 ⟨⟨h6', _⟩ | ⟨_, rfl⟩, c6⟩
          · exact absurd HYES.out h6'
          rw [show ((d : Int)).toNat = d from Int.toNat_natCast d, HBK.out]
          have HW6 : Hid (Win w6 B a v n bs) := S.new HW5.out c6
          have HR6 : Hid (Rw w6 B r (.slice ya L yc) n bs) := HR5.out.new c6
          have HB6 : Hid (w6.heap[O]? = some (.cells #[.pointer (some ⟨a, 0, none⟩), .pointer (some ⟨r, 0, none⟩)] 48 (0, 0))) := blk_keep HB5.out c6 (fun f => f)
          have HC6 : Hid (Chg (fun _ => False) w0 w6) := chg_then HC5.out c6
          clear c6 p1 HW5 HR5 HB5 HC5
          go_wp2_with fail
          go_roundw
          case rel => exact ⟨d + 1, by omega, by go_num, HW6.out, HR6.out, HB6.out, HC6.out⟩
          case measure => simp [intOf]; omega
      · have hdd2 : decide ((d : Int) < 600) = false := by simp; omega
        go_wp2
        go_ret
        exact ⟨rfl, HC4.out⟩
    · have hdd : decide ((d : Int) ≤ (F : Int) + 1) = false := by simp; omega
      go_wp2
      go_ret
      exact ⟨rfl, HC4.out⟩
theorem told_any (S : WinSpec Win) (B : Nat) (x : Pr) (w0 : World) (h : Good Win w0 B x) (hl : x.bs.length ≤ 140737488355328) : Calls Try.prog 21 #[x.agg] w0 fun e w' => e = .returned (.bool true) ∧ Chg (fun _ => False) w0 w' := told_one S B x.a x.r x.v x.y x.n x.bs w0 h.win h.rw hl
end Go.Proofs.Ythgibmhbgfjkcaa
