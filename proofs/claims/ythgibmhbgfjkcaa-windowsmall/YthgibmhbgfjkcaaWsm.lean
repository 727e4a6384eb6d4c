/- The walk of WindowSmall above what is asked of the program's windows; of no statement by itself. -/
import Derived.Test.YthgibmhbgfjkcaaWo
import Derived.Deep.DeepCutAuto
namespace Go.Proofs.Ythgibmhbgfjkcaa
open Go.RowKit
set_option linter.unusedVariables false

variable {Win : World → Nat → Nat → Value → Nat → List Nat → Prop}
def smN (n : Int) : Nat := if n < 1 ∨ 1000 < n then 5 else n.toNat
theorem smN_in (n : Int) : 1 ≤ smN n ∧ smN n ≤ 1000 := by unfold smN; split <;> omega
theorem full_two (n : Nat) (bs : List Nat) (h : n ≤ 2000) {d m : Int} (hc : Cpy n bs d m) : Cpy 2000 bs d m := ⟨⟨hc.1.1, by have := hc.1.2; unfold fullN at *; omega⟩, hc.2⟩
set_option maxHeartbeats 4000000 in
set_option maxRecDepth 100000 in
theorem wsmall_any (S : WinSpec Win) (sz : Int) (ad : Option Addr) (L c : Nat) (b0 : List Nat) (so : Option Addr) (M cs : Nat) (ops : List Wop) (w0 : World) (hr : Row8 w0 ad L c (nums b0)) (hdig : Rc.Dig b0) (hL : L ≤ 140737488355328) (hS : OpsL w0 so ops) (hM : ops.length = M) (hM2 : M ≤ 4398046511104) : Calls Try.prog 5 #[.int .i64 sz, .slice ad L c, .slice so M cs] w0 fun e w' => e = .returned (.bool true) ∧ Chg (fun _ => False) w0 w' := by
  obtain ⟨iu, hiu, hu0, hu1, hu2⟩ := info_parts infoU8
  have hne := pW_ne
  have HR0 : Hid (Row8 w0 ad L c (nums b0)) := hr
  have HB0 : Hid (b0.length = L) := by have := hr.1; rw [nums_len] at this; exact this
  have HOPS : Hid (OpsL w0 so ops) := hS
  have HM : Hid (ops.length = M) := hM
  obtain ⟨n, hsz⟩ : ∃ n, smN sz = n := ⟨_, rfl⟩
  have HN : Hid (1 ≤ n ∧ n ≤ 1000) := by show _ ∧ _; rw [← hsz]; exact smN_in sz
  have HSZ : Hid (smN sz = n) := hsz
  clear hr hS hM hsz
  go_enter Try.func5, Try.ntmps5
  go_upto_region 1 with fail
  go_cut [27] (fun bv wx => bv = .bool (decide (sz < 1 ∨ 1000 < sz)) ∧ w0 = wx)
  case first =>
    by_cases c0 : sz < 1
    · have hx : decide (sz < 1 ∨ 1000 < sz) = true := decide_eq_true (.inl c0)
      have HX : Hid (decide (sz < 1 ∨ 1000 < sz) = true) := hx
      clear hx
      go_wp2_with fail
      go_meet
      exact ⟨by rw [HX.out], rfl⟩
    · have e0 : decide (sz < 1) = false := by simp; omega
      obtain ⟨t, ht⟩ : ∃ t, decide (1000 < sz) = t := ⟨_, rfl⟩
      have HX : Hid (decide (sz < 1 ∨ 1000 < sz) = t) := by show _ = _; rw [← ht]; exact decide_eq_decide.2 ⟨fun f => f.elim (fun g => absurd g c0) id, .inr⟩
      go_wp2_with fail
      go_meet
      exact ⟨by rw [HX.out], rfl⟩
  case rest =>
  obtain ⟨rfl, rfl⟩ := hcut
  go_upto_if 27 with fail
  go_cut [0] (fun sv wx => sv = .int .i64 (n : Int) ∧ w0 = wx)
  case first =>
    by_cases c0 : sz < 1 ∨ 1000 < sz
    · rw [decide_eq_true c0]
      have HX : Hid ((5 : Int) = (n : Int)) := by have h9 := HSZ.out; unfold smN at h9; rw [if_pos c0] at h9; show _ = _; omega
      clear c0
      go_wp2_with fail
      go_meet
      exact ⟨by rw [HX.out], rfl⟩
    · rw [decide_eq_false c0]
      have HX : Hid (sz = (n : Int)) := by have h9 := HSZ.out; unfold smN at h9; rw [if_neg c0] at h9; show _ = _; omega
      clear c0
      go_wp2_with fail
      go_meet
      exact ⟨by rw [HX.out], rfl⟩
  case rest =>
  obtain ⟨rfl, rfl⟩ := hcut
  have HMD1 : Hid _ := made_any S (n : Int) n (by unfold szN; have := HN.out; rw [if_neg (by omega)]; omega) ad L c b0 w0 HR0.out hdig hL
  go_wp2_with fail
  refine Calls.mono HMD1.out ?_
  rintro z w1 ⟨a, v, rfl, hw1, k1⟩
  have HF1 : Hid (Fam Win w0 w1 [⟨a, v, n, b0⟩]) := (Fam.none w0).push S ⟨a, v, n, b0⟩ hw1 k1
  have HMD2 : Hid _ := made_any S 2000 2000 rfl ad L c b0 w1 (Bk.row8_chg HR0.out k1) hdig hL
  clear hw1 k1 HMD1
  go_wp2_with fail
  refine Calls.mono HMD2.out ?_
  rintro z w2 ⟨b, u, rfl, hw2, k2⟩
  have HF2 : Hid (Fam Win w0 w2 [⟨a, v, n, b0⟩, ⟨b, u, 2000, b0⟩]) := HF1.out.push S ⟨b, u, 2000, b0⟩ hw2 k2
  clear hw2 k2 HMD2 HF1
  go_wp2_with fail
  go_loopw [41] (fun jv wr => ∃ (j : Nat) (v u : Value) (bs : List Nat), j ≤ M ∧ jv = .int .i64 (j : Int) ∧ Hid (bs.length ≤ 140737488355328 + 373 * j) ∧ Hid (Fam Win w0 wr [⟨a, v, n, bs⟩, ⟨b, u, 2000, bs⟩])) (fun jv _ => M - (intOf jv).toNat)
  case atStart => exact ⟨0, v, u, b0, Nat.zero_le _, rfl, by show _ ≤ _; rw [HB0.out]; omega, HF2.out⟩
  case round =>
    clear HF2
    obtain ⟨j, v, u, bs, hj, rfl, HLB, HF⟩ := hrel
    by_cases hlt : j < M
    · have hdj : decide ((j : Int) < (M : Int)) = true := by simp; omega
      obtain ⟨o, ho⟩ : ∃ o, ops[j]? = some o := ⟨_, List.getElem?_eq_getElem (by rw [HM.out]; exact hlt)⟩
      obtain ⟨hok, hrow, bb, off, rfl, h0, h1, h2, h3, h4⟩ := (HOPS.out.new HF.out.chg) j o ho
      have HOK : Hid o.ok := hok
      have HR00 : Hid (Row8 w0 o.ad o.len o.cap (nums o.bs)) := (HOPS.out j o ho).2.1
      have HROW : Hid (Row8 wr o.ad o.len o.cap (nums o.bs)) := hrow
      have HBX : Hid (Box (wr.alloc (.cells #[.int .i64 o.kd, .int .i64 o.wi, .int .i64 o.dist, .int .i64 o.n, .slice o.ad o.len o.cap] 37)) wr.heap.size o) := heap_alloc_last _ _
      have HFX : Hid (Fam Win w0 (wr.alloc (.cells #[.int .i64 o.kd, .int .i64 o.wi, .int .i64 o.dist, .int .i64 o.n, .slice o.ad o.len o.cap] 37)) [⟨a, v, n, bs⟩, ⟨b, u, 2000, bs⟩]) := HF.out.new S (chg_one _ _)
      have HRX : Hid (Row8 (wr.alloc (.cells #[.int .i64 o.kd, .int .i64 o.wi, .int .i64 o.dist, .int .i64 o.n, .slice o.ad o.len o.cap] 37)) o.ad o.len o.cap (nums o.bs)) := Bk.row8_chg hrow (chg_one _ _)
      clear hok hrow ho
      go_upto_region 10 with fail
      clear h0 h1 h2 h3 h4 HF HROW
      generalize wr.alloc (.cells #[.int .i64 o.kd, .int .i64 o.wi, .int .i64 o.dist, .int .i64 o.n, .slice o.ad o.len o.cap] 37) = W at *
      generalize wr.heap.size = O at *
      obtain ⟨x0, x1, x2, x3, x4⟩ := HBX.out.cells
      go_cut [53] (fun bv wx => bv = .bool (decide (o.kd = 1 ∧ o.len ≤ 100)) ∧ wx = W)
      case first =>
        by_cases q0 : o.kd = 1
        · have hb0 : (o.kd == 1) = true := by simp; omega
          have hb1 : decide (o.kd = 1) = true := by simp; omega
          obtain ⟨t, ht⟩ : ∃ t, decide ((o.len : Int) ≤ 100) = t := ⟨_, rfl⟩
          have HX : Hid (decide (o.kd = 1 ∧ o.len ≤ 100) = t) := by show _ = _; rw [← ht]; exact decide_eq_decide.2 ⟨fun f => by have := f.2; omega, fun f => ⟨q0, by omega⟩⟩
          clear q0
          go_wp2_with fail
          go_meet
          exact ⟨by rw [HX.out], rfl⟩
        · have hb0 : (o.kd == 1) = false := by simp; omega
          have hb1 : decide (o.kd = 1) = false := by simp; omega
          have HX : Hid (decide (o.kd = 1 ∧ o.len ≤ 100) = false) := decide_eq_false (fun f => q0 f.1)
          clear q0
          go_wp2_with fail
          go_meet
          exact ⟨by rw [HX.out], rfl⟩
      case rest =>
      obtain ⟨rfl, rfl⟩ := hcut
      generalize wc = WC1 at *
      go_upto_if 53 with fail
      go_cut [] (fun wx => ∃ v u bs, Hid (bs.length ≤ 140737488355328 + 373 * j + 100) ∧ Hid (Fam Win w0 wx [⟨a, v, n, bs⟩, ⟨b, u, 2000, bs⟩]) ∧ Hid (Box wx O o))
      case first =>
        by_cases q0 : o.kd = 1 ∧ o.len ≤ 100
        · rw [decide_eq_true q0]
          have hl1 : o.len ≤ 100 := q0.2
          have HOB : Hid (o.bs.length = o.len) := by have := HRX.out.1; rw [nums_len] at this; exact this
          have hdg := HOK.out.dig
          clear q0
          have cE := chg_one WC1 (.cells #[] 5)
          have hoE := own_empty WC1 5
          have hsrc := (Bk.row8_chg HRX.out cE).src
          have hone := one8 o.bs
          have hszE : WC1.heap.size ≤ (WC1.alloc (.cells #[] 5)).heap.size := cE.size
          have HCE : Hid (Chg (fun _ => False) WC1 (WC1.alloc (.cells #[] 5))) := cE
          have x4E := cell_chg x4 cE
          clear cE
          go_wp2_with (at_builtin; refine wpList_append_moved rfl _ _ 22 rfl WC1.heap.size 5 iu (.int .u8 0) 1 1 Try.underlying22 hiu hu0 hu1 hu2 rfl (by decide) _ 0 [] rfl o.ad o.len o.cap rfl ((nums o.bs).map (Value.int .u8)) hoE hsrc hone (by unfold maxLen; omega) (by omega) hszE ?_)
          intro vq wq hoq hgq _
          have cq : Chg (fun _ => False) WC1 wq := HCE.out.grown hgq (fun k e => .inr (by cases e; exact Nat.le_refl _))
          have hoq' : wq.ownsRow WC1.heap.size 5 1 vq o.len (ins .u8 (nums o.bs)) := by simpa [ins_map] using hoq
          obtain ⟨aq, dq, hvq⟩ := form1 hoq'
          subst hvq
          have HWq : Hid (Win wq w0.heap.size a v n bs) := S.new (show Win WC1 w0.heap.size a v n bs from HFX.out.win 0 (by simp)) cq
          have HBq : Hid (Row8 wq aq o.len dq (nums o.bs)) := row8_own hoq'
          have HMq : Hid (o.len ≤ dq) := own_cap hoq'
          have HAq : Hid (∀ x, aq = some x → ¬ Foot a v x.block) := fun x e f => by
            subst e
            have h1 := (S.lt (show Win WC1 w0.heap.size a v n bs from HFX.out.win 0 (by simp)) _ f).2
            have h2 := (hoq'.lt x.block rfl).1
            omega
          have HCq : Hid (Chg (fun _ => False) WC1 wq) := cq
          have HZq : Hid (w0.heap.size ≤ wq.heap.size) := Nat.le_trans HFX.out.chg.size cq.size
          clear x4E hoq hgq cq hoq' hoE hsrc hone hszE HCE
          go_wp2_with fail
          refine (S.put w0.heap.size a v n bs aq o.len dq o.bs wq HWq.out HZq.out HBq.out hdg HAq.out HMq.out (by omega) (by have := HLB.out; omega)).mono ?_
          rintro z w31 ⟨rfl, v31, hwq, cq, mq⟩
          have HP31 : Hid (Win w31 w0.heap.size a v31 n (bs ++ o.bs) ∧ Chg (Foot a v) WC1 w31 ∧ Moved WC1 v v31) := ⟨hwq, (HCq.out.mono (fun _ f => f.elim)).trans cq (fun _ f => .inl f), moved_from HCq.out.size mq⟩
          clear hwq cq mq HWq HBq HAq HCq HZq HMq
          have HF31 : Hid (Fam Win w0 w31 [⟨a, v31, n, bs ++ o.bs⟩, ⟨b, u, 2000, bs⟩]) := HFX.out.turn S 0 (by simp) v31 (bs ++ o.bs) HP31.out.1 HP31.out.2.1 HP31.out.2.2
          have HB31 : Hid (Box w31 O o) := HBX.out.keep S (show Win WC1 w0.heap.size a v n bs from HFX.out.win 0 (by simp)) HP31.out.2.1
          have HR31 : Hid (Row8 w31 o.ad o.len o.cap (nums o.bs)) := Bk.row8_chg HR00.out HF31.out.chg
          clear HP31
          have x4b := HB31.out.cells.2.2.2.2
          have cE := chg_one w31 (.cells #[] 5)
          have hoE := own_empty w31 5
          have hsrc := (Bk.row8_chg HR31.out cE).src
          have hone := one8 o.bs
          have hszE : w31.heap.size ≤ (w31.alloc (.cells #[] 5)).heap.size := cE.size
          have HCE : Hid (Chg (fun _ => False) w31 (w31.alloc (.cells #[] 5))) := cE
          have x4E := cell_chg x4b cE
          clear cE
          go_wp2_with (at_builtin; refine wpList_append_moved rfl _ _ 22 rfl w31.heap.size 5 iu (.int .u8 0) 1 1 Try.underlying22 hiu hu0 hu1 hu2 rfl (by decide) _ 0 [] rfl o.ad o.len o.cap rfl ((nums o.bs).map (Value.int .u8)) hoE hsrc hone (by unfold maxLen; omega) (by omega) hszE ?_)
          intro vq wq hoq hgq _
          have cq : Chg (fun _ => False) w31 wq := HCE.out.grown hgq (fun k e => .inr (by cases e; exact Nat.le_refl _))
          have hoq' : wq.ownsRow w31.heap.size 5 1 vq o.len (ins .u8 (nums o.bs)) := by simpa [ins_map] using hoq
          obtain ⟨aq, dq, hvq⟩ := form1 hoq'
          subst hvq
          have HWq : Hid (Win wq w0.heap.size b u 2000 bs) := S.new (show Win w31 w0.heap.size b u 2000 bs from HF31.out.win 1 (by simp)) cq
          have HBq : Hid (Row8 wq aq o.len dq (nums o.bs)) := row8_own hoq'
          have HMq : Hid (o.len ≤ dq) := own_cap hoq'
          have HAq : Hid (∀ x, aq = some x → ¬ Foot b u x.block) := fun x e f => by
            subst e
            have h1 := (S.lt (show Win w31 w0.heap.size b u 2000 bs from HF31.out.win 1 (by simp)) _ f).2
            have h2 := (hoq'.lt x.block rfl).1
            omega
          have HCq : Hid (Chg (fun _ => False) w31 wq) := cq
          have HZq : Hid (w0.heap.size ≤ wq.heap.size) := Nat.le_trans HF31.out.chg.size cq.size
          clear x4E hoq hgq cq hoq' hoE hsrc hone hszE HCE
          go_wp2_with fail
          refine (S.put w0.heap.size b u 2000 bs aq o.len dq o.bs wq HWq.out HZq.out HBq.out hdg HAq.out HMq.out (by omega) (by have := HLB.out; omega)).mono ?_
          rintro z w32 ⟨rfl, v32, hwq, cq, mq⟩
          have HP32 : Hid (Win w32 w0.heap.size b v32 2000 (bs ++ o.bs) ∧ Chg (Foot b u) w31 w32 ∧ Moved w31 u v32) := ⟨hwq, (HCq.out.mono (fun _ f => f.elim)).trans cq (fun _ f => .inl f), moved_from HCq.out.size mq⟩
          clear hwq cq mq HWq HBq HAq HCq HZq HMq
          have HF32 : Hid (Fam Win w0 w32 [⟨a, v31, n, bs ++ o.bs⟩, ⟨b, v32, 2000, bs ++ o.bs⟩]) := HF31.out.turn S 1 (by simp) v32 (bs ++ o.bs) HP32.out.1 HP32.out.2.1 HP32.out.2.2
          have HB32 : Hid (Box w32 O o) := HB31.out.keep S (show Win w31 w0.heap.size b u 2000 bs from HF31.out.win 1 (by simp)) HP32.out.2.1
          clear HP32 HF31 HB31 HR31
          go_wp2_with fail
          go_meet
          exact ⟨v31, v32, bs ++ o.bs, by show _ ≤ _; rw [List.length_append, HOB.out]; have := HLB.out; omega, HF32.out, HB32.out⟩
        · rw [decide_eq_false q0]
          clear q0
          go_wp2_with fail
          go_meet
          exact ⟨v, u, bs, by show _ ≤ _; have := HLB.out; omega, HFX.out, HBX.out⟩
      case rest =>
      clear HLB HFX HBX HRX x0 x1 x2 x3 x4
      obtain ⟨v, u, bs, HLB, HF, HBX⟩ := hcut
      generalize wc = W2 at *
      obtain ⟨x0, x1, x2, x3, x4⟩ := HBX.out.cells
      by_cases q2 : o.kd = 2
      rotate_left
      · have hb2 : (o.kd == 2) = false := by simp; omega
        have hb3 : decide (o.kd = 2) = false := by simp; omega
        clear q2
        go_wp2_with fail
        go_roundw
        case rel => exact ⟨j + 1, v, u, bs, by omega, by go_num, by show _ ≤ _; have := HLB.out; omega, HF.out⟩
        case measure => simp [intOf]; omega
      have hb2 : (o.kd == 2) = true := by simp; omega
      have hb3 : decide (o.kd = 2) = true := by simp; omega
      clear q2
      go_wp2_with fail
      refine (S.copy w0.heap.size a v n bs o.dist o.n _ (show Win W2 w0.heap.size a v n bs from HF.out.win 0 (by simp)) HF.out.chg.size HOK.out.hd HOK.out.hn (by have := HLB.out; omega)).mono ?_
      rintro z w5 (⟨hno, rfl, c5⟩ | ⟨hyes, ov, v5, rfl, hw5, ho5, hap5, c5, m5⟩)
      · have HF5 : Hid (Fam Win w0 w5 [⟨a, v, n, bs⟩, ⟨b, u, 2000, bs⟩]) := HF.out.new S c5
        have HB5 : Hid (Box w5 O o) := HBX.out.new c5
        obtain ⟨F, hF⟩ : ∃ F, fullN n bs = F := ⟨_, rfl⟩
        have HFU : Hid (∀ k, Calls Try.prog 11 #[.pointer (some ⟨a, 0, none⟩)] (w5.drewN k) fun e w'' => e = .returned (.int .i64 (F : Int)) ∧ ∃ m, w'' = w5.drewN m) := fun k => by
          have h9 := quiet_full S (k := k) (show Win w5 w0.heap.size a v n bs from HF5.out.win 0 (by simp))
          rw [hF] at h9
          exact h9
        clear c5 x0 x1 x2 x3 x4 HF HBX
        obtain ⟨_, _, y2, y3, _⟩ := HB5.out.cells
        obtain ⟨hk1, hk2⟩ := HOK.out.hd
        obtain ⟨hk3, hk4⟩ := HOK.out.hn
        generalize o.dist = D at *
        generalize o.n = N at *
        by_cases d0 : D < 1
        · have e0 : decide (1 ≤ D) = false := by simp; omega
          clear hno
          go_wp2_with fail
          go_quiet (first | (go_at_call 11; exact HFU.out _))
          have HF9 : Hid (Fam Win w0 (w5.drewN nq) [⟨a, v, n, bs⟩, ⟨b, u, 2000, bs⟩]) := HF5.out.new S (chg_drewN _ _)
          clear y2 y3 HF5 HB5 HFU
          go_wp2_with fail
          go_roundw
          case rel => exact ⟨j + 1, v, u, bs, by omega, by go_num, by show _ ≤ _; have := HLB.out; omega, HF9.out⟩
          case measure => simp [intOf]; omega
        have e0 : decide (1 ≤ D) = true := by simp; omega
        by_cases d1 : (F : Int) < D
        · have e1 : decide (D ≤ (F : Int)) = false := by simp; omega
          clear hno
          go_wp2_with fail
          go_quiet (first | (go_at_call 11; exact HFU.out _))
          have HF9 : Hid (Fam Win w0 (w5.drewN nq) [⟨a, v, n, bs⟩, ⟨b, u, 2000, bs⟩]) := HF5.out.new S (chg_drewN _ _)
          clear y2 y3 HF5 HB5 HFU
          go_wp2_with fail
          go_roundw
          case rel => exact ⟨j + 1, v, u, bs, by omega, by go_num, by show _ ≤ _; have := HLB.out; omega, HF9.out⟩
          case measure => simp [intOf]; omega
        have e1 : decide (D ≤ (F : Int)) = true := by simp; omega
        by_cases d2 : N < 0
        · have e2 : decide (0 ≤ N) = false := by simp; omega
          clear hno
          go_wp2_with fail
          go_quiet (first | (go_at_call 11; exact HFU.out _))
          have HF9 : Hid (Fam Win w0 (w5.drewN nq) [⟨a, v, n, bs⟩, ⟨b, u, 2000, bs⟩]) := HF5.out.new S (chg_drewN _ _)
          clear y2 y3 HF5 HB5 HFU
          go_wp2_with fail
          go_roundw
          case rel => exact ⟨j + 1, v, u, bs, by omega, by go_num, by show _ ≤ _; have := HLB.out; omega, HF9.out⟩
          case measure => simp [intOf]; omega
        have e2 : decide (0 ≤ N) = true := by simp; omega
        have d3 : 273 < N := by
          apply Int.not_le.1
          intro f
          exact hno ⟨⟨by omega, by rw [hF]; omega⟩, by omega, f⟩
        have e3 : decide (N ≤ 273) = false := by simp; omega
        clear hno
        go_wp2_with fail
        go_quiet (first | (go_at_call 11; exact HFU.out _))
        have HF9 : Hid (Fam Win w0 (w5.drewN nq) [⟨a, v, n, bs⟩, ⟨b, u, 2000, bs⟩]) := HF5.out.new S (chg_drewN _ _)
        clear y2 y3 HF5 HB5 HFU
        go_wp2_with fail
        go_roundw
        case rel => exact ⟨j + 1, v, u, bs, by omega, by go_num, by show _ ≤ _; have := HLB.out; omega, HF9.out⟩
        case measure => simp [intOf]; omega
      · obtain ⟨ca, cc, hov⟩ := form1 ho5
        subst hov
        obtain ⟨K, hK⟩ : ∃ K, o.n.toNat = K := ⟨_, rfl⟩
        obtain ⟨xs, hxs⟩ : ∃ xs, copyL o.dist.toNat bs K = xs := ⟨_, rfl⟩
        rw [hK] at hw5 ho5 hap5 ⊢
        rw [hxs] at hw5 ho5
        have HXS : Hid (copyL o.dist.toNat bs K = xs) := hxs
        have HK : Hid (o.n.toNat = K ∧ K ≤ 273 ∧ xs.length = K) := ⟨hK, by have := hyes.2.2; have := hyes.2.1; omega, by rw [← hxs, copyL_len]⟩
        have HCY : Hid (Cpy 2000 bs o.dist o.n) := full_two n bs (by have := HN.out; omega) hyes
        have HDN : Hid (o.dist ≤ (n : Int)) := by have h9 := hyes.1.2; unfold fullN at h9; show _ ≤ _; omega
        have HF5 : Hid (Fam Win w0 w5 [⟨a, v5, n, bs ++ xs⟩, ⟨b, u, 2000, bs⟩]) := HF.out.turn S 0 (by simp) v5 (bs ++ xs) hw5 c5 m5
        have HB5 : Hid (Box w5 O o) := HBX.out.keep S (show Win W2 w0.heap.size a v n bs from HF.out.win 0 (by simp)) c5
        have HX5 : Hid (w5.ownsRow W2.heap.size 5 1 (.slice ca K cc) K (ins .u8 (nums xs))) := ho5
        have HLT : Hid (∀ z, Foot b u z → z < W2.heap.size) := fun z f => (S.lt (show Win W2 w0.heap.size b u 2000 bs from HF.out.win 1 (by simp)) z f).2
        clear x0 x1 x2 x3 x4 hyes hw5 ho5 hap5 c5 m5 HF HBX hK hxs
        obtain ⟨_, _, y2, y3, _⟩ := HB5.out.cells
        go_wp2_with fail
        refine (S.copy w0.heap.size b u 2000 bs o.dist o.n _ (show Win w5 w0.heap.size b u 2000 bs from HF5.out.win 1 (by simp)) HF5.out.chg.size HOK.out.hd HOK.out.hn (by have := HLB.out; omega)).mono ?_
        rintro z w6 (⟨hno, _⟩ | ⟨_, ov, u6, rfl, hw6, ho6, hap6, c6, m6⟩)
        · exact absurd HCY.out hno
        obtain ⟨cb, cd, hov⟩ := form1 ho6
        subst hov
        rw [HK.out.1] at hw6 ho6 hap6 ⊢
        rw [HXS.out] at hw6 ho6
        have HF6 : Hid (Fam Win w0 w6 [⟨a, v5, n, bs ++ xs⟩, ⟨b, u6, 2000, bs ++ xs⟩]) := HF5.out.turn S 1 (by simp) u6 (bs ++ xs) hw6 c6 m6
        have HB6 : Hid (Box w6 O o) := HB5.out.keep S (show Win w5 w0.heap.size b u 2000 bs from HF5.out.win 1 (by simp)) c6
        have hX6 := ownsRow_keep HX5.out c6 (fun g e f => by have h1 := HLT.out g f; have h2 := (HX5.out.lt g e).1; omega)
        have cx := conv_own hX6
        have cy := conv_own ho6
        clear y2 y3 hw6 ho6 hap6 c6 m6 HF5 HB5 HX5 hX6
        obtain ⟨_, _, y2, _, _⟩ := HB6.out.cells
        have hdd : decide ((n : Int) < o.dist) = false := by have := HDN.out; simp; omega
        generalize strOfNums (nums xs) = sx at *
        go_wp2_with fail
        go_roundw
        case rel => exact ⟨j + 1, v5, u6, bs ++ xs, by omega, by go_num, by show _ ≤ _; rw [List.length_append, HK.out.2.2]; have := HLB.out; have := HK.out.2.1; omega, HF6.out⟩
        case measure => simp [intOf]; omega
    · have hjM : M = j := by omega
      subst hjM
      have hdj : decide ((M : Int) < (M : Int)) = false := by simp
      generalize wr = W1 at *
      obtain ⟨P, hP⟩ : ∃ P, bs.length = P := ⟨_, rfl⟩
      have HP : Hid (bs.length = P) := hP
      have hP9 : (P : Int) ≤ 1152921504606846976 := by have := HLB.out; omega
      have hn9 : (n : Int) ≤ 1000 := by have := HN.out; omega
      have HNB : Hid (bs.length ≤ 1152921504606846976) := by have := HLB.out; show _ ≤ _; omega
      clear hP HLB
      go_wp2_with fail
      go_loopw [15] (fun dv wr => ∃ d : Nat, 1 ≤ d ∧ d ≤ n + 1 ∧ dv = .int .i64 (d : Int) ∧ Hid (Fam Win w0 wr [⟨a, v, n, bs⟩, ⟨b, u, 2000, bs⟩])) (fun dv _ => n + 1 - (intOf dv).toNat)
      case atStart => exact ⟨1, Nat.le_refl _, by omega, rfl, HF.out⟩
      case round =>
        clear HF
        obtain ⟨d, hd1, hd2, rfl, HF⟩ := hrel
        by_cases hle : d ≤ n
        · have hdd : decide ((d : Int) ≤ (n : Int)) = true := by simp; omega
          by_cases hlp : d ≤ P
          · have HI1 : Hid (Inw n bs (d : Int)) := ⟨by omega, by unfold fullN; rw [HP.out]; omega⟩
            have HI2 : Hid (Inw 2000 bs (d : Int)) := ⟨by omega, by unfold fullN; rw [HP.out]; omega⟩
            obtain ⟨x, hx⟩ : ∃ x, backB bs d = x := ⟨_, rfl⟩
            have HX : Hid (backB bs d = x) := hx
            have hdp : decide ((d : Int) ≤ (P : Int)) = true := by simp; omega
            clear hx
            go_wp2_with fail
            refine (S.last w0.heap.size a v n bs (d : Int) _ (show Win wr w0.heap.size a v n bs from HF.out.win 0 (by simp)) HNB.out ⟨by omega, by omega⟩).mono ?_
            rintro z w6 ⟨h6 | ⟨_, rfl⟩, c6⟩
            · exact absurd HI1.out h6.1
            rw [show ((d : Int)).toNat = d from Int.toNat_natCast d, HX.out]
            have HF6 : Hid (Fam Win w0 w6 [⟨a, v, n, bs⟩, ⟨b, u, 2000, bs⟩]) := HF.out.new S c6
            clear c6 HF
            go_wp2_with fail
            refine (S.last w0.heap.size b u 2000 bs (d : Int) _ (show Win w6 w0.heap.size b u 2000 bs from HF6.out.win 1 (by simp)) HNB.out ⟨by omega, by omega⟩).mono ?_
            rintro z w7 ⟨h7 | ⟨_, rfl⟩, c7⟩
            · exact absurd HI2.out h7.1
            rw [show ((d : Int)).toNat = d from Int.toNat_natCast d, HX.out]
            have HF7 : Hid (Fam Win w0 w7 [⟨a, v, n, bs⟩, ⟨b, u, 2000, bs⟩]) := HF6.out.new S c7
            clear c7 HF6
            go_wp2_with fail
            refine (posS S (show Win w7 w0.heap.size a v n bs from HF7.out.win 0 (by simp))).mono ?_
            rintro z w8 ⟨rfl, c8⟩
            rw [HP.out]
            have HF8 : Hid (Fam Win w0 w8 [⟨a, v, n, bs⟩, ⟨b, u, 2000, bs⟩]) := HF7.out.new S c8
            clear c8 HF7
            go_wp2_with fail
            go_roundw
            case rel => exact ⟨d + 1, by omega, by omega, by go_num, HF8.out⟩
            case measure => simp [intOf]; omega
          · have HI1 : Hid (¬ Inw n bs (d : Int)) := fun f => by have h9 := f.2; unfold fullN at h9; rw [HP.out] at h9; omega
            have HI2 : Hid (¬ Inw 2000 bs (d : Int)) := fun f => by have h9 := f.2; unfold fullN at h9; rw [HP.out] at h9; omega
            have hdp : decide ((d : Int) ≤ (P : Int)) = false := by simp; omega
            go_wp2_with fail
            refine (S.last w0.heap.size a v n bs (d : Int) _ (show Win wr w0.heap.size a v n bs from HF.out.win 0 (by simp)) HNB.out ⟨by omega, by omega⟩).mono ?_
            rintro z w6 ⟨⟨_, rfl⟩ | h6, c6⟩
            rotate_left
            · exact absurd h6.1 HI1.out
            have HF6 : Hid (Fam Win w0 w6 [⟨a, v, n, bs⟩, ⟨b, u, 2000, bs⟩]) := HF.out.new S c6
            clear c6 HF
            go_wp2_with fail
            refine (S.last w0.heap.size b u 2000 bs (d : Int) _ (show Win w6 w0.heap.size b u 2000 bs from HF6.out.win 1 (by simp)) HNB.out ⟨by omega, by omega⟩).mono ?_
            rintro z w7 ⟨⟨_, rfl⟩ | h7, c7⟩
            rotate_left
            · exact absurd h7.1 HI2.out
            have HF7 : Hid (Fam Win w0 w7 [⟨a, v, n, bs⟩, ⟨b, u, 2000, bs⟩]) := HF6.out.new S c7
            clear c7 HF6
            go_wp2_with fail
            refine (posS S (show Win w7 w0.heap.size a v n bs from HF7.out.win 0 (by simp))).mono ?_
            rintro z w8 ⟨rfl, c8⟩
            rw [HP.out]
            have HF8 : Hid (Fam Win w0 w8 [⟨a, v, n, bs⟩, ⟨b, u, 2000, bs⟩]) := HF7.out.new S c8
            clear c8 HF7
            go_wp2_with fail
            go_roundw
            case rel => exact ⟨d + 1, by omega, by omega, by go_num, HF8.out⟩
            case measure => simp [intOf]; omega
        · have hdd : decide ((d : Int) ≤ (n : Int)) = false := by simp; omega
          have HI1 : Hid (¬ Inw n bs ((n : Int) + 1)) := fun f => by have h9 := f.2; unfold fullN at h9; omega
          go_wp2_with fail
          refine (S.last w0.heap.size a v n bs ((n : Int) + 1) _ (show Win wr w0.heap.size a v n bs from HF.out.win 0 (by simp)) HNB.out ⟨by omega, by omega⟩).mono ?_
          rintro z w6 ⟨⟨_, rfl⟩ | h6, c6⟩
          rotate_left
          · exact absurd h6.1 HI1.out
          have HF6 : Hid (Fam Win w0 w6 [⟨a, v, n, bs⟩, ⟨b, u, 2000, bs⟩]) := HF.out.new S c6
          clear c6 HF
          go_wp2_with fail
          refine (posS S (show Win w6 w0.heap.size a v n bs from HF6.out.win 0 (by simp))).mono ?_
          rintro z w8 ⟨rfl, c8⟩
          rw [HP.out]
          have HF8 : Hid (Fam Win w0 w8 [⟨a, v, n, bs⟩, ⟨b, u, 2000, bs⟩]) := HF6.out.new S c8
          clear c8 HF6
          go_wp2_with fail
          refine (posS S (show Win w8 w0.heap.size b u 2000 bs from HF8.out.win 1 (by simp))).mono ?_
          rintro z w9 ⟨rfl, c9⟩
          rw [HP.out]
          have HC9 : Hid (Chg (fun _ => False) w0 w9) := chg_then HF8.out.chg c9
          clear c9 HF8
          go_wp2
          go_ret
          exact ⟨rfl, HC9.out⟩
end Go.Proofs.Ythgibmhbgfjkcaa
