/- The program's ring and its filter's step; of no statement by themselves. -/
import Derived.Test.YtefplppgkoanbaaEa
import Derived.BigQuiet
import Derived.BigRegion
import Derived.Deep.QuietTactic
namespace Go.Proofs.Ytefplppgkoanbaa
open Go.RowKit
set_option linter.unusedVariables false
set_option linter.unusedSimpArgs false
set_option maxHeartbeats 4000000 in
set_option maxRecDepth 100000 in
theorem ago_q (a : Nat) (d0 : Int) (back : Bool) (R : List Nat) (N d : Nat) (hl : R.length = 256) (hN : N < 256) (hd : 1 ≤ d ∧ d ≤ 256) (w : World) (hb : w.heap[a]? = some (.cells (flD d0 back R (N : Int)).toArray 60 (0, 0))) :
    Calls Try.prog 29 #[.pointer (some ⟨a, 2, none⟩), .int .i64 (d : Int)] w fun e w' => e = .returned (.int .u8 ((R.getD ((N + 256 - d) % 256) 0 : Nat) : Int)) ∧ ∃ m, w' = w.drewN m := by
  obtain ⟨k, hk⟩ : ∃ k, (N + 256 - d) % 256 = k := ⟨_, rfl⟩
  have hk2 : k < 256 := by omega
  rw [hk]
  have c1 : w.cell? ⟨a, 258, none⟩ = some (.int .i64 (N : Int)) := cell_l hb (flD_last d0 back R N hl) rfl
  have c2 : w.cell? ⟨a, 2 + k, none⟩ = some (.int .u8 ((R.getD k 0 : Nat) : Int)) := cell_l hb (flD_at d0 back R N k (by omega)) rfl
  have t1 : ((N : Int) + 256 - (d : Int)).tmod 256 = (k : Int) := by
    rw [show (N : Int) + 256 - (d : Int) = ((N + 256 - d : Nat) : Int) by omega, ← hk]
    rfl
  have hNi : (N : Int) < 256 := by omega
  have hdi : (1 : Int) ≤ (d : Int) ∧ (d : Int) ≤ 256 := by omega
  have hki : (k : Int) < 256 := by omega
  have HK : Hid (R.getD k 0 = R.getD k 0) := rfl
  generalize R.getD k 0 = X at *
  clear hb hk hl hN hd
  go_enter Try.func29, Try.ntmps29
  go_wp2_with fail
  go_quiet (fail)
  go_wp2
  go_ret
  exact ⟨rfl, _, rfl⟩
set_option maxHeartbeats 4000000 in
set_option maxRecDepth 100000 in
theorem put_q (a : Nat) (d0 : Int) (back : Bool) (R : List Nat) (N x : Nat) (hl : R.length = 256) (hN : N < 256) (w : World) (hb : w.heap[a]? = some (.cells (flD d0 back R (N : Int)).toArray 60 (0, 0))) :
    Calls Try.prog 30 #[.pointer (some ⟨a, 2, none⟩), .int .u8 (x : Int)] w fun e w' => e = .returned (.tuple #[]) ∧ Chg (fun z => z = a) w w' ∧ w'.heap[a]? = some (.cells (flD d0 back (R.set N x) (((N + 1) % 256 : Nat) : Int)).toArray 60 (0, 0)) := by
  have c1 : w.cell? ⟨a, 258, none⟩ = some (.int .i64 (N : Int)) := cell_l hb (flD_last d0 back R N hl) rfl
  have c2 : w.cell? ⟨a, 2 + N, none⟩ = some (.int .u8 ((R.getD N 0 : Nat) : Int)) := cell_l hb (flD_at d0 back R N N (by omega)) rfl
  have f2 := free_l hb (2 + N)
  have hNi : (N : Int) < 256 := by omega
  obtain ⟨k, hk⟩ : ∃ k, (N + 1) % 256 = k := ⟨_, rfl⟩
  have hki : (k : Int) < 256 := by omega
  have t1 : ((N : Int) + 1).tmod 256 = (k : Int) := by
    rw [show (N : Int) + 1 = ((N + 1 : Nat) : Int) by omega, ← hk]
    rfl
  rw [hk]
  have HB : Hid _ := hb
  have HL : Hid (R.length = 256 ∧ N < 256) := ⟨hl, hN⟩
  clear hb hk hl hN
  go_enter Try.func30, Try.ntmps30
  go_wp2_with fail
  go_region
  have HB1 : Hid ((w.setCell ⟨a, 2 + N, none⟩ (.int .u8 (x : Int))).drew.heap[a]? = some (.cells (flD d0 back (R.set N x) (N : Int)).toArray 60 (0, 0))) := by
    show (w.setCell ⟨a, 2 + N, none⟩ (.int .u8 (x : Int))).heap[a]? = _
    rw [blk_setk HB.out, flD_set _ _ _ _ _ _ (by have := HL.out.1; omega)]
  have HC1 : Hid (Chg (fun z => z = a) w (w.setCell ⟨a, 2 + N, none⟩ (.int .u8 (x : Int))).drew) := ((Chg.refl (fun z => z = a) w).setCell (p := ⟨a, 2 + N, none⟩) (.inl rfl) _).drew
  clear HB c1 c2 f2
  generalize (w.setCell ⟨a, 2 + N, none⟩ (.int .u8 (x : Int))).drew = W1 at *
  have hl2 : (R.set N x).length = 256 := by rw [List.length_set]; exact HL.out.1
  have c1 : W1.cell? ⟨a, 258, none⟩ = some (.int .i64 (N : Int)) := cell_l HB1.out (flD_last d0 back (R.set N x) N hl2) rfl
  have f1 := free_l HB1.out 258
  have HL2 : Hid ((R.set N x).length = 256) := hl2
  clear hl2
  have HB2 : Hid ((W1.setCell ⟨a, 258, none⟩ (.int .i64 (k : Int))).heap[a]? = some (.cells (flD d0 back (R.set N x) (k : Int)).toArray 60 (0, 0))) := by
    show (W1.setCell ⟨a, 258, none⟩ (.int .i64 (k : Int))).heap[a]? = _
    rw [blk_setk HB1.out, flD_nx _ _ _ _ _ HL2.out]
  have HC2 : Hid (Chg (fun z => z = a) w (W1.setCell ⟨a, 258, none⟩ (.int .i64 (k : Int)))) := HC1.out.setCell (p := ⟨a, 258, none⟩) (.inl rfl) _
  go_wp2
  go_end0
  exact ⟨rfl, HC2.out, HB2.out⟩
set_option maxHeartbeats 4000000 in
set_option maxRecDepth 100000 in
theorem step_q (B a d : Nat) (F : Nat → Prop) (back : Bool) (all : List Nat) (x : Nat) (hx : x < 256) (w : World) (h : FiL w B a F d back all) :
    Calls Try.prog 24 #[.pointer (some ⟨a, 0, none⟩), .int .u8 (x : Int)] w fun e w' => e = .returned (.int .u8 ((De19.one back x (De19.at_ (plainD back d all) (plainD back d all).length d) : Nat) : Int)) ∧ FiL w' B a F d back (all ++ [x]) ∧ Chg F w w' := by
  obtain ⟨lo, rfl, hgd, R, hR, hb⟩ := h
  have hd : 1 ≤ d ∧ d ≤ 256 := by have h1 := hgd.1; have h2 := hgd.2; omega
  have hpl := plain_len back d all
  have hA : De19.at_ (plainD back d all) (plainD back d all).length d < 256 := by
    rw [← hR.2.2 d hd.1 hd.2]
    exact hR.2.1.get _
  have hps := plain_snoc back d all x
  have hpb : pbD back x (De19.at_ (plainD back d all) (plainD back d all).length d) < 256 := by
    unfold pbD; split
    · exact De19.one_lt _ _ _
    · exact hx
  have hag := fun W h => ago_q a (d : Int) back R (all.length % 256) d hR.1 (Nat.mod_lt _ (by decide)) hd W h
  have hRd := hR.2.2 d hd.1 hd.2
  rw [hpl] at hRd
  rw [hRd, ← hpl] at hag
  have HF : Hid (∀ w', w'.heap[a]? = some (.cells (flD (d : Int) back (R.set (all.length % 256) (pbD back x (De19.at_ (plainD back d all) (plainD back d all).length d))) (((all.length % 256 + 1) % 256 : Nat) : Int)).toArray 60 (0, 0)) → FiL w' B a (fun z => z = a) d back (all ++ [x])) := fun w' hw => by
    have e9 : (all ++ [x]).length % 256 = (all.length % 256 + 1) % 256 := by rw [List.length_append, List.length_singleton]; omega
    have h9 := ringD_put hR _ hpb
    rw [← hps, hpl] at h9
    rw [hpl] at hw
    exact ⟨lo, rfl, hgd, _, h9, by rw [e9]; exact hw⟩
  obtain ⟨A, hAE⟩ : ∃ A, De19.at_ (plainD back d all) (plainD back d all).length d = A := ⟨_, rfl⟩
  rw [hpl] at hag
  rw [hpl] at hAE
  rw [hpl, hAE] at HF hpb hA ⊢
  rw [hAE] at hag
  have hput := fun W h => put_q a (d : Int) back R (all.length % 256) (pbD back x A) hR.1 (Nat.mod_lt _ (by decide)) W h
  have HAG : Hid (∀ k, Calls Try.prog 29 #[.pointer (some ⟨a, 2, none⟩), .int .i64 (d : Int)] (w.drewN k) fun e w' => e = .returned (.int .u8 (A : Int)) ∧ ∃ m, w' = w.drewN m) := fun k => Calls.quiet_of (hag (w.drewN k) (blk_keep hb (chg_drewN w k) (fun f => f)))
  have HPU : Hid _ := hput
  have c0 : w.cell? ⟨a, 0, none⟩ = some (.int .i64 (d : Int)) := cell_l hb rfl rfl
  have c1 : w.cell? ⟨a, 1, none⟩ = some (.bool back) := cell_l hb rfl rfl
  have HB : Hid _ := hb
  have hxi : (x : Int) < 256 := by omega
  have hAi : (A : Int) < 256 := by omega
  clear hag hput hb hps hRd hAE hpl hR hgd lo hd hpb hx hA
  go_enter Try.func24, Try.ntmps24
  go_wp2_with fail
  go_quiet (first | (go_at_call 29; exact HAG.out _))
  have HB1 : Hid _ := blk_keep HB.out (chg_drewN w nq) (fun f => f)
  have d1 := cell_chg c1 (chg_drewN w nq)
  have HC1 : Hid (Chg (fun z => z = a) w (w.drewN nq)) := (chg_drewN w nq).mono (fun _ f => f.elim)
  clear c0 c1 HB HAG
  generalize w.drewN nq = W1 at *
  have HP : Hid _ := HPU.out W1 HB1.out
  clear HPU
  cases back
  · have hw1 : IntKind.u8.wrap ((x : Int) - (A : Int)) = ((De19.one false x A : Nat) : Int) := by unfold De19.one; rw [if_neg (by decide)]; simp [IntKind.wrap, IntKind.signed, IntKind.bits]; omega
    have hw2 : ((x : Int) - (A : Int)) % 256 = ((De19.one false x A : Nat) : Int) := by unfold De19.one; rw [if_neg (by decide)]; omega
    obtain ⟨V, hV⟩ : ∃ V, De19.one false x A = V := ⟨_, rfl⟩
    rw [hV] at hw1 hw2
    have HV : Hid (De19.one false x A = V) := hV
    clear hV
    go_wp2_with fail
    refine Calls.mono HP.out ?_
    rintro z w2 ⟨rfl, c2, hb2⟩
    have HF2 : Hid _ := HF.out w2 hb2
    have HC2 : Hid (Chg (fun z => z = a) w w2) := HC1.out.trans c2 (fun _ e => .inl e)
    clear HF hb2 c2 HC1 HP HB1 d1
    go_wp2
    go_ret
    exact ⟨by rw [HV.out]; rfl, HF2.out, HC2.out⟩
  · have hw1 : IntKind.u8.wrap ((x : Int) + (A : Int)) = ((De19.one true x A : Nat) : Int) := by unfold De19.one; rw [if_pos rfl]; simp [IntKind.wrap, IntKind.signed, IntKind.bits]
    have hw2 : ((x : Int) + (A : Int)) % 256 = ((De19.one true x A : Nat) : Int) := by unfold De19.one; rw [if_pos rfl]; omega
    have hpb : pbD true x A = De19.one true x A := rfl
    rw [hpb] at HP HF
    obtain ⟨V, hV⟩ : ∃ V, De19.one true x A = V := ⟨_, rfl⟩
    rw [hV] at hw1 hw2 HP HF
    have HV : Hid (De19.one true x A = V) := hV
    clear hV
    go_wp2_with fail
    refine Calls.mono HP.out ?_
    rintro z w2 ⟨rfl, c2, hb2⟩
    have HF2 : Hid _ := HF.out w2 hb2
    have HC2 : Hid (Chg (fun z => z = a) w w2) := HC1.out.trans c2 (fun _ e => .inl e)
    clear HF hb2 c2 HC1 HP HB1 d1 hpb
    go_wp2
    go_ret
    exact ⟨by rw [HV.out]; rfl, HF2.out, HC2.out⟩
end Go.Proofs.Ytefplppgkoanbaa
