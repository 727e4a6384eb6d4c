/- HeadPuts, above what is asked of headers ('HeadSpec'). -/
import Derived.Test.YtkncbanodpfccaaDoorHdo
import Derived.Test.YtkncbanodpfccaaDoorBla
namespace Go.Proofs.YtkncbanodpfccaaDoor
open Go.RowKit
open St12
set_option linter.unusedVariables false
set_option linter.unusedSimpArgs false
theorem putH_le (h : Hed) (pad : Int) : (Hd21.putH h pad).1.length ≤ 1024 := by
  unfold Hd21.putH
  split
  · exact Nat.zero_le _
  · rename_i e
    have e := Decidable.not_not.1 e
    have hb : ((Hd21.room0 h).length + Hd21.need (Hd21.room0 h).length : Nat) + 4 * pad ≤ 1018 ∧ 0 ≤ pad := by
      unfold Hd21.putE at e
      split at e
      · cases e
      · split at e
        · cases e
        · split at e
          · rename_i h3; exact absurd e h3
          · split at e
            · cases e
            · rename_i h1 _ _ h4
              omega
    have hc : (crc4 (Hd21.body h pad.toNat)).length = 4 := low_len _ _
    simp only [List.length_append, hc]
    unfold Hd21.body Hd21.room
    simp only [List.length_append, List.length_replicate, List.length_cons, List.length_nil]
    omega
theorem wpList_append_keep {P : Program} {w : World} {ops : Array Oper} {rest : List Oper} {o : Oper} {a : Act} {Q : Exit → Act → World → Prop} (hgd : o.guard = none) (s x : Operand) (t : TypeId)
    (ho : o.op = .call { callee := .builtin .append, args := #[s, x], argTypes := #[t, t] })
    (B : Nat) (e : TypeId) (i : TypeInfo) (z : Value) (bytes : Nat) (ht : P.underlying t = some (.slice e)) (hi : P.info? e = some i) (hz : i.zero = some z)
    (hsize : i.size = 1) (hby : i.bytes = bytes) (hzs : z.cells.size = 1)
    (v : Value) (n : Nat) (xs : List Value) (hs : a.eval s = v) (ad : Option Addr) (m c : Nat) (hx : a.eval x = .slice ad m c) (news : List Value)
    (hown : w.ownsRow B e 1 v n xs) (hsrc : From w ad m c 1 news) (h1 : ∀ u ∈ news, u.oneCell' = true)
    (h63 : n + m ≤ maxLen) (hbytes : (n + m) * bytes ≤ 140737488355328) (hB : B ≤ w.heap.size)
    (h : ∀ v' w', w'.ownsRow B e 1 v' (n + m) (xs ++ news) → w.grownBy w' v.ownBlock → Moved w v v' → w'.ownsRow B e 1 v n xs → wpList P ops Q rest (a.put o.dst v') w') : wpList P ops Q (o :: rest) a w := by
  refine wpList_plain hgd fun K hK => ?_
  obtain ⟨v', w', hr, h2, h3, h4, h5⟩ := run_append_keep (P := P) w B t o.type e i z bytes ht hi hz hsize hby hzs v n xs hown ad m c news hsrc h1 h63 hbytes hB
  unfold Oper.wp
  simp [execOp, ho, resolve, invoke, builtin, hs, hx, hr, Result.andThen]
  exact hK _ _ (h v' w' h2 h3 h4 h5)
theorem Fk.keepH {B g : Nat} {w w' : World} {ra : Option Addr} {n rc : Nat} {q : List FlV} {cs : Array Value} (h : Fk B w ra n rc q) (hc : Chg (fun k => k = g) w w') (hb : w.heap[g]? = some (.cells cs 24 (0, 0))) : Fk B w' ra n rc q :=
  ⟨owns_keepF h.lst hc (fun k e f => by
    subst f
    obtain ⟨c1, h1⟩ := owns_blkF h.lst e
    exact ty_ne h1 hb (by decide)), h.len, fun k x e => by
    have hm := h.pcs k x e
    exact ⟨ownsRow_keep hm.own hc (fun j e2 f => by
      subst f
      obtain ⟨c1, h1⟩ := ownsRow_blk hm.own e2
      exact ty_ne h1 hb (by decide)), hm.id, hm.len, hm.dig, hm.lim⟩⟩
theorem ones_set {P : List Nat} {i L : Nat} (hL : P.length = L) (hi : i < L) : (List.replicate i 1 ++ P.drop i).set i 1 = List.replicate (i + 1) 1 ++ P.drop (i + 1) := by
  rw [List.drop_eq_getElem_cons (by omega), List.set_append_right _ _ (by simp), List.length_replicate, Nat.sub_self, List.set_cons_zero, List.replicate_succ', List.append_assoc]
  rfl
theorem ones_len {P : List Nat} {i L : Nat} (hL : P.length = L) (hi : i ≤ L) : (List.replicate i 1 ++ P.drop i).length = L := by
  rw [List.length_append, List.length_replicate, List.length_drop]; omega
set_option maxHeartbeats 32000000 in
set_option maxRecDepth 100000 in
theorem puts21_any {Tab : World → Prop} (S : HeadSpec Tab) (pk sz by_ pad : Int) (fa : Option Addr) (fn fc : Nat) (l : List FlV) (w : World) (hT : Tab w) (i1 : I64 pk) (i2 : I64 sz) (i3 : I64 by_) (i4 : I64 pad) (hL : FlL w fa l) (hl : l.length = fn) (hn : fn ≤ 1048576) (hx : ∀ (k : Nat) (x : FlV), l[k]? = some x → x.n ≤ 1048576) : Calls Tryd.prog 6 #[hdv pk sz (.slice fa fn fc) by_, .int .i64 pad] w fun e w' => e = .returned (.bool true) ∧ Chg (fun _ => False) w w' := by
  obtain ⟨iu, hiu, hu0, hu1, hu2⟩ := info_parts info5u
  have HL : Hid (FlL w fa l) := hL
  have HLL : Hid (l.length = fn ∧ fn ≤ 1048576) := ⟨hl, hn⟩
  have HXX : Hid (∀ (k : Nat) (x : FlV), l[k]? = some x → x.n ≤ 1048576) := hx
  have HT : Hid (Tab w) := hT
  have HI : Hid (I64 pk ∧ I64 sz ∧ I64 by_ ∧ I64 pad) := ⟨i1, i2, i3, i4⟩
  have hni : (fn : Int) ≤ 1048576 := by omega
  have cA := chg_one w (.cells #[.int .i64 pk, .int .i64 sz, .slice fa fn fc, .int .i64 by_] 24)
  have cG := chg_one (w.alloc (.cells #[.int .i64 pk, .int .i64 sz, .slice fa fn fc, .int .i64 by_] 24)) (.cells #[.int .i64 pk, .int .i64 sz, .slice fa fn fc, .int .i64 by_] 24)
  have bA := blk_keep (heap_alloc_last w (.cells #[.int .i64 pk, .int .i64 sz, .slice fa fn fc, .int .i64 by_] 24)) cG (fun f => f)
  have bG := heap_alloc_last (w.alloc (.cells #[.int .i64 pk, .int .i64 sz, .slice fa fn fc, .int .i64 by_] 24)) (.cells #[.int .i64 pk, .int .i64 sz, .slice fa fn fc, .int .i64 by_] 24)
  rw [World.size_alloc] at bG
  have q0 := heap_alloc_last w (.cells #[.int .i64 pk, .int .i64 sz, .slice fa fn fc, .int .i64 by_] 24)
  obtain ⟨a0, a1, a2, a3⟩ := cells4h q0
  obtain ⟨b0, b1, b2, b3⟩ := cells4h bA
  have HC2 : Hid (Chg (fun _ => False) w ((w.alloc (.cells #[.int .i64 pk, .int .i64 sz, .slice fa fn fc, .int .i64 by_] 24)).alloc (.cells #[.int .i64 pk, .int .i64 sz, .slice fa fn fc, .int .i64 by_] 24))) := chg_then cA cG
  have HA2 : Hid _ := bA
  have HG2 : Hid _ := bG
  unfold hdv
  clear hL hl hx hT i1 i2 i3 i4 cA cG bA bG q0
  go_enter Tryd.func6, Tryd.ntmps6
  go_upto_region 2 with fail
  clear a0 a1 a2 a3
  obtain ⟨G, hG⟩ : ∃ G, w.heap.size + 1 = G := ⟨_, rfl⟩
  have HGG : Hid (w.heap.size + 1 = G) := hG
  try rw [hG] at HG2
  try simp only [hG]
  generalize (w.alloc (.cells #[.int .i64 pk, .int .i64 sz, .slice fa fn fc, .int .i64 by_] 24)).alloc (.cells #[.int .i64 pk, .int .i64 sz, .slice fa fn fc, .int .i64 by_] 24) = w2 at *
  have HF : Hid _ := filters21_any fa fn fc l w2 (HL.out.new HC2.out) HLL.out.1 HLL.out.2 HXX.out
  go_wp2_with fail
  refine Calls.mono HF.out ?_
  rintro z w3 ⟨ra, rc, q, rfl, hfk, hqf, hqx, c3⟩
  have hG3 := blk_keep HG2.out c3 (fun f => f)
  have hA3 := blk_keep HA2.out c3 (fun f => f)
  obtain ⟨_, _, g2, _⟩ := cells4h hG3
  have f2 := free4 hG3 2
  have hG4 := set4_2 (u := .slice ra fn rc) hG3
  have hS4 : Chg (fun k => k = G) w3 (w3.setCell ⟨G, 2, none⟩ (.slice ra fn rc)) := Chg.setCell (S := fun k => k = G) (Chg.refl _ w3) (p := ⟨G, 2, none⟩) (.inl rfl) _
  have HFK : Hid (Fk w2.heap.size (w3.setCell ⟨G, 2, none⟩ (.slice ra fn rc)) ra fn rc q) := hfk.keepH hS4 hG3
  have HA4 : Hid ((w3.setCell ⟨G, 2, none⟩ (.slice ra fn rc)).heap[w.heap.size]? = some (.cells #[.int .i64 pk, .int .i64 sz, .slice fa fn fc, .int .i64 by_] 24 (0, 0))) := blk_keep hA3 hS4 (fun e => by have := HGG.out; omega)
  have HG4 : Hid ((w3.setCell ⟨G, 2, none⟩ (.slice ra fn rc)).heap[G]? = some (.cells #[.int .i64 pk, .int .i64 sz, .slice ra fn rc, .int .i64 by_] 24 (0, 0))) := hG4
  have HC4 : Hid (Chg (fun _ => False) w (w3.setCell ⟨G, 2, none⟩ (.slice ra fn rc))) := (chg_then HC2.out c3).trans hS4 (fun g e => .inr (by have := HGG.out; omega))
  have HQ : Hid (q.map FlV.f = l.map FlV.f ∧ ∀ (k : Nat) (x : FlV), q[k]? = some x → x.n ≤ 1048576) := ⟨hqf, hqx⟩
  clear hfk hqf hqx c3 hG3 hA3 hG4 hS4 HF HA2 HG2 HC2 b0 b1 b2 b3
  go_upto_region 3 with fail
  clear g2 f2
  generalize w3.setCell ⟨G, 2, none⟩ (.slice ra fn rc) = w4 at *
  have HP : Hid (∀ ww, Chg (fun _ => False) w4 ww → Calls Tryd.prog 8 #[hdv pk sz (.slice ra fn rc) by_, .int .i64 pad] ww fun e w' => ∃ ov, e = .returned (.tuple #[ov, .int .i64 (Hd21.putH ⟨pk, sz, l.map FlV.f, by_⟩ pad).2]) ∧ ByO w' ww.heap.size ov (Hd21.putH ⟨pk, sz, l.map FlV.f, by_⟩ pad).1 ∧ Chg (fun _ => False) ww w') := fun ww hc => by
    have h1 := S.put pk sz by_ pad ra fn rc q ww (S.keep (S.keep HT.out HC4.out) hc) HI.out.1 HI.out.2.1 HI.out.2.2.1 HI.out.2.2.2 (HFK.out.L.new hc) HFK.out.len (by obtain ⟨_, _, h, _⟩ := HFK.out.at; omega) HLL.out.2 HQ.out.2
    rw [HQ.out.1] at h1
    exact h1
  have HR : Hid (∀ ww, Chg (fun _ => False) w4 ww → Calls Tryd.prog 15 #[hdv pk sz (.slice fa fn fc) by_, .int .i64 pad] ww fun e w' => ∃ ov, e = .returned (.tuple #[ov, .int .i64 (Hd21.putH ⟨pk, sz, l.map FlV.f, by_⟩ pad).2]) ∧ ByO w' ww.heap.size ov (Hd21.putH ⟨pk, sz, l.map FlV.f, by_⟩ pad).1 ∧ Chg (fun _ => False) ww w') := fun ww hc => rput21_any pk sz by_ pad fa fn fc l ww HI.out.1 HI.out.2.1 HI.out.2.2.1 HI.out.2.2.2 (HL.out.new (chg_then HC4.out hc)) HLL.out.1 HLL.out.2 HXX.out
  have HKP : Hid (∀ ww, Chg (fun _ => False) w4 ww → Calls Tryd.prog 16 #[.slice ra fn rc, .slice fa fn fc] ww fun e w' => e = .returned (.bool true) ∧ Chg (fun _ => False) ww w') := fun ww hc => kept21_any w2.heap.size ra rc q fa fn fc l ww (HFK.out.new hc) (HL.out.new (chg_then HC4.out hc)) HLL.out.1 HLL.out.2 HXX.out HQ.out.1
  have hple := putH_le ⟨pk, sz, l.map FlV.f, by_⟩ pad
  obtain ⟨P, E, hPE⟩ : ∃ P E, Hd21.putH ⟨pk, sz, l.map FlV.f, by_⟩ pad = (P, E) := ⟨_, _, rfl⟩
  rw [hPE] at HP HR hple
  simp only at HP HR hple
  unfold hdv at HP HR
  obtain ⟨L, hL⟩ : ∃ L, P.length = L := ⟨_, rfl⟩
  have HPL : Hid (P.length = L) := hL
  rw [hL] at hple
  have hLi : (L : Int) ≤ 1024 := by omega
  have HBG : Hid (∀ ww, Chg (fun _ => False) w4 ww → ww.heap[w.heap.size]? = some (.cells #[.int .i64 pk, .int .i64 sz, .slice fa fn fc, .int .i64 by_] 24 (0, 0)) ∧ ww.heap[G]? = some (.cells #[.int .i64 pk, .int .i64 sz, .slice ra fn rc, .int .i64 by_] 24 (0, 0))) := fun ww hc => ⟨blk_keep HA4.out hc (fun f => f), blk_keep HG4.out hc (fun f => f)⟩
  clear hPE hL HA4 HG4
  obtain ⟨g0, g1, g2, g3⟩ := cells4h (HBG.out w4 (Chg.refl _ _)).2
  go_wp2_with fail
  refine Calls.mono (HP.out w4 (Chg.refl _ _)) ?_
  rintro z w5 ⟨o1, rfl, ho1, c5⟩
  obtain ⟨ba, bc, rfl⟩ := byO_form ho1
  rw [HPL.out] at ho1 ⊢
  have HC5 : Hid (Chg (fun _ => False) w4 w5) := c5
  have HO1 : Hid (ByO w5 w4.heap.size (.slice ba L bc) P) := ho1
  have hlt1 : ∀ k, (Value.slice ba L bc).ownBlock = some k → w4.heap.size ≤ k ∧ k < w5.heap.size := fun k e => by
    have h1 := ho1.lt k e
    exact h1
  have HLT1 : Hid _ := hlt1
  clear ho1 c5 g0 g1 g2 g3 hlt1
  obtain ⟨g0, g1, g2, g3⟩ := cells4h (HBG.out w5 HC5.out).1
  go_wp2_with fail
  refine Calls.mono (HR.out w5 HC5.out) ?_
  rintro z w6 ⟨o2, rfl, ho2, c6⟩
  obtain ⟨ea, ec, rfl⟩ := byO_form ho2
  rw [HPL.out] at ho2 ⊢
  have HC6 : Hid (Chg (fun _ => False) w4 w6) := chg_then HC5.out c6
  have HO2 : Hid (ByO w6 w5.heap.size (.slice ea L ec) P) := ho2
  have HO16 : Hid (ByO w6 w4.heap.size (.slice ba L bc) P) := ByO.new HO1.out c6
  have HSZ6 : Hid (w5.heap.size ≤ w6.heap.size) := c6.size
  clear ho2 c6 g0 g1 g2 g3
  have hcv1 := Bk.conv8_here (byO_row HO16.out).1
  have hcv2 := Bk.conv8_here (byO_row HO2.out).1
  obtain ⟨_, _, g2, _⟩ := cells4h (HBG.out w6 HC6.out).1
  obtain ⟨_, _, g6, _⟩ := cells4h (HBG.out w6 HC6.out).2
  have eE : (E != E) = false := by simp
  go_wp2_with fail
  refine Calls.mono (HKP.out w6 HC6.out) ?_
  rintro z w7 ⟨rfl, c7⟩
  have HC7 : Hid (Chg (fun _ => False) w4 w7) := chg_then HC6.out c7
  have HO17 : Hid (ByO w7 w4.heap.size (.slice ba L bc) P) := ByO.new HO16.out c7
  have HO27 : Hid (ByO w7 w5.heap.size (.slice ea L ec) P) := ByO.new HO2.out c7
  have HSZ7 : Hid (w5.heap.size ≤ w7.heap.size) := Nat.le_trans HSZ6.out c7.size
  clear hcv1 hcv2 g2 g6 c7
  obtain ⟨g0, g1, g2, g3⟩ := cells4h (HBG.out w7 HC7.out).2
  go_wp2_with fail
  refine Calls.mono (HP.out w7 HC7.out) ?_
  rintro z w8 ⟨o3, rfl, ho3, c8⟩
  obtain ⟨da, dc, rfl⟩ := byO_form ho3
  rw [HPL.out] at ho3 ⊢
  have HC8 : Hid (Chg (fun _ => False) w4 w8) := chg_then HC7.out c8
  have HO3 : Hid (ByO w8 w7.heap.size (.slice da L dc) P) := ho3
  have HO18 : Hid (ByO w8 w4.heap.size (.slice ba L bc) P) := ByO.new HO17.out c8
  have HO28 : Hid (ByO w8 w5.heap.size (.slice ea L ec) P) := ByO.new HO27.out c8
  clear ho3 c8 g0 g1 g2 g3 HO17 HO27 HO16 HO1 HO2
  go_wp2_with fail
  go_loopw [12] (fun t wr => ∃ i : Nat, i ≤ L ∧ t = .int .i64 (i : Int) ∧ Hid (ByO wr w4.heap.size (.slice ba L bc) (List.replicate i 1 ++ P.drop i) ∧ Chg (fun k => (Value.slice ba L bc).ownBlock = some k) w8 wr)) (fun t _ => L - (intOf t).toNat)
  case atStart => exact ⟨0, Nat.zero_le _, rfl, by simpa using HO18.out, Chg.refl _ _⟩
  case round =>
    obtain ⟨i, hi, rfl, HJ⟩ := hrel
    have hii : (i : Int) ≤ 1024 := by omega
    by_cases hlt : i < L
    · have d1 : decide ((i : Int) < (L : Int)) = true := decide_eq_true (by omega)
      have d1' : decide (i < L) = true := decide_eq_true hlt
      have hby := HJ.out.1
      unfold ByO at hby
      rw [ones_len HPL.out hi] at hby
      obtain ⟨g, cap, e9, _, _, _, fr0, fr, hcells⟩ := own_some hby (by omega)
      simp only [Value.slice.injEq, true_and] at e9
      obtain ⟨hba, hcap⟩ := e9
      obtain ⟨u0, hu0⟩ : ∃ u0, (ins .u8 (nums (List.replicate i 1 ++ P.drop i)))[i]? = some u0 := ⟨_, List.getElem?_eq_getElem (by have h9 := hby.1; omega)⟩
      have kc := hcells i _ hu0
      have kf := fr i
      have hset := byO_set (q := i) (by rw [← hba]; exact HJ.out.1) hlt 1
      rw [ones_set HPL.out hlt, ← hba] at hset
      have HBE : Hid (ba = some ⟨g, 0, none⟩) := hba
      have HJ2 : Hid (ByO (wr.setCell ⟨g, i, none⟩ (.int .u8 1)) w4.heap.size (.slice ba L bc) (List.replicate (i + 1) 1 ++ P.drop (i + 1)) ∧ Chg (fun k => (Value.slice ba L bc).ownBlock = some k) w8 (wr.setCell ⟨g, i, none⟩ (.int .u8 1))) := ⟨hset, HJ.out.2.setCell (p := ⟨g, i, none⟩) (.inl (by rw [hba]; rfl)) _⟩
      clear hby hu0 fr0 fr hcells hset hcap
      rw [hba]
      clear hba
      go_wp2
      go_roundw
      case rel => exact ⟨i + 1, by omega, by go_num, by rw [← HBE.out]; exact HJ2.out⟩
      case measure => simp [intOf]; omega
    · have d1 : decide ((i : Int) < (L : Int)) = false := decide_eq_false (by omega)
      have d1' : decide (i < L) = false := decide_eq_false hlt
      have hones : List.replicate i 1 ++ P.drop i = List.replicate L 1 := by
        have hiL : i = L := by omega
        rw [hiL, ← HPL.out, List.drop_length, List.append_nil]
      have hby := HJ.out.1
      rw [hones] at hby
      have HJ1 : Hid (ByO wr w4.heap.size (.slice ba L bc) (List.replicate L 1)) := hby
      have cZ := chg_one wr (.cells #[.int .u8 3] 5)
      have hown9 : (wr.alloc (.cells #[.int .u8 3] 5)).ownsRow w4.heap.size 5 1 (.slice ba L bc) L ((nums (List.replicate L 1)).map (Value.int .u8)) := by
        have h1 := ByO.new HJ1.out cZ
        unfold ByO at h1
        rw [List.length_replicate] at h1
        exact h1
      have hsrc9 := (row8_litH wr [3] 1 5 rfl #[.int .u8 3] rfl).src
      have hC9 : Chg (fun k => (Value.slice ba L bc).ownBlock = some k) w8 (wr.alloc (.cells #[.int .u8 3] 5)) := HJ.out.2.alloc _
      have HC9 : Hid _ := hC9
      have hB9 : w4.heap.size ≤ (wr.alloc (.cells #[.int .u8 3] 5)).heap.size := Nat.le_trans HC8.out.size hC9.size
      clear hones hby cZ hC9 hi hlt
      go_wp2_with (at_builtin; refine wpList_append_keep rfl _ _ 25 rfl w4.heap.size 5 iu (.int .u8 0) 1 Tryd.underlying25 hiu hu0 hu1 hu2 rfl (.slice ba L bc) L ((nums (List.replicate L 1)).map (Value.int .u8)) rfl (some ⟨wr.heap.size, 0, none⟩) 1 1 rfl ((nums [3]).map (Value.int .u8)) ?h1 ?h2 ?h3 ?m1 ?m2 ?m3 ?_)
      case h1 => exact hown9
      case h2 => exact hsrc9
      case h3 => exact oneB [3]
      case m1 => unfold maxLen; omega
      case m2 => omega
      case m3 => exact hB9
      intro v10 w10 ho10 hg10 hm10 hk10
      have hC10 : Chg (fun k => (Value.slice ba L bc).ownBlock = some k) w8 w10 := HC9.out.grown hg10 (fun g e => .inl e)
      have HC10 : Hid (Chg (fun _ => False) w4 w10) := HC8.out.trans hC10 (fun k e => .inr (HLT1.out k e).1)
      have HV10 : Hid (ByO w10 w4.heap.size v10 (List.replicate L 1 ++ [3])) := byO_app ho10
      have HK10 : Hid (ByO w10 w4.heap.size (.slice ba L bc) (List.replicate L 1)) := by
        show World.ownsRow _ _ _ _ _ _ _
        rw [List.length_replicate]
        exact hk10
      have HO2x : Hid (ByO w10 w5.heap.size (.slice ea L ec) P) := ownsRow_keep HO28.out hC10 (fun k e f => by have h1 := (HLT1.out k f).2; have h2 := (HO28.out.lt k e).1; omega)
      have HO3x : Hid (ByO w10 w7.heap.size (.slice da L dc) P) := ownsRow_keep HO3.out hC10 (fun k e f => by have h1 := (HLT1.out k f).2; have h2 := (HO3.out.lt k e).1; have h3 := HSZ7.out; omega)
      obtain ⟨va, vc, hv10⟩ := form1 ho10
      subst hv10
      have hcv1 := Bk.conv8_here (byO_row HO3x.out).1
      have hcv2 := Bk.conv8_here (byO_row HO2x.out).1
      obtain ⟨_, _, g2, _⟩ := cells4h (HBG.out w10 HC10.out).1
      obtain ⟨_, _, g6, _⟩ := cells4h (HBG.out w10 HC10.out).2
      clear ho10 hg10 hm10 hk10 hC10 hown9 hsrc9 hB9 HJ HJ1 HC9
      go_wp2_with fail
      refine Calls.mono (HKP.out w10 HC10.out) ?_
      rintro z w11 ⟨rfl, c11⟩
      have HC11 : Hid (Chg (fun _ => False) w4 w11) := chg_then HC10.out c11
      have HV11 : Hid (ByO w11 w4.heap.size (.slice va (L + 1) vc) (List.replicate L 1 ++ [3])) := ByO.new HV10.out c11
      have HK11 : Hid (ByO w11 w4.heap.size (.slice ba L bc) (List.replicate L 1)) := ByO.new HK10.out c11
      clear hcv1 hcv2 g2 g6 c11
      obtain ⟨vb, vo, hva, hvcs⟩ := row8_at (byO_row HV11.out).1 (by omega)
      subst hva
      have HVC : Hid (∀ j, j < L + 1 → w11.cell? ⟨vb, vo + j, none⟩ = some (.int .u8 (((List.replicate L 1 ++ [3]).getD j 0 : Nat) : Int))) := hvcs
      clear hvcs
      obtain ⟨N1, hN1⟩ : ∃ N1, L + 1 = N1 := ⟨_, rfl⟩
      have HN1 : Hid (L + 1 = N1) := hN1
      rw [hN1] at HVC HV11 ⊢
      have hN1i : (N1 : Int) ≤ 1025 := by omega
      go_wp2_with fail
      go_loopw [14] (fun t wq => ∃ j : Nat, j ≤ N1 ∧ t = .int .i64 (j : Int) ∧ w11 = wq) (fun t _ => N1 - (intOf t).toNat)
      case atStart => exact ⟨0, Nat.zero_le _, rfl, rfl⟩
      case round =>
        obtain ⟨j, hj, rfl, rfl⟩ := hrel
        have hji : (j : Int) ≤ 1025 := by omega
        by_cases hjl : j < N1
        · have e1 : decide ((j : Int) < (N1 : Int)) = true := decide_eq_true (by omega)
          have e1' : decide (j < N1) = true := decide_eq_true hjl
          by_cases hjL : j < L
          · have e2 : decide ((j : Int) < (L : Int)) = true := decide_eq_true (by omega)
            have e2' : decide (j < L) = true := decide_eq_true hjL
            have y1 := HVC.out j hjl
            have e77 : (List.replicate L 1 ++ [3]).getD j 0 = 1 := by rw [List.getD_eq_getElem?_getD, List.getElem?_append_left (by simpa using hjL), List.getElem?_replicate, if_pos hjL]; rfl
            rw [e77] at y1
            obtain ⟨kb, ko, hkb, hkc⟩ := row8_at (byO_row HK11.out).1 (by omega)
            have y2 := hkc j hjL
            have e78 : (List.replicate L 1).getD j 0 = 1 := by rw [List.getD_eq_getElem?_getD, List.getElem?_replicate, if_pos hjL]; rfl
            rw [e78] at y2
            rw [hkb]
            clear hkc hkb e77 e78
            replace y1 : w11.cell? ⟨vb, vo + j, none⟩ = some (.int .u8 1) := y1
            replace y2 : w11.cell? ⟨kb, ko + j, none⟩ = some (.int .u8 1) := y2
            go_wp2
            go_roundw
            case rel => exact ⟨j + 1, by omega, by go_num, by first | trivial | rfl⟩
            case measure => simp [intOf]; omega
          · have e2 : decide ((j : Int) < (L : Int)) = false := decide_eq_false (by omega)
            have e2' : decide (j < L) = false := decide_eq_false hjL
            go_wp2
            go_roundw
            case rel => exact ⟨j + 1, by omega, by go_num, by first | trivial | rfl⟩
            case measure => simp [intOf]; omega
        · have e1 : decide ((j : Int) < (N1 : Int)) = false := decide_eq_false (by omega)
          have e1' : decide (j < N1) = false := decide_eq_false hjl
          have hLN : L < N1 := by omega
          have hLNi : (L : Int) < (N1 : Int) := by omega
          have y1 := HVC.out L hLN
          have e77 : (List.replicate L 1 ++ [3]).getD L 0 = 3 := by rw [List.getD_eq_getElem?_getD, List.getElem?_append_right (by simp)]; simp
          rw [e77] at y1
          replace y1 : w11.cell? ⟨vb, vo + L, none⟩ = some (.int .u8 3) := y1
          have HFX : Hid _ := fixed21_any S w11 (S.keep (S.keep HT.out HC4.out) HC11.out)
          clear e77
          go_wp2_with fail
          refine Calls.mono HFX.out ?_
          rintro z w12 ⟨rfl, c12⟩
          have HC12 : Hid (Chg (fun _ => False) w w12) := chg_then (chg_then HC4.out HC11.out) c12
          clear c12
          go_wp2
          go_ret
          exact ⟨rfl, HC12.out⟩
end Go.Proofs.YtkncbanodpfccaaDoor
