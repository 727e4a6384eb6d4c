/- The walk through ShaPlays; of no statement by itself. -/
import Derived.Test.YtnedllhlmddmoabDoorPlay
import Derived.Test.YtnedllhlmddmoabDoorGrowR
import Derived.Test.YtnedllhlmddmoabDoorEq
import Derived.Deep.RegionLaw
import Derived.Great.BuildSlice
import Derived.Deep.DeepCutAuto
namespace Go.Proofs.YtnedllhlmddmoabDoor
open Go.RowKit
set_option linter.unusedVariables false

/-- One call of the script. -/
structure Opv where
  kind : Int
  hh : Int
  nn : Int
  ad : Option Addr
  m : Nat
  c : Nat
  ns : List Nat

/-- The script in memory. -/
structure ArgO (w : World) (a : Option Addr) (N : Nat) (os : List Opv) : Prop where
  ln : os.length = N
  at_ : ∀ k (hk : k < os.length), ∃ b off, a = some ⟨b, off, none⟩ ∧ w.cell? ⟨b, off + k * 4, none⟩ = some (.int .i64 os[k].kind) ∧ w.cell? ⟨b, off + k * 4 + 1, none⟩ = some (.int .i64 os[k].hh) ∧ w.cell? ⟨b, off + k * 4 + 2, none⟩ = some (.int .i64 os[k].nn) ∧ w.cell? ⟨b, off + k * 4 + 3, none⟩ = some (.slice os[k].ad os[k].m os[k].c)
  row : ∀ k (hk : k < os.length), Row8 w os[k].ad os[k].m os[k].c (up os[k].ns) ∧ Byt os[k].ns ∧ (-9223372036854775808 ≤ os[k].hh ∧ os[k].hh < 9223372036854775808) ∧ (-9223372036854775808 ≤ os[k].nn ∧ os[k].nn < 9223372036854775808)

theorem ArgO.keep {w w' : World} {a : Option Addr} {N : Nat} {os : List Opv} (h : ArgO w a N os) (hc : Chg (fun _ => False) w w') : ArgO w' a N os := by
  refine ⟨h.ln, fun k hk => ?_, fun k hk => ?_⟩
  · obtain ⟨b, off, e, h0, h1, h2, h3⟩ := h.at_ k hk
    exact ⟨b, off, e, cell_chg h0 hc, cell_chg h1 hc, cell_chg h2 hc, cell_chg h3 hc⟩
  · obtain ⟨h0, h1⟩ := h.row k hk
    exact ⟨row8_chg h0 hc, h1⟩

/-- All bytes that came so far. -/
def sofar (os : List Opv) (k : Nat) : Nat := (((os.map Opv.ns).take k).flatten).length

theorem sofar_next (os : List Opv) (k : Nat) (hk : k < os.length) : sofar os (k + 1) = sofar os k + os[k].ns.length := by
  unfold sofar
  rw [flat_take _ k (by simpa using hk), List.length_append]
  simp
theorem sofar_le (os : List Opv) (k : Nat) (h : ((os.map Opv.ns).flatten).length ≤ 1048576) : sofar os k ≤ 1048576 := by
  unfold sofar
  refine Nat.le_trans ?_ h
  conv => rhs; rw [← List.take_append_drop k (os.map Opv.ns)]
  rw [List.flatten_append, List.length_append]
  omega

theorem Play.begin {w0 w : World} {a r : Nat} (hc : Chg (fun _ => False) w0 w) (ha : w0.heap.size ≤ a) (hr : w0.heap.size ≤ r) (hE : Eat w a Sha.I 0 []) (hR : Rh w r Sha.I 0 (.slice none 0 0) []) (M : Nat) :
    Play w0 (w.alloc (.cells #[.pointer (some ⟨a, 0, none⟩), .pointer (some ⟨r, 0, none⟩)] 39)) M (.slice (some ⟨w.heap.size, 0, none⟩) 1 1) [⟨a, r, Sha.I, 0, .slice none 0 0, []⟩] := by
  have c1 := chg_one w (.cells #[.pointer (some ⟨a, 0, none⟩), .pointer (some ⟨r, 0, none⟩)] 39)
  refine ⟨chg_then hc c1, ⟨rfl, .inr ⟨w.heap.size, 1, _, rfl, hc.size, heap_alloc_last _ _, Nat.le_refl _, by unfold maxLen; omega, rfl, rfl⟩⟩, fun i hi => ?_, fun i j hi hj hne => ?_, by simp, by simp⟩
  · have e : i = 0 := by simpa using hi
    subst e
    exact ⟨hE.new c1, blk_keep hR.blk c1 (fun f => f), World.ownsRow_nil _ _ 5 1, Byt.nil, Sha.I_st, rfl, Nat.zero_le _, by simp, ha, hr⟩
  · simp at hi hj
    omega

theorem infoP2 : (Tryd.prog.info? 39).map (fun i => (i.zero, i.size, i.bytes)) = some (some (.agg #[.pointer none, .pointer none]), 2, 16) := by kernel_rfl

theorem from_p (w : World) (x y : Value) (t : TypeId) : From (w.alloc (.cells #[x, y] t)) (some ⟨w.heap.size, 0, none⟩) 1 1 2 [x, y] := by
  refine ⟨rfl, .inr ⟨_, rfl, fun j u hu => ?_⟩⟩
  have hb : (w.alloc (.cells #[x, y] t)).heap[w.heap.size]? = some (.cells #[x, y] t (0, 0)) := heap_alloc_last _ _
  match j, hu with
  | 0, hu => simp at hu; subst hu; rw [addk]; exact cell0 hb
  | 1, hu => simp at hu; subst hu; rw [addk]; exact cell1 hb

/-- A block of n bytes, whatever they are. -/
def Bz (w : World) (g n : Nat) : Prop := ∃ (zs : List Int) (rest : List Value), zs.length = n ∧ w.heap[g]? = some (.cells (zs.map (Value.int .u8) ++ rest).toArray 5 (0, 0))

theorem Bz.of {w : World} {g : Nat} {xs : List Nat} (h : Blk w g xs) : Bz w g xs.length := by
  obtain ⟨rest, h⟩ := h
  exact ⟨up xs, rest, by rw [up_length], by rw [h]; simp [byts, up, Function.comp_def]⟩
theorem Bz.keep {w w' : World} {S : Nat → Prop} {g n : Nat} (h : Bz w g n) (hc : Chg S w w') (hS : ¬ S g) : Bz w' g n := by
  obtain ⟨zs, rest, hl, h⟩ := h
  exact ⟨zs, rest, hl, blk_keep h hc hS⟩
theorem Bz.cell {w : World} {g n : Nat} (h : Bz w g n) (q : Nat) (hq : q < n) : ∃ z, w.cell? ⟨g, q, none⟩ = some (.int .u8 z) := by
  obtain ⟨zs, rest, hl, h⟩ := h
  refine ⟨zs[q], ?_⟩
  rw [cell_of_row _ _ q _ _ _ h, List.getElem?_toArray, List.getElem?_append_left (by simp; omega)]
  simp [show q < zs.length by omega]
theorem Bz.frozen {w : World} {g n : Nat} (h : Bz w g n) (q : Nat) : w.frozen? ⟨g, q, none⟩ = false := by
  obtain ⟨zs, rest, hl, h⟩ := h
  simp [World.frozen?, h]
theorem Bz.set {w : World} {g n : Nat} (h : Bz w g n) (q : Nat) (y : Int) (hq : q < n) : Bz (w.setCell ⟨g, q, none⟩ (.int .u8 y)) g n := by
  obtain ⟨zs, rest, hl, h⟩ := h
  refine ⟨zs.set q y, rest, by simpa using hl, ?_⟩
  rw [blk_setk h q, List.set_append_left q _ (by simp; omega), List.map_set]

/-- Behind a Write and the append beside it. -/
structure Wrote (w0 w5 w : World) (x : It) (ns : List Nat) (lg cap : Nat) (v : Value) : Prop where
  eat : Eat w x.a x.s x.n (x.bs ++ ns)
  blk : w.heap[x.r]? = some (.cells (rcells x.s x.n v).toArray 47 (0, 0))
  own : w.ownsRow w0.heap.size 5 1 v (x.bs ++ ns).length (cells8 (up (x.bs ++ ns)))
  moved : Moved w5 x.v v
  chg : Chg (Foots x) w5 w
  room : Roomy w lg ns.length cap ns
  full : Blk w lg (ns ++ [165])
  free : ∀ z, v.ownBlock = some z → z ≠ lg

theorem rcells_put9 {s : List Nat} (hs : s.length = 8) (n : Nat) (v v' : Value) : (rcells s n v).set 9 v' = rcells s n v' := by
  unfold rcells
  rw [List.set_append_right 9 _ (by rw [wds_len]; omega), wds_len, hs]
  rfl

theorem wrote_of {w0 w5 w6 w7 w8 : World} {M : Nat} {x : It} {ns : List Nat} {lg cap : Nat} {cur : Array Value} {v8 : Value} (hG : Good w5 w0.heap.size M x) (c6 : Chg (fun _ => False) w5 w6) (room : Roomy w6 lg ns.length cap ns) (blk : w6.heap[lg]? = some (.cells cur 5 (0, 0))) (hlg : w5.heap.size ≤ lg)
    (c7 : Chg (fun k => k = x.a) w6 w7) (hE : Eat w7 x.a x.s x.n (x.bs ++ ns)) (ho : w8.ownsRow w0.heap.size 5 1 v8 (x.bs.length + ns.length) (cells8 (up x.bs) ++ cells8 (up ns))) (hg : w7.drew.grownBy w8 x.v.ownBlock) (hm : Moved w7.drew x.v v8) :
    Wrote w0 w5 (w8.setCell ⟨x.r, 9, none⟩ v8) x ns lg cap v8 := by
  have cg : Chg (fun z => x.v.ownBlock = some z) w7 w8 := (Chg.refl _ w7).drew.grown hg (fun k e => .inl e)
  have cs : Chg (fun z => z = x.r) w8 (w8.setCell ⟨x.r, 9, none⟩ v8) := (Chg.refl (fun z => z = x.r) w8).setCell (p := ⟨x.r, 9, none⟩) (.inl rfl) _
  have l1 := hG.alt
  have l2 := hG.rlt
  have nar := hG.ar hG
  have nav := hG.av hG
  have nrv := hG.rv hG
  have s6 := c6.size
  have s7 := c7.size
  have b8 := blk_keep (blk_keep (blk_keep hG.blk c6 (fun f => f)) c7 (fun e => nar e.symm)) cg nrv
  have hlx := lt_of_blk blk
  refine ⟨(hE.keep cg nav).keep cs nar, ?_, ?_, ?_, ?_, ?_, ?_, ?_⟩
  · rw [blk_setk b8 9, rcells_put9 hG.st.1]
  · rw [List.length_append, up_append, ← cells8_append]
    refine ownsRow_keep ho cs (fun z e e2 => ?_)
    subst e2
    obtain ⟨cur2, h2⟩ := ownsRow_blk ho e
    exact ty_ne h2 b8 (by decide)
  · intro z e
    rcases hm z e with h | h
    · exact .inl h
    · have h' : w7.heap.size ≤ z := h
      exact .inr (by omega)
  · exact (((c6.mono (T := Foots x) (fun _ f => f.elim)).trans c7 (fun z e => .inl (.inl e))).trans cg (fun z e => .inl (.inr (.inr e)))).trans cs (fun z e => .inl (.inr (.inl e)))
  · exact ((room.keep c7 (by omega)).keep cg (fun e => by have := hG.vlt _ e; omega)).keep cs (by omega)
  · have b7 := blk_keep blk c7 (by omega)
    have b8' := blk_keep b7 cg (fun e => by have := hG.vlt _ e; omega)
    have b9 := blk_keep b8' cs (by omega)
    exact blk_of_row (((room.keep c7 (by omega)).keep cg (fun e => by have := hG.vlt _ e; omega)).keep cs (by omega)).row b9
  · intro z e e2
    rcases hm z e with h | h
    · have := hG.vlt _ h
      omega
    · have h' : w7.heap.size ≤ z := h
      omega

/-- Which one is meant. -/
theorem which (hh : Int) (L : Nat) (hL : 0 < L) (hL6 : L ≤ 6) : ∃ j : Nat, j < L ∧ ((hh.tmod L < 0 ∧ wrap64 (hh.tmod L + L) = (j : Int)) ∨ (¬ hh.tmod L < 0 ∧ hh.tmod L = (j : Int))) := by
  have h1 : hh.tmod (L : Int) < L := Int.tmod_lt_of_pos hh (by omega)
  have h2 : -(L : Int) < hh.tmod (L : Int) := by
    have := Int.lt_tmod_of_pos hh (show (0 : Int) < (L : Int) by omega)
    omega
  generalize hh.tmod (L : Int) = q at *
  by_cases h : q < 0
  · refine ⟨(q + L).toNat, by omega, .inl ⟨h, ?_⟩⟩
    rw [show ((q + L).toNat : Int) = q + L by omega]
    simp only [wrap64]
    omega
  · exact ⟨q.toNat, by omega, .inr ⟨h, by omega⟩⟩

set_option maxHeartbeats 40000000 in
set_option maxRecDepth 100000 in
theorem plays_walk (a : Option Addr) (N c : Nat) (os : List Opv) (w0 : World) (T0 : Tab w0) (hA : ArgO w0 a N os) (hN : N ≤ 1048576) (hF : ((os.map Opv.ns).flatten).length ≤ 1048576) :
    Calls Tryd.prog 4 #[.slice a N c] w0 fun e w' => e = .returned (.bool true) ∧ Chg (fun _ => False) w0 w' := by
  have HA : Hid (ArgO w0 a N os) := hA
  have HT : Hid (Tab w0) := T0
  have HF : Hid (((os.map Opv.ns).flatten).length ≤ 1048576) := hF
  clear hA hF T0
  go_enter Tryd.func4, Tryd.ntmps4
  go_wp2_with fail
  refine (new_any w0 HT.out).mono ?_
  rintro e w1 ⟨ha, rfl, hal, hE, c1⟩
  go_wp2_with fail
  refine (refnew_any w1).mono ?_
  rintro e w2 ⟨hr, rfl, hrl, hR, c2⟩
  have HP : Hid _ := Play.begin (chg_then c1 c2) hal (Nat.le_trans c1.size hrl) (hE.new c2) hR (sofar os 0)
  clear hE hR c1 c2 hal hrl
  go_wp2_with fail
  go_loopw [3, 26] (fun lv i wr => ∃ (k : Nat) (xs : List It), k ≤ N ∧ i = .int .i64 k ∧ Hid (Play w0 wr (sofar os k) lv xs)) (fun _ i _ => N - (intOf i).toNat)
  case atStart => exact ⟨0, _, by omega, rfl, HP⟩
  case round =>
    clear HP
    obtain ⟨k, xs, hk, rfl, HP⟩ := hrel
    by_cases hlt : k < N
    · have kn : k < os.length := by rw [HA.out.ln]; exact hlt
      have A1 := HA.out.keep HP.out.chg
      obtain ⟨b, off, rfl, d0, d1, d2, d3⟩ := A1.at_ k kn
      obtain ⟨hrow, hbyt, hhb, hnb⟩ := A1.row k kn
      have HBel : Hid (0 < os[k].m → ∀ y, os[k].ad = some y → y.block < w0.heap.size) := fun h0 y e => (HA.out.row k kn).1.below h0 y e
      have hnx := sofar_next os k kn
      have hsf := sofar_le os (k + 1) HF.out
      obtain ⟨g, lcap, rfl, hlc, hcl⟩ := HP.out.at
      have hpos := HP.out.pos
      have hmost := HP.out.most
      generalize os[k].kind = kind at *
      generalize os[k].hh = hh at *
      generalize os[k].nn = nn at *
      generalize os[k].ad = ad at *
      generalize os[k].m = m at *
      generalize os[k].c = cc at *
      generalize os[k].ns = ns at *
      obtain ⟨L, HL⟩ : ∃ L, Hid (xs.length = L) := ⟨_, rfl⟩
      rw [HL.out] at hpos hmost hlc ⊢
      clear A1
      obtain ⟨j, hj, hjw⟩ := which hh L hpos hmost
      have HJW : Hid _ := hjw
      have jx : j < xs.length := by rw [HL.out]; exact hj
      have HCl : Hid _ := hcl j jx
      clear hjw hcl
      go_upto_if 36 with fail
      go_cut [6] (fun s6 wx => s6 = .int .i64 (j : Nat) ∧ wx = wr.alloc (.cells #[.int .i64 kind, .int .i64 hh, .int .i64 nn, .slice ad m cc] 42))
      case first =>
        have hjw := HJW.out
        clear HJW
        rcases hjw with ⟨h1, h2⟩ | ⟨h1, h2⟩
        · go_wp2_with fail
          go_meet
          case rel => exact ⟨by first | rfl | rw [h2], rfl⟩
        · go_wp2_with fail
          go_meet
          case rel => exact ⟨by first | rfl | rw [h2], rfl⟩
      case rest =>
        obtain ⟨rfl, rfl⟩ := hcut
        clear HJW
        obtain ⟨x, hx⟩ : ∃ x, xs[j] = x := ⟨_, rfl⟩
        have HX : Hid (xs[j] = x) := hx
        clear hx
        have c1 := chg_one wr (.cells #[.int .i64 kind, .int .i64 hh, .int .i64 nn, .slice ad m cc] 42)
        have q0 := cell_chg HCl.out.1 c1
        have q1 := cell_chg HCl.out.2 c1
        rw [HX.out] at q0 q1
        go_upto_region 11 with fail
        have c2 := chg_one (wr.alloc (.cells #[.int .i64 kind, .int .i64 hh, .int .i64 nn, .slice ad m cc] 42)) (.cells #[.pointer (some ⟨x.a, 0, none⟩), .pointer (some ⟨x.r, 0, none⟩)] 39)
        have C12 := chg_then c1 c2
        have hb5 := blk_keep (heap_alloc_last wr (.cells #[.int .i64 kind, .int .i64 hh, .int .i64 nn, .slice ad m cc] 42)) c2 (fun f => f)
        have hp5 : ((wr.alloc (.cells #[.int .i64 kind, .int .i64 hh, .int .i64 nn, .slice ad m cc] 42)).alloc (.cells #[.pointer (some ⟨x.a, 0, none⟩), .pointer (some ⟨x.r, 0, none⟩)] 39)).heap[wr.heap.size + 1]? = some (.cells #[.pointer (some ⟨x.a, 0, none⟩), .pointer (some ⟨x.r, 0, none⟩)] 39 (0, 0)) := by
          rw [show wr.heap.size + 1 = (wr.alloc (.cells #[.int .i64 kind, .int .i64 hh, .int .i64 nn, .slice ad m cc] 42)).heap.size by simp]
          exact heap_alloc_last _ _
        have HP5 : Hid (Play w0 ((wr.alloc (.cells #[.int .i64 kind, .int .i64 hh, .int .i64 nn, .slice ad m cc] 42)).alloc (.cells #[.pointer (some ⟨x.a, 0, none⟩), .pointer (some ⟨x.r, 0, none⟩)] 39)) (sofar os k) (.slice (some ⟨g, 0, none⟩) L lcap) xs) := by
          have := HP.out.new C12
          rw [HL.out] at this
          exact this
        have HG : Hid (Good ((wr.alloc (.cells #[.int .i64 kind, .int .i64 hh, .int .i64 nn, .slice ad m cc] 42)).alloc (.cells #[.pointer (some ⟨x.a, 0, none⟩), .pointer (some ⟨x.r, 0, none⟩)] 39)) w0.heap.size (sofar os k) x) := by
          have := HP5.out.good j jx
          rw [HX.out] at this
          exact this
        have HRow : Hid (Row8 ((wr.alloc (.cells #[.int .i64 kind, .int .i64 hh, .int .i64 nn, .slice ad m cc] 42)).alloc (.cells #[.pointer (some ⟨x.a, 0, none⟩), .pointer (some ⟨x.r, 0, none⟩)] 39)) ad m cc (up ns)) := row8_chg hrow C12
        have HB : Hid (w0.heap.size ≤ wr.heap.size) := HP.out.chg.size
        have HB2 : Hid (ns.length = m) := by have := hrow.1; rw [up_length] at this; exact this
        clear c1 c2 q0 q1 HP HCl hrow d0 d1 d2 d3 C12
        generalize (wr.alloc (.cells #[.int .i64 kind, .int .i64 hh, .int .i64 nn, .slice ad m cc] 42)).alloc (.cells #[.pointer (some ⟨x.a, 0, none⟩), .pointer (some ⟨x.r, 0, none⟩)] 39) = w5 at *
        generalize wr.heap.size = B at *
        have e0 : w5.cell? ⟨B, 0, none⟩ = some (.int .i64 kind) := by rw [cell_of_row _ _ 0 _ _ _ hb5]; rfl
        have e1 : w5.cell? ⟨B, 1, none⟩ = some (.int .i64 hh) := by rw [cell_of_row _ _ 1 _ _ _ hb5]; rfl
        have e2 : w5.cell? ⟨B, 2, none⟩ = some (.int .i64 nn) := by rw [cell_of_row _ _ 2 _ _ _ hb5]; rfl
        have e3 : w5.cell? ⟨B, 3, none⟩ = some (.slice ad m cc) := by rw [cell_of_row _ _ 3 _ _ _ hb5]; rfl
        have p0 : w5.cell? ⟨B + 1, 0, none⟩ = some (.pointer (some ⟨x.a, 0, none⟩)) := cell0 hp5
        have p1 : w5.cell? ⟨B + 1, 1, none⟩ = some (.pointer (some ⟨x.r, 0, none⟩)) := cell1 hp5
        have hB5 := lt_of_blk hp5
        by_cases k1 : kind = 1
        · subst k1
          have hn1 := HG.out.nle
          have hl1 := HG.out.len
          have HT5 : Hid (Tab w5) := HT.out.new HP5.out.chg
          have hmm : ns.length = m := HB2.out
          obtain ⟨i0, hi, hz0, hz1, hz2⟩ := info_parts info5
          go_wp2_with fail
          refine (lent_any ad m cc ns w5 HRow.out (by omega)).mono ?_
          rintro e w6 ⟨lg, cap, cur, rfl, hroom, hblk, hgs, hglt, c6⟩
          have p06 := cell_chg p0 c6
          have p16 := cell_chg p1 c6
          have e36 := cell_chg e3 c6
          have hp6 := blk_keep hp5 c6 (fun f => f)
          have hb6 := blk_keep hb5 c6 (fun f => f)
          have HG6 : Hid (Good w6 w0.heap.size (sofar os k) x) := HG.out.new c6
          have HRow6 : Hid (Row8 w6 ad m cc (up ns)) := row8_chg HRow.out c6
          have hT2 := HT.out.two
          have hga := HG.out.ha
          have hla := HG.out.alt
          have hfit := hroom.fit
          have HRoom : Hid (Roomy w6 lg m cap ns) := hroom
          have HBl : Hid (w6.heap[lg]? = some (.cells cur 5 (0, 0))) := hblk
          have HC6 : Hid (Chg (fun _ => False) w5 w6) := c6
          have HT6 : Hid (Tab w6) := HT5.out.new c6
          have HRow5 : Hid (Row8 w5 ad m cc (up ns)) := HRow.out
          clear p0 p1 e0 e1 e2 e3 hp5 hb5 HRow c6 hroom hblk
          go_wp2_with fail
          refine (write_any x.a x.s x.n x.bs ns (some ⟨lg, 0, none⟩) m cap w6 HT6.out (by omega) HG6.out.st HG6.out.n64 HG6.out.eat (HRoom.out.bytes hmm) hbyt (fun _ y e => by cases e; show lg ≠ x.a; omega) (by omega) (by omega)).mono ?_
          rintro e w7 ⟨rfl, hE7, c7⟩
          obtain ⟨ca, hca⟩ := HG6.out.ab
          have nB1a : B + 1 ≠ x.a := fun e => by rw [← e] at hca; exact ty_ne hp6 hca (by decide)
          have nBa : B ≠ x.a := fun e => by rw [← e] at hca; exact ty_ne hb6 hca (by decide)
          have nB1r : B + 1 ≠ x.r := fun e => by have h9 := HG6.out.blk; rw [← e] at h9; exact ty_ne hp6 h9 (by decide)
          have nBr : B ≠ x.r := fun e => by have h9 := HG6.out.blk; rw [← e] at h9; exact ty_ne hb6 h9 (by decide)
          have nB1v : x.v.ownBlock ≠ some (B + 1) := fun e => by obtain ⟨cv, hcv⟩ := HG6.out.vb _ e; exact ty_ne hp6 hcv (by decide)
          have nBv : x.v.ownBlock ≠ some B := fun e => by obtain ⟨cv, hcv⟩ := HG6.out.vb _ e; exact ty_ne hb6 hcv (by decide)
          have nar := HG6.out.ar HG6.out
          have nav := HG6.out.av HG6.out
          have nrv := HG6.out.rv HG6.out
          have p17 := cell_at' p16 c7 nB1a
          have e37 := cell_at' e36 c7 nBa
          have hb7 := blk_keep HG6.out.blk c7 (fun e => nar e.symm)
          have r97 : w7.cell? ⟨x.r, 9, none⟩ = some x.v := by
            have h9 := HG6.out.st.1
            rw [cell_of_row _ _ 9 _ _ _ hb7]
            simp [rcells, wds, h9]
          have f97 : w7.frozen? ⟨x.r, 9, none⟩ = false := by simp [World.frozen?, hb7]
          have ho7 := ownsRow_keep HG6.out.own c7 (fun z e e2 => by subst e2; exact nav e)
          obtain ⟨va, vc, hv, -⟩ := own_row8c ho7
          have HV : Hid (x.v = .slice va x.bs.length vc) := hv
          rw [hv] at r97 ho7
          have hrow7 : Row8 w7 ad m cc (up ns) := by
            by_cases h0 : 0 < m
            · exact row8_keep HRow6.out c7 (fun y e e2 => by have h9 := HBel.out h0 y e; omega)
            · have em : m = 0 := by omega
              have h9 := HRow6.out
              rw [em] at h9 ⊢
              exact row8_zero h9
          have hs7 : w0.heap.size ≤ w7.heap.size := Nat.le_trans HP5.out.chg.size (Nat.le_trans HC6.out.size c7.size)
          have HE7 : Hid (Eat w7 x.a x.s x.n (x.bs ++ ns)) := hE7
          have HC7 : Hid (Chg (fun k => k = x.a) w6 w7) := c7
          clear hE7 hv p06 p16 e36 c7
          go_upto_region 15 with fail
          go_cut [7] (fun s7 wx => s7 = .pointer (some ⟨B + 1, 0, none⟩) ∧ ∃ v, Hid (Wrote w0 w5 wx x ns lg cap v) ∧ Hid (wx.cell? ⟨B, 3, none⟩ = some (.slice ad m cc)))
          case first =>
            go_region_law (refine step_append_moved (by rfl) (.tmp 65) (.tmp 67) 24 (by rfl) w0.heap.size 5 i0 (.int .u8 0) 1 1 Tryd.underlying24 hi hz0 hz1 hz2 rfl (by decide) _ x.bs.length (cells8 (up x.bs)) (by rfl) ad m cc (by rfl) (cells8 (up ns)) (show w7.drew.ownsRow w0.heap.size 5 1 (.slice va x.bs.length vc) x.bs.length (cells8 (up x.bs)) from ho7) (show From w7.drew ad m cc 1 (cells8 (up ns)) from hrow7.src) (oneCells _) (by unfold maxLen; omega) (by omega) hs7 ?_; intro v8 w8 ho8 hg8 hm8; have cg8 : Chg (fun z => (Value.slice va x.bs.length vc).ownBlock = some z) w7 w8 := (Chg.refl _ w7).drew.grown hg8 (fun k e => .inl e); have p18 := cell_at' p17 cg8 (fun e => nB1v (by rw [HV.out]; exact e)); have e38 := cell_at' e37 cg8 (fun e => nBv (by rw [HV.out]; exact e)); have hb8 := blk_keep hb7 cg8 (fun e => nrv (by rw [HV.out]; exact e)); have f98 : w8.frozen? ⟨x.r, 9, none⟩ = false := (by simp [World.frozen?, hb8]); have r98 : w8.cell? ⟨x.r, 9, none⟩ = some x.v := (by have h9 := HG6.out.st.1; rw [cell_of_row _ _ 9 _ _ _ hb8]; simp [rcells, wds, h9]); have HO8 : Hid _ := ho8; have HG8 : Hid _ := hg8; have HM8 : Hid _ := hm8; obtain ⟨va2, vc2, rfl⟩ := own_form ho8; clear ho8 hg8 hm8 cg8 hb8)
            all_goals (
              go_wp2_with fail
              go_meet
              case rel =>
                refine ⟨rfl, .slice va2 (x.bs.length + m) vc2, wrote_of HG.out HC6.out (by rw [hmm]; exact HRoom.out) HBl.out hgs HC7.out HE7.out (by rw [hmm]; exact HO8.out) (by rw [HV.out]; exact HG8.out) (by rw [HV.out]; exact HM8.out), ?_⟩
                exact cell_at' e38 ((Chg.refl (fun z => z = x.r) w8).setCell (p := ⟨x.r, 9, none⟩) (.inl rfl) _) nBr)
          case rest =>
            obtain ⟨rfl, v9, HW, HE3⟩ := hcut
            have e3c := HE3.out
            have hrowc : Row8 wc ad m cc (up ns) := by
              by_cases h0 : 0 < m
              · refine row8_keep HRow5.out HW.out.chg (fun y e f => ?_)
                have h9 := HBel.out h0 y e
                rcases f with f | f | f
                · omega
                · have := HG.out.hr
                  omega
                · have := (HG.out.own.lt _ f).1
                  omega
              · have em : m = 0 := by omega
                have h9 := HRow5.out
                rw [em] at h9 ⊢
                exact row8_zero h9
            have hroomc : Roomy wc lg m cap ns := by rw [← hmm]; exact HW.out.room
            clear HE3 p17 e37 r97 f97 hb7 ho7 hrow7 HE7 HC7 HG6 HRow6 HT6 HRow5 nB1a nBa nB1r nBr nB1v nBv hp6 hb6 HRoom HBl
            go_wp2_with fail
            refine (kept_any lg m cap ad cc ns wc hroomc hrowc (by omega)).mono ?_
            rintro e wd ⟨rfl, cd⟩
            have HBz : Hid (Bz wd lg (m + 1)) := by
              have h9 := (Bz.of HW.out.full).keep cd (fun f => f)
              rw [List.length_append, hmm] at h9
              exact h9
            have HCd : Hid (Chg (fun _ => False) wc wd) := cd
            clear cd hroomc hrowc e3c
            go_wp2_with fail
            go_loopw [78] (fun i wq => ∃ q : Nat, q ≤ m + 1 ∧ i = .int .i64 q ∧ Hid (Bz wq lg (m + 1)) ∧ Hid (Chg (fun z => z = lg) wd wq)) (fun i _ => m + 1 - (intOf i).toNat)
            case atStart => exact ⟨0, by omega, rfl, HBz, Chg.refl _ _⟩
            case round =>
              clear HBz
              obtain ⟨q, hq, rfl, HBq, HCq⟩ := hrel
              by_cases hlt4 : q < m + 1
              · obtain ⟨z, cz⟩ := HBq.out.cell q hlt4
                have fz := HBq.out.frozen q
                have HS : Hid (∀ y, Bz (wr.setCell ⟨lg, q, none⟩ (.int .u8 y)) lg (m + 1)) := fun y => HBq.out.set q y hlt4
                have HCs : Hid (∀ y, Chg (fun z => z = lg) wd (wr.setCell ⟨lg, q, none⟩ (.int .u8 y))) := fun y => HCq.out.setCell (p := ⟨lg, q, none⟩) (.inl rfl) _
                clear HBq HCq
                go_wp2
                go_roundw
                case rel => exact ⟨q + 1, by omega, by go_num, HS.out _, HCs.out _⟩
                case measure => simp [intOf]; omega
              · have HPf : Hid (Play w0 wr (sofar os (k + 1)) (.slice (some ⟨g, 0, none⟩) L lcap) (xs.set j ⟨x.a, x.r, x.s, x.n, v9, x.bs ++ ns⟩)) := by
                  have hW := HW.out
                  have hG := HG.out
                  have l1 := hG.alt
                  have l2 := hG.rlt
                  have cA : Chg (Foots x) w5 wr := (hW.chg.trans HCd.out (fun _ f => f.elim)).trans HCq.out (fun z e => .inr (by omega))
                  have hE9 := (hW.eat.new HCd.out).keep HCq.out (by omega)
                  have hb9 := blk_keep (blk_keep hW.blk HCd.out (fun f => f)) HCq.out (by omega)
                  have ho9 := ownsRow_keep (ownsRow_keep hW.own HCd.out (fun _ _ f => f)) HCq.out hW.free
                  have hm9 := hW.moved
                  have hbb := hG.byt.append hbyt
                  have hln : (x.bs ++ ns).length ≤ sofar os (k + 1) := by rw [List.length_append]; omega
                  have hx := HX.out
                  subst hx
                  exact HP5.out.put j jx cA v9 _ hE9 hb9 ho9 hm9 hbb hln (by omega)
                clear HCq HBq HW HCd HP5 HG
                go_wp2
                go_roundw
                case rel => exact ⟨k + 1, _, by omega, by go_num, HPf⟩
                case measure => simp [intOf]; omega
        · by_cases k2 : kind = 2
          · subst k2
            have hn1 := HG.out.nle
            have hl1 := HG.out.len
            have HT5 : Hid (Tab w5) := HT.out.new HP5.out.chg
            obtain ⟨D, HD⟩ : ∃ D, Hid (Sha.sum x.s x.n x.bs = D) := ⟨_, rfl⟩
            have l_D : D.length = 32 := by rw [← HD.out]; exact Sha.told_len _
            go_wp2_with fail
            refine wp_region_free (mk := fun u => #[_, _, _, _, _, _, _, _, _, _, _, _, _, _, _, _, _, _, _, _, _, _, _, _, _, _, _, _, _, _, _, _, _, _, _, _, _, _, _, _, _, _, _, _, _, _, _, _, _, _, _, _, _, _, _, _, _, _, _, _, _, _, _, _, _, _, _, _, _, _, _, _, _, _, _, _, _, _, _, _, _, _, _, _, _, _, _, _, _, _, _, _, u 92, u 93, u 94, u 95, u 96, u 97, u 98, _, _, _, _, _, _, _, _, _, _, _, _, _, _, _, _, _, _, _, _, _, _, _, _, _, _, _, _, _, _, _, _, _, _, _, _, _, _, _, _, _, _, _, _, _, _, _, _, _, _, _, _, _, _, _, _, _]) (F := fun slot vv ww => (look [(92, .val (.pointer (some ⟨(B + 1), 0, none⟩))), (93, .val (.pointer (some ⟨x.a, 0, none⟩))), (94, .val (.agg (byts D).toArray)), (95, .val (.pointer (some ⟨(B + 1), 1, none⟩))), (96, .val (.pointer (some ⟨x.r, 0, none⟩))), (97, .val (.agg (byts D).toArray)), (98, .val (.bool false))] slot).holds vv ww) (fun t => if t = 92 then u92 else if t = 93 then u93 else if t = 94 then u94 else if t = 95 then u95 else if t = 96 then u96 else if t = 97 then u97 else if t = 98 then u98 else undef) rfl (by kernel_rfl) (by kernel_rfl) ?_ (fun _ v w w' hc h => Fact.stays _ v w w' hc h) ?_ ?_
            · repeat (refine ⟨⟨_, rfl, fun _ _ => rfl⟩, ?_⟩)
              exact trivial
            · refine ⟨?_, ?_, ?_, ?_, ?_, ?_, ?_, trivial⟩
              · intro u w hc hd K hK -- 92
                clear hd
                go_simp
                exact hK.out (.pointer (some ⟨(B + 1), 0, none⟩)) w (Chg.refl _ _) rfl
              · intro u w hc hd K hK -- 93
                have h92 : (Fact.val (.pointer (some ⟨(B + 1), 0, none⟩))).holds (u 92) w := hd.get 0 (by kernel_rfl)
                simp only [Fact.holds] at h92
                clear hd
                simp only [h92] at hK
                have hcell := cell_chg p0 hc
                go_simp
                exact hK.out _ _ (Chg.refl _ _) rfl
              · intro u w hc hd K hK -- 94
                have h93 : (Fact.val (.pointer (some ⟨x.a, 0, none⟩))).holds (u 93) w := hd.get 1 (by kernel_rfl)
                simp only [Fact.holds] at h93
                clear hd
                simp only [h93] at hK
                go_simp
                go_at_call 14
                refine (hsum_any x.a x.s x.n x.bs w (HT5.out.new hc) HG.out.st HG.out.n64 (HG.out.eat.new hc) (by omega)).mono ?_
                rintro e w9 ⟨rfl, cc_⟩
                rw [HD.out]
                exact hK.out _ _ cc_ rfl
              · intro u w hc hd K hK -- 95
                clear hd
                go_simp
                exact hK.out (.pointer (some ⟨(B + 1), 1, none⟩)) w (Chg.refl _ _) rfl
              · intro u w hc hd K hK -- 96
                have h95 : (Fact.val (.pointer (some ⟨(B + 1), 1, none⟩))).holds (u 95) w := hd.get 3 (by kernel_rfl)
                simp only [Fact.holds] at h95
                clear hd
                simp only [h95] at hK
                have hcell := cell_chg p1 hc
                go_simp
                exact hK.out _ _ (Chg.refl _ _) rfl
              · intro u w hc hd K hK -- 97
                have h96 : (Fact.val (.pointer (some ⟨x.r, 0, none⟩))).holds (u 96) w := hd.get 4 (by kernel_rfl)
                simp only [Fact.holds] at h96
                clear hd
                simp only [h96] at hK
                go_simp
                go_at_call 15
                refine (rhsum_any x.r x.s x.n x.v x.bs w HG.out.st HG.out.n64 (HG.out.rh.new hc) HG.out.byt (by omega) (by omega)).mono ?_
                rintro e w9 ⟨rfl, cc_⟩
                rw [HD.out]
                exact hK.out _ _ cc_ rfl
              · intro u w hc hd K hK -- 98
                have h94 : (Fact.val (.agg (byts D).toArray)).holds (u 94) w := hd.get 2 (by kernel_rfl)
                simp only [Fact.holds] at h94
                have h97 : (Fact.val (.agg (byts D).toArray)).holds (u 97) w := hd.get 5 (by kernel_rfl)
                simp only [Fact.holds] at h97
                clear hd
                simp only [h94, h97] at hK
                have hq := same32 w D l_D
                go_simp
                exact hK.out _ w (Chg.refl _ _) rfl
            · intro u w hc hA
              have e98 : u 98 = _ := hA.at 98 (by kernel_rfl)
              clear hA
              rw [e98]
              clear e98
              have HP6 : Hid (Play w0 w (sofar os (k + 1)) (.slice (some ⟨g, 0, none⟩) L lcap) xs) := (HP5.out.new hc).more (by omega)
              clear HP5 HG hc e0 e1 e2 e3 p0 p1 hb5 hp5
              go_wp2
              go_roundw
              case rel => exact ⟨k + 1, xs, by omega, by go_num, HP6⟩
              case measure => simp [intOf]; omega
          · by_cases k3 : kind = 3
            · subst k3
              have hn1 := HG.out.nle
              have hl1 := HG.out.len
              have HT5 : Hid (Tab w5) := HT.out.new HP5.out.chg
              go_wp2_with fail
              refine wp_region_free (mk := fun u => #[_, _, _, _, _, _, _, _, _, _, _, _, _, _, _, _, _, _, _, _, _, _, _, _, _, _, _, _, _, _, _, _, _, _, _, _, _, _, _, _, _, _, _, _, _, _, _, _, _, _, _, _, _, _, _, _, _, _, _, _, _, _, _, _, _, _, _, _, _, _, _, _, _, _, _, _, _, _, _, _, _, _, _, _, _, _, _, _, _, _, _, _, _, _, _, _, _, _, _, _, _, u 101, u 102, u 103, u 104, u 105, u 106, u 107, _, _, _, _, _, _, _, _, _, _, _, _, _, _, _, _, _, _, _, _, _, _, _, _, _, _, _, _, _, _, _, _, _, _, _, _, _, _, _, _, _, _, _, _, _, _, _, _]) (F := fun slot vv ww => (look [(101, .val (.pointer (some ⟨(B + 1), 0, none⟩))), (102, .val (.pointer (some ⟨x.a, 0, none⟩))), (103, .val (.int .i64 ((x.n + x.bs.length : Nat) : Int))), (104, .val (.pointer (some ⟨(B + 1), 1, none⟩))), (105, .val (.pointer (some ⟨x.r, 0, none⟩))), (106, .val (.int .i64 ((x.n + x.bs.length : Nat) : Int))), (107, .val (.bool false))] slot).holds vv ww) (fun t => if t = 101 then u101 else if t = 102 then u102 else if t = 103 then u103 else if t = 104 then u104 else if t = 105 then u105 else if t = 106 then u106 else if t = 107 then u107 else undef) rfl (by kernel_rfl) (by kernel_rfl) ?_ (fun _ v w w' hc h => Fact.stays _ v w w' hc h) ?_ ?_
              · repeat (refine ⟨⟨_, rfl, fun _ _ => rfl⟩, ?_⟩)
                exact trivial
              · refine ⟨?_, ?_, ?_, ?_, ?_, ?_, ?_, trivial⟩
                · intro u w hc hd K hK -- 101
                  clear hd
                  go_simp
                  exact hK.out (.pointer (some ⟨(B + 1), 0, none⟩)) w (Chg.refl _ _) rfl
                · intro u w hc hd K hK -- 102
                  have h101 : (Fact.val (.pointer (some ⟨(B + 1), 0, none⟩))).holds (u 101) w := hd.get 0 (by kernel_rfl)
                  simp only [Fact.holds] at h101
                  clear hd
                  simp only [h101] at hK
                  have hcell := cell_chg p0 hc
                  go_simp
                  exact hK.out _ _ (Chg.refl _ _) rfl
                · intro u w hc hd K hK -- 103
                  have h102 : (Fact.val (.pointer (some ⟨x.a, 0, none⟩))).holds (u 102) w := hd.get 1 (by kernel_rfl)
                  simp only [Fact.holds] at h102
                  clear hd
                  simp only [h102] at hK
                  go_simp
                  go_at_call 16
                  refine (len_any x.a x.s x.n x.bs w (HG.out.eat.new hc)).mono ?_
                  rintro e w9 ⟨rfl, rfl⟩
                  exact hK.out _ _ (Chg.refl _ _) rfl
                · intro u w hc hd K hK -- 104
                  clear hd
                  go_simp
                  exact hK.out (.pointer (some ⟨(B + 1), 1, none⟩)) w (Chg.refl _ _) rfl
                · intro u w hc hd K hK -- 105
                  have h104 : (Fact.val (.pointer (some ⟨(B + 1), 1, none⟩))).holds (u 104) w := hd.get 3 (by kernel_rfl)
                  simp only [Fact.holds] at h104
                  clear hd
                  simp only [h104] at hK
                  have hcell := cell_chg p1 hc
                  go_simp
                  exact hK.out _ _ (Chg.refl _ _) rfl
                · intro u w hc hd K hK -- 106
                  have h105 : (Fact.val (.pointer (some ⟨x.r, 0, none⟩))).holds (u 105) w := hd.get 4 (by kernel_rfl)
                  simp only [Fact.holds] at h105
                  clear hd
                  simp only [h105] at hK
                  go_simp
                  go_at_call 17
                  refine (rhlen_any x.r x.s x.n x.v x.bs w (HG.out.rh.new hc) (by omega)).mono ?_
                  rintro e w9 ⟨rfl, cc_⟩
                  exact hK.out _ _ cc_ rfl
                · intro u w hc hd K hK -- 107
                  have h103 : (Fact.val (.int .i64 ((x.n + x.bs.length : Nat) : Int))).holds (u 103) w := hd.get 2 (by kernel_rfl)
                  simp only [Fact.holds] at h103
                  have h106 : (Fact.val (.int .i64 ((x.n + x.bs.length : Nat) : Int))).holds (u 106) w := hd.get 5 (by kernel_rfl)
                  simp only [Fact.holds] at h106
                  clear hd
                  simp only [h103, h106] at hK
                  go_simp
                  exact hK.out (.bool false) w (Chg.refl _ _) rfl
              · intro u w hc hA
                have e107 : u 107 = _ := hA.at 107 (by kernel_rfl)
                clear hA
                rw [e107]
                clear e107
                have HP6 : Hid (Play w0 w (sofar os (k + 1)) (.slice (some ⟨g, 0, none⟩) L lcap) xs) := (HP5.out.new hc).more (by omega)
                clear HP5 HG hc e0 e1 e2 e3 p0 p1 hb5 hp5
                go_wp2
                go_roundw
                case rel => exact ⟨k + 1, xs, by omega, by go_num, HP6⟩
                case measure => simp [intOf]; omega
            · by_cases k4 : kind = 4
              · subst k4
                have hn1 := HG.out.nle
                have hl1 := HG.out.len
                have HT5 : Hid (Tab w5) := HT.out.new HP5.out.chg
                obtain ⟨jP, hjP, hjz, hj2, hj16⟩ := info_parts infoP2
                go_wp2_with fail
                refine (grows_fork x.a x.r x.s x.n x.v x.bs (.int .i64 hh) (.int .i64 nn) (.slice ad m cc) w5 HG.out.eat HG.out.rh (by omega)).mono ?_
                rintro e w6 ⟨a2, r2, v2, rfl, ha2, hr2, hE2, hb2, ho2, c6⟩
                have hlen2 : x.bs.length ≤ sofar os (k + 1) := by omega
                have hw05 := HP5.out.chg.size
                have HY : Hid (Good w6 w0.heap.size (sofar os (k + 1)) ⟨a2, r2, x.s, x.n, v2, x.bs⟩) := ⟨hE2, hb2, owns_base ho2 hw05, HG.out.byt, HG.out.st, HG.out.n64, HG.out.nle, hlen2, Nat.le_trans hw05 ha2, Nat.le_trans hw05 hr2⟩
                have HV : Hid (∀ z, v2.ownBlock = some z → w5.heap.size ≤ z) := fun z e => (ho2.lt z e).1
                have c7 := chg_one w6 (.cells #[.pointer (some ⟨a2, 0, none⟩), .pointer (some ⟨r2, 0, none⟩)] 39)
                have c8 := chg_one (w6.alloc (.cells #[.pointer (some ⟨a2, 0, none⟩), .pointer (some ⟨r2, 0, none⟩)] 39)) (.cells #[.pointer (some ⟨a2, 0, none⟩), .pointer (some ⟨r2, 0, none⟩)] 39)
                have C8 := chg_then c6 (chg_then c7 c8)
                have HP7 : Hid (Play w0 (w6.alloc (.cells #[.pointer (some ⟨a2, 0, none⟩), .pointer (some ⟨r2, 0, none⟩)] 39)) (sofar os (k + 1)) (.slice (some ⟨g, 0, none⟩) L lcap) xs) := (HP5.out.new (chg_then c6 c7)).more (by omega)
                have HP6 : Hid (Play w0 w5 (sofar os (k + 1)) (.slice (some ⟨g, 0, none⟩) L lcap) xs) := HP5.out.more (by omega)
                have hown : ((w6.alloc (.cells #[.pointer (some ⟨a2, 0, none⟩), .pointer (some ⟨r2, 0, none⟩)] 39)).alloc (.cells #[.pointer (some ⟨a2, 0, none⟩), .pointer (some ⟨r2, 0, none⟩)] 39)).ownsRow w0.heap.size 39 2 (.slice (some ⟨g, 0, none⟩) L lcap) L (xs.flatMap It.cells) := by
                  have := (HP7.out.new c8).row
                  rw [HL.out] at this
                  exact this
                have hsz := (HP7.out.new c8).chg.size
                have hsrc : From ((w6.alloc (.cells #[.pointer (some ⟨a2, 0, none⟩), .pointer (some ⟨r2, 0, none⟩)] 39)).alloc (.cells #[.pointer (some ⟨a2, 0, none⟩), .pointer (some ⟨r2, 0, none⟩)] 39)) (some ⟨w6.heap.size + 1, 0, none⟩) 1 1 2 [.pointer (some ⟨a2, 0, none⟩), .pointer (some ⟨r2, 0, none⟩)] := by
                  have h9 := from_p (w6.alloc (.cells #[.pointer (some ⟨a2, 0, none⟩), .pointer (some ⟨r2, 0, none⟩)] 39)) (.pointer (some ⟨a2, 0, none⟩)) (.pointer (some ⟨r2, 0, none⟩)) 39
                  rw [show (w6.alloc (.cells #[.pointer (some ⟨a2, 0, none⟩), .pointer (some ⟨r2, 0, none⟩)] 39)).heap.size = w6.heap.size + 1 by simp] at h9
                  exact h9
                have HY8 : Hid (Good ((w6.alloc (.cells #[.pointer (some ⟨a2, 0, none⟩), .pointer (some ⟨r2, 0, none⟩)] 39)).alloc (.cells #[.pointer (some ⟨a2, 0, none⟩), .pointer (some ⟨r2, 0, none⟩)] 39)) w0.heap.size (sofar os (k + 1)) ⟨a2, r2, x.s, x.n, v2, x.bs⟩) := HY.out.new (chg_then c7 c8)
                have HC8 : Hid (Chg (fun _ => False) w5 ((w6.alloc (.cells #[.pointer (some ⟨a2, 0, none⟩), .pointer (some ⟨r2, 0, none⟩)] 39)).alloc (.cells #[.pointer (some ⟨a2, 0, none⟩), .pointer (some ⟨r2, 0, none⟩)] 39))) := C8
                clear c7 c8 C8 c6 hE2 hb2 ho2 HY HP5 HG e0 e1 e2 e3 p0 p1 hb5 hp5 HRow
                by_cases h6 : L < 6
                · go_wp2_with (at_builtin; refine wpList_append_moved rfl _ _ 40 rfl w0.heap.size 39 jP (.agg #[.pointer none, .pointer none]) 2 16 Tryd.underlying40 hjP hjz hj2 hj16 rfl (by decide) _ L (xs.flatMap It.cells) rfl (some ⟨w6.heap.size + 1, 0, none⟩) 1 1 rfl [.pointer (some ⟨a2, 0, none⟩), .pointer (some ⟨r2, 0, none⟩)] hown hsrc (fun u hu => by simp at hu; rcases hu with rfl | rfl <;> rfl) (by unfold maxLen; omega) (by omega) hsz ?_)
                  intro v9 w9 ho9 hg9 _
                  have HP9 : Hid (Play w0 w9 (sofar os (k + 1)) v9 (xs ++ [⟨a2, r2, x.s, x.n, v2, x.bs⟩])) := HP6.out.push (x := ⟨a2, r2, x.s, x.n, v2, x.bs⟩) HC8.out HY8.out ha2 hr2 HV.out (by rw [HL.out]; exact ho9) hg9 (by rw [HL.out]; exact h6)
                  clear ho9 hg9 HC8 HY8 HP6 HP7 hown hsrc
                  go_wp2
                  go_roundw
                  case rel => exact ⟨k + 1, _, by omega, by go_num, HP9⟩
                  case measure => simp [intOf]; omega
                · clear hown hsrc
                  go_wp2
                  go_roundw
                  case rel => exact ⟨k + 1, xs, by omega, by go_num, HP7⟩
                  case measure => simp [intOf]; omega
              · by_cases k5 : kind = 5
                · subst k5
                  have hn1 := HG.out.nle
                  have hl1 := HG.out.len
                  have HT5 : Hid (Tab w5) := HT.out.new HP5.out.chg
                  obtain ⟨jP, hjP, hjz, hj2, hj16⟩ := info_parts infoP2
                  go_wp2_with fail
                  refine (grown_new _ _ (.int .i64 hh) (.int .i64 nn) (.slice ad m cc) w5 HT5.out).mono ?_
                  rintro e w6 ⟨a2, r2, v2, rfl, ha2, hr2, hE2, hb2, ho2, c6⟩
                  have hw05 := HP5.out.chg.size
                  have HY : Hid (Good w6 w0.heap.size (sofar os (k + 1)) ⟨a2, r2, Sha.I, 0, v2, []⟩) := ⟨hE2, hb2, owns_base ho2 hw05, Byt.nil, Sha.I_st, rfl, Nat.zero_le _, Nat.zero_le _, Nat.le_trans hw05 ha2, Nat.le_trans hw05 hr2⟩
                  have HV : Hid (∀ z, v2.ownBlock = some z → w5.heap.size ≤ z) := fun z e => (ho2.lt z e).1
                  have c7 := chg_one w6 (.cells #[.pointer (some ⟨a2, 0, none⟩), .pointer (some ⟨r2, 0, none⟩)] 39)
                  have c8 := chg_one (w6.alloc (.cells #[.pointer (some ⟨a2, 0, none⟩), .pointer (some ⟨r2, 0, none⟩)] 39)) (.cells #[.pointer (some ⟨a2, 0, none⟩), .pointer (some ⟨r2, 0, none⟩)] 39)
                  have C8 := chg_then c6 (chg_then c7 c8)
                  have HP7 : Hid (Play w0 (w6.alloc (.cells #[.pointer (some ⟨a2, 0, none⟩), .pointer (some ⟨r2, 0, none⟩)] 39)) (sofar os (k + 1)) (.slice (some ⟨g, 0, none⟩) L lcap) xs) := (HP5.out.new (chg_then c6 c7)).more (by omega)
                  have HP6 : Hid (Play w0 w5 (sofar os (k + 1)) (.slice (some ⟨g, 0, none⟩) L lcap) xs) := HP5.out.more (by omega)
                  have hown : ((w6.alloc (.cells #[.pointer (some ⟨a2, 0, none⟩), .pointer (some ⟨r2, 0, none⟩)] 39)).alloc (.cells #[.pointer (some ⟨a2, 0, none⟩), .pointer (some ⟨r2, 0, none⟩)] 39)).ownsRow w0.heap.size 39 2 (.slice (some ⟨g, 0, none⟩) L lcap) L (xs.flatMap It.cells) := by
                    have := (HP7.out.new c8).row
                    rw [HL.out] at this
                    exact this
                  have hsz := (HP7.out.new c8).chg.size
                  have hsrc : From ((w6.alloc (.cells #[.pointer (some ⟨a2, 0, none⟩), .pointer (some ⟨r2, 0, none⟩)] 39)).alloc (.cells #[.pointer (some ⟨a2, 0, none⟩), .pointer (some ⟨r2, 0, none⟩)] 39)) (some ⟨w6.heap.size + 1, 0, none⟩) 1 1 2 [.pointer (some ⟨a2, 0, none⟩), .pointer (some ⟨r2, 0, none⟩)] := by
                    have h9 := from_p (w6.alloc (.cells #[.pointer (some ⟨a2, 0, none⟩), .pointer (some ⟨r2, 0, none⟩)] 39)) (.pointer (some ⟨a2, 0, none⟩)) (.pointer (some ⟨r2, 0, none⟩)) 39
                    rw [show (w6.alloc (.cells #[.pointer (some ⟨a2, 0, none⟩), .pointer (some ⟨r2, 0, none⟩)] 39)).heap.size = w6.heap.size + 1 by simp] at h9
                    exact h9
                  have HY8 : Hid (Good ((w6.alloc (.cells #[.pointer (some ⟨a2, 0, none⟩), .pointer (some ⟨r2, 0, none⟩)] 39)).alloc (.cells #[.pointer (some ⟨a2, 0, none⟩), .pointer (some ⟨r2, 0, none⟩)] 39)) w0.heap.size (sofar os (k + 1)) ⟨a2, r2, Sha.I, 0, v2, []⟩) := HY.out.new (chg_then c7 c8)
                  have HC8 : Hid (Chg (fun _ => False) w5 ((w6.alloc (.cells #[.pointer (some ⟨a2, 0, none⟩), .pointer (some ⟨r2, 0, none⟩)] 39)).alloc (.cells #[.pointer (some ⟨a2, 0, none⟩), .pointer (some ⟨r2, 0, none⟩)] 39))) := C8
                  clear c7 c8 C8 c6 hE2 hb2 ho2 HY HP5 HG e0 e1 e2 e3 p0 p1 hb5 hp5 HRow
                  by_cases h6 : L < 6
                  · go_wp2_with (at_builtin; refine wpList_append_moved rfl _ _ 40 rfl w0.heap.size 39 jP (.agg #[.pointer none, .pointer none]) 2 16 Tryd.underlying40 hjP hjz hj2 hj16 rfl (by decide) _ L (xs.flatMap It.cells) rfl (some ⟨w6.heap.size + 1, 0, none⟩) 1 1 rfl [.pointer (some ⟨a2, 0, none⟩), .pointer (some ⟨r2, 0, none⟩)] hown hsrc (fun u hu => by simp at hu; rcases hu with rfl | rfl <;> rfl) (by unfold maxLen; omega) (by omega) hsz ?_)
                    intro v9 w9 ho9 hg9 _
                    have HP9 : Hid (Play w0 w9 (sofar os (k + 1)) v9 (xs ++ [⟨a2, r2, Sha.I, 0, v2, []⟩])) := HP6.out.push (x := ⟨a2, r2, Sha.I, 0, v2, []⟩) HC8.out HY8.out ha2 hr2 HV.out (by rw [HL.out]; exact ho9) hg9 (by rw [HL.out]; exact h6)
                    clear ho9 hg9 HC8 HY8 HP6 HP7 hown hsrc
                    go_wp2
                    go_roundw
                    case rel => exact ⟨k + 1, _, by omega, by go_num, HP9⟩
                    case measure => simp [intOf]; omega
                  · clear hown hsrc
                    go_wp2
                    go_roundw
                    case rel => exact ⟨k + 1, xs, by omega, by go_num, HP7⟩
                    case measure => simp [intOf]; omega
                · by_cases k6 : kind = 6
                  · subst k6
                    have hn1 := HG.out.nle
                    have hl1 := HG.out.len
                    have HT5 : Hid (Tab w5) := HT.out.new HP5.out.chg
                    obtain ⟨jP, hjP, hjz, hj2, hj16⟩ := info_parts infoP2
                    have hmm : m ≤ 1048576 := by have := HB2.out; omega
                    go_wp2_with fail
                    refine (grows_resume _ _ (.int .i64 hh) nn ad m cc ns w5 HT5.out HRow.out hbyt (by omega) hnb.1 hnb.2).mono ?_
                    rintro e w6 (⟨s2, n2, hst2, hn642, hnle2, a2, r2, v2, rfl, ha2, hr2, hE2, hb2, ho2, c6⟩ | ⟨rfl, c6⟩)
                    · have hw05 := HP5.out.chg.size
                      have HY : Hid (Good w6 w0.heap.size (sofar os (k + 1)) ⟨a2, r2, s2, n2, v2, []⟩) := ⟨hE2, hb2, owns_base ho2 hw05, Byt.nil, hst2, hn642, hnle2, Nat.zero_le _, Nat.le_trans hw05 ha2, Nat.le_trans hw05 hr2⟩
                      have HV : Hid (∀ z, v2.ownBlock = some z → w5.heap.size ≤ z) := fun z e => (ho2.lt z e).1
                      have c7 := chg_one w6 (.cells #[.pointer (some ⟨a2, 0, none⟩), .pointer (some ⟨r2, 0, none⟩)] 39)
                      have c8 := chg_one (w6.alloc (.cells #[.pointer (some ⟨a2, 0, none⟩), .pointer (some ⟨r2, 0, none⟩)] 39)) (.cells #[.pointer (some ⟨a2, 0, none⟩), .pointer (some ⟨r2, 0, none⟩)] 39)
                      have C8 := chg_then c6 (chg_then c7 c8)
                      have HP7 : Hid (Play w0 (w6.alloc (.cells #[.pointer (some ⟨a2, 0, none⟩), .pointer (some ⟨r2, 0, none⟩)] 39)) (sofar os (k + 1)) (.slice (some ⟨g, 0, none⟩) L lcap) xs) := (HP5.out.new (chg_then c6 c7)).more (by omega)
                      have HP6 : Hid (Play w0 w5 (sofar os (k + 1)) (.slice (some ⟨g, 0, none⟩) L lcap) xs) := HP5.out.more (by omega)
                      have hown : ((w6.alloc (.cells #[.pointer (some ⟨a2, 0, none⟩), .pointer (some ⟨r2, 0, none⟩)] 39)).alloc (.cells #[.pointer (some ⟨a2, 0, none⟩), .pointer (some ⟨r2, 0, none⟩)] 39)).ownsRow w0.heap.size 39 2 (.slice (some ⟨g, 0, none⟩) L lcap) L (xs.flatMap It.cells) := by
                        have := (HP7.out.new c8).row
                        rw [HL.out] at this
                        exact this
                      have hsz := (HP7.out.new c8).chg.size
                      have hsrc : From ((w6.alloc (.cells #[.pointer (some ⟨a2, 0, none⟩), .pointer (some ⟨r2, 0, none⟩)] 39)).alloc (.cells #[.pointer (some ⟨a2, 0, none⟩), .pointer (some ⟨r2, 0, none⟩)] 39)) (some ⟨w6.heap.size + 1, 0, none⟩) 1 1 2 [.pointer (some ⟨a2, 0, none⟩), .pointer (some ⟨r2, 0, none⟩)] := by
                        have h9 := from_p (w6.alloc (.cells #[.pointer (some ⟨a2, 0, none⟩), .pointer (some ⟨r2, 0, none⟩)] 39)) (.pointer (some ⟨a2, 0, none⟩)) (.pointer (some ⟨r2, 0, none⟩)) 39
                        rw [show (w6.alloc (.cells #[.pointer (some ⟨a2, 0, none⟩), .pointer (some ⟨r2, 0, none⟩)] 39)).heap.size = w6.heap.size + 1 by simp] at h9
                        exact h9
                      have HY8 : Hid (Good ((w6.alloc (.cells #[.pointer (some ⟨a2, 0, none⟩), .pointer (some ⟨r2, 0, none⟩)] 39)).alloc (.cells #[.pointer (some ⟨a2, 0, none⟩), .pointer (some ⟨r2, 0, none⟩)] 39)) w0.heap.size (sofar os (k + 1)) ⟨a2, r2, s2, n2, v2, []⟩) := HY.out.new (chg_then c7 c8)
                      have HC8 : Hid (Chg (fun _ => False) w5 ((w6.alloc (.cells #[.pointer (some ⟨a2, 0, none⟩), .pointer (some ⟨r2, 0, none⟩)] 39)).alloc (.cells #[.pointer (some ⟨a2, 0, none⟩), .pointer (some ⟨r2, 0, none⟩)] 39))) := C8
                      clear c7 c8 C8 c6 hE2 hb2 ho2 HY HP5 HG e0 e1 e2 e3 p0 p1 hb5 hp5 HRow
                      by_cases h6 : L < 6
                      · go_wp2_with (at_builtin; refine wpList_append_moved rfl _ _ 40 rfl w0.heap.size 39 jP (.agg #[.pointer none, .pointer none]) 2 16 Tryd.underlying40 hjP hjz hj2 hj16 rfl (by decide) _ L (xs.flatMap It.cells) rfl (some ⟨w6.heap.size + 1, 0, none⟩) 1 1 rfl [.pointer (some ⟨a2, 0, none⟩), .pointer (some ⟨r2, 0, none⟩)] hown hsrc (fun u hu => by simp at hu; rcases hu with rfl | rfl <;> rfl) (by unfold maxLen; omega) (by omega) hsz ?_)
                        intro v9 w9 ho9 hg9 _
                        have HP9 : Hid (Play w0 w9 (sofar os (k + 1)) v9 (xs ++ [⟨a2, r2, s2, n2, v2, []⟩])) := HP6.out.push (x := ⟨a2, r2, s2, n2, v2, []⟩) HC8.out HY8.out ha2 hr2 HV.out (by rw [HL.out]; exact ho9) hg9 (by rw [HL.out]; exact h6)
                        clear ho9 hg9 HC8 HY8 HP6 HP7 hown hsrc
                        go_wp2
                        go_roundw
                        case rel => exact ⟨k + 1, _, by omega, by go_num, HP9⟩
                        case measure => simp [intOf]; omega
                      · clear hown hsrc
                        go_wp2
                        go_roundw
                        case rel => exact ⟨k + 1, xs, by omega, by go_num, HP7⟩
                        case measure => simp [intOf]; omega
                    · have HP7 : Hid (Play w0 (w6.alloc (.cells #[.pointer none, .pointer none] 39)) (sofar os (k + 1)) (.slice (some ⟨g, 0, none⟩) L lcap) xs) := ((HP5.out.new c6).new (chg_one w6 _)).more (by omega)
                      clear c6 HP5 HG e0 e1 e2 e3 p0 p1 hb5 hp5 HRow
                      go_wp2
                      go_roundw
                      case rel => exact ⟨k + 1, xs, by omega, by go_num, HP7⟩
                      case measure => simp [intOf]; omega
                  · go_wp2
                    go_roundw
                    case rel => exact ⟨k + 1, xs, by omega, by go_num, HP5.out.more (by omega)⟩
                    case measure => simp [intOf]; omega
    · obtain ⟨g, lcap, rfl, hlc, hcl⟩ := HP.out.at
      have HCl : Hid _ := hcl
      have hmost := HP.out.most
      have hsf := sofar_le os k HF.out
      obtain ⟨L, HL⟩ : ∃ L, Hid (xs.length = L) := ⟨_, rfl⟩
      rw [HL.out] at hlc hmost ⊢
      generalize wr = wz at *
      clear hcl
      go_wp2_with fail
      go_loopw [135] (fun i wq => ∃ j : Nat, j ≤ L ∧ i = .int .i64 j ∧ Hid (Chg (fun _ => False) wz wq)) (fun i _ => L - (intOf i).toNat)
      case atStart => exact ⟨0, by omega, rfl, Chg.refl _ _⟩
      case round =>
        obtain ⟨j, hj, rfl, HCq⟩ := hrel
        by_cases hlt2 : j < L
        · have jx : j < xs.length := by rw [HL.out]; exact hlt2
          obtain ⟨x, hx⟩ : ∃ x, xs[j] = x := ⟨_, rfl⟩
          have HX : Hid (xs[j] = x) := hx
          clear hx
          have q0 := cell_chg (HCl.out j jx).1 HCq.out
          have q1 := cell_chg (HCl.out j jx).2 HCq.out
          rw [HX.out] at q0 q1
          go_upto_region 41 with fail
          have c1 := chg_one wr (.cells #[.pointer (some ⟨x.a, 0, none⟩), .pointer (some ⟨x.r, 0, none⟩)] 39)
          have hp5 : (wr.alloc (.cells #[.pointer (some ⟨x.a, 0, none⟩), .pointer (some ⟨x.r, 0, none⟩)] 39)).heap[wr.heap.size]? = some (.cells #[.pointer (some ⟨x.a, 0, none⟩), .pointer (some ⟨x.r, 0, none⟩)] 39 (0, 0)) := heap_alloc_last _ _
          have C1 := chg_then HCq.out c1
          have HG : Hid (Good (wr.alloc (.cells #[.pointer (some ⟨x.a, 0, none⟩), .pointer (some ⟨x.r, 0, none⟩)] 39)) w0.heap.size (sofar os k) x) := by
            have := (HP.out.good j jx).new C1
            rw [HX.out] at this
            exact this
          have HT5 : Hid (Tab (wr.alloc (.cells #[.pointer (some ⟨x.a, 0, none⟩), .pointer (some ⟨x.r, 0, none⟩)] 39))) := HT.out.new (chg_then HP.out.chg C1)
          have HC1 : Hid (Chg (fun _ => False) wz (wr.alloc (.cells #[.pointer (some ⟨x.a, 0, none⟩), .pointer (some ⟨x.r, 0, none⟩)] 39))) := C1
          clear c1 C1 HCq q0 q1
          generalize wr.alloc (.cells #[.pointer (some ⟨x.a, 0, none⟩), .pointer (some ⟨x.r, 0, none⟩)] 39) = w5 at *
          generalize wr.heap.size = B at *
          have p0 : w5.cell? ⟨B, 0, none⟩ = some (.pointer (some ⟨x.a, 0, none⟩)) := cell0 hp5
          have p1 : w5.cell? ⟨B, 1, none⟩ = some (.pointer (some ⟨x.r, 0, none⟩)) := cell1 hp5
          have hn1 := HG.out.nle
          have hl1 := HG.out.len
          obtain ⟨D, HD⟩ : ∃ D, Hid (Sha.sum x.s x.n x.bs = D) := ⟨_, rfl⟩
          have l_D : D.length = 32 := by rw [← HD.out]; exact Sha.told_len _
          refine wp_region_free (mk := fun u => #[_, _, _, _, _, _, _, _, _, _, _, _, _, _, _, _, _, _, _, _, _, _, _, _, _, _, _, _, _, _, _, _, _, _, _, _, _, _, _, _, _, _, _, _, _, _, _, _, _, _, _, _, _, _, _, _, _, _, _, _, _, _, _, _, _, _, _, _, _, _, _, _, _, _, _, _, _, _, _, _, _, _, _, _, _, _, _, _, _, _, _, _, _, _, _, _, _, _, _, _, _, _, _, _, _, _, _, _, _, _, _, _, _, _, _, _, _, _, _, _, _, _, _, _, _, _, _, _, _, _, _, _, _, _, _, _, _, _, _, u 139, u 140, u 141, u 142, u 143, u 144, u 145, u 146, u 147, u 148, u 149, u 150, u 151, u 152, u 153, u 154, _]) (F := fun slot vv ww => (look [(139, .val (.pointer (some ⟨B, 0, none⟩))), (140, .val (.pointer (some ⟨x.a, 0, none⟩))), (141, .val (.agg (byts D).toArray)), (142, .val (.pointer (some ⟨B, 1, none⟩))), (143, .val (.pointer (some ⟨x.r, 0, none⟩))), (144, .val (.agg (byts D).toArray)), (145, .val (.bool false)), (146, .val (.bool false)), (147, .val (.pointer (some ⟨B, 0, none⟩))), (148, .val (.pointer (some ⟨x.a, 0, none⟩))), (149, .val (.int .i64 ((x.n + x.bs.length : Nat) : Int))), (150, .val (.pointer (some ⟨B, 1, none⟩))), (151, .val (.pointer (some ⟨x.r, 0, none⟩))), (152, .val (.int .i64 ((x.n + x.bs.length : Nat) : Int))), (153, .val (.bool false)), (154, .val (.bool false))] slot).holds vv ww) (fun t => if t = 139 then u139 else if t = 140 then u140 else if t = 141 then u141 else if t = 142 then u142 else if t = 143 then u143 else if t = 144 then u144 else if t = 145 then u145 else if t = 146 then u146 else if t = 147 then u147 else if t = 148 then u148 else if t = 149 then u149 else if t = 150 then u150 else if t = 151 then u151 else if t = 152 then u152 else if t = 153 then u153 else if t = 154 then u154 else undef) rfl (by kernel_rfl) (by kernel_rfl) ?_ (fun _ v w w' hc h => Fact.stays _ v w w' hc h) ?_ ?_
          · repeat (refine ⟨⟨_, rfl, fun _ _ => rfl⟩, ?_⟩)
            exact trivial
          · refine ⟨?_, ?_, ?_, ?_, ?_, ?_, ?_, ?_, ?_, ?_, ?_, ?_, ?_, ?_, ?_, ?_, trivial⟩
            · intro u w hc hd K hK -- 139
              clear hd
              go_simp
              exact hK.out (.pointer (some ⟨B, 0, none⟩)) w (Chg.refl _ _) rfl
            · intro u w hc hd K hK -- 140
              have h139 : (Fact.val (.pointer (some ⟨B, 0, none⟩))).holds (u 139) w := hd.get 0 (by kernel_rfl)
              simp only [Fact.holds] at h139
              clear hd
              simp only [h139] at hK
              have hcell := cell_chg p0 hc
              go_simp
              exact hK.out _ _ (Chg.refl _ _) rfl
            · intro u w hc hd K hK -- 141
              have h140 : (Fact.val (.pointer (some ⟨x.a, 0, none⟩))).holds (u 140) w := hd.get 1 (by kernel_rfl)
              simp only [Fact.holds] at h140
              clear hd
              simp only [h140] at hK
              go_simp
              go_at_call 14
              refine (hsum_any x.a x.s x.n x.bs w (HT5.out.new hc) HG.out.st HG.out.n64 (HG.out.eat.new hc) (by omega)).mono ?_
              rintro e w9 ⟨rfl, cc_⟩
              rw [HD.out]
              exact hK.out _ _ cc_ rfl
            · intro u w hc hd K hK -- 142
              clear hd
              go_simp
              exact hK.out (.pointer (some ⟨B, 1, none⟩)) w (Chg.refl _ _) rfl
            · intro u w hc hd K hK -- 143
              have h142 : (Fact.val (.pointer (some ⟨B, 1, none⟩))).holds (u 142) w := hd.get 3 (by kernel_rfl)
              simp only [Fact.holds] at h142
              clear hd
              simp only [h142] at hK
              have hcell := cell_chg p1 hc
              go_simp
              exact hK.out _ _ (Chg.refl _ _) rfl
            · intro u w hc hd K hK -- 144
              have h143 : (Fact.val (.pointer (some ⟨x.r, 0, none⟩))).holds (u 143) w := hd.get 4 (by kernel_rfl)
              simp only [Fact.holds] at h143
              clear hd
              simp only [h143] at hK
              go_simp
              go_at_call 15
              refine (rhsum_any x.r x.s x.n x.v x.bs w HG.out.st HG.out.n64 (HG.out.rh.new hc) HG.out.byt (by omega) (by omega)).mono ?_
              rintro e w9 ⟨rfl, cc_⟩
              rw [HD.out]
              exact hK.out _ _ cc_ rfl
            · intro u w hc hd K hK -- 145
              have h141 : (Fact.val (.agg (byts D).toArray)).holds (u 141) w := hd.get 2 (by kernel_rfl)
              simp only [Fact.holds] at h141
              have h144 : (Fact.val (.agg (byts D).toArray)).holds (u 144) w := hd.get 5 (by kernel_rfl)
              simp only [Fact.holds] at h144
              clear hd
              simp only [h141, h144] at hK
              have hq := same32 w D l_D
              go_simp
              exact hK.out _ w (Chg.refl _ _) rfl
            · intro u w hc hd K hK -- 146
              have h145 : (Fact.val (.bool false)).holds (u 145) w := hd.get 6 (by kernel_rfl)
              simp only [Fact.holds] at h145
              clear hd
              simp only [h145] at hK
              go_simp
              exact hK.out (.bool false) w (Chg.refl _ _) rfl
            · intro u w hc hd K hK -- 147
              have h146 : (Fact.val (.bool false)).holds (u 146) w := hd.get 7 (by kernel_rfl)
              simp only [Fact.holds] at h146
              clear hd
              simp only [h146] at hK
              go_simp
              exact hK.out (.pointer (some ⟨B, 0, none⟩)) w (Chg.refl _ _) rfl
            · intro u w hc hd K hK -- 148
              have h147 : (Fact.val (.pointer (some ⟨B, 0, none⟩))).holds (u 147) w := hd.get 8 (by kernel_rfl)
              simp only [Fact.holds] at h147
              have h146 : (Fact.val (.bool false)).holds (u 146) w := hd.get 7 (by kernel_rfl)
              simp only [Fact.holds] at h146
              clear hd
              simp only [h146, h147] at hK
              have hcell := cell_chg p0 hc
              go_simp
              exact hK.out _ _ (Chg.refl _ _) rfl
            · intro u w hc hd K hK -- 149
              have h148 : (Fact.val (.pointer (some ⟨x.a, 0, none⟩))).holds (u 148) w := hd.get 9 (by kernel_rfl)
              simp only [Fact.holds] at h148
              have h146 : (Fact.val (.bool false)).holds (u 146) w := hd.get 7 (by kernel_rfl)
              simp only [Fact.holds] at h146
              clear hd
              simp only [h146, h148] at hK
              go_simp
              go_at_call 16
              refine (len_any x.a x.s x.n x.bs w (HG.out.eat.new hc)).mono ?_
              rintro e w9 ⟨rfl, rfl⟩
              exact hK.out _ _ (Chg.refl _ _) rfl
            · intro u w hc hd K hK -- 150
              have h146 : (Fact.val (.bool false)).holds (u 146) w := hd.get 7 (by kernel_rfl)
              simp only [Fact.holds] at h146
              clear hd
              simp only [h146] at hK
              go_simp
              exact hK.out (.pointer (some ⟨B, 1, none⟩)) w (Chg.refl _ _) rfl
            · intro u w hc hd K hK -- 151
              have h150 : (Fact.val (.pointer (some ⟨B, 1, none⟩))).holds (u 150) w := hd.get 11 (by kernel_rfl)
              simp only [Fact.holds] at h150
              have h146 : (Fact.val (.bool false)).holds (u 146) w := hd.get 7 (by kernel_rfl)
              simp only [Fact.holds] at h146
              clear hd
              simp only [h146, h150] at hK
              have hcell := cell_chg p1 hc
              go_simp
              exact hK.out _ _ (Chg.refl _ _) rfl
            · intro u w hc hd K hK -- 152
              have h151 : (Fact.val (.pointer (some ⟨x.r, 0, none⟩))).holds (u 151) w := hd.get 12 (by kernel_rfl)
              simp only [Fact.holds] at h151
              have h146 : (Fact.val (.bool false)).holds (u 146) w := hd.get 7 (by kernel_rfl)
              simp only [Fact.holds] at h146
              clear hd
              simp only [h146, h151] at hK
              go_simp
              go_at_call 17
              refine (rhlen_any x.r x.s x.n x.v x.bs w (HG.out.rh.new hc) (by omega)).mono ?_
              rintro e w9 ⟨rfl, cc_⟩
              exact hK.out _ _ cc_ rfl
            · intro u w hc hd K hK -- 153
              have h149 : (Fact.val (.int .i64 ((x.n + x.bs.length : Nat) : Int))).holds (u 149) w := hd.get 10 (by kernel_rfl)
              simp only [Fact.holds] at h149
              have h152 : (Fact.val (.int .i64 ((x.n + x.bs.length : Nat) : Int))).holds (u 152) w := hd.get 13 (by kernel_rfl)
              simp only [Fact.holds] at h152
              have h146 : (Fact.val (.bool false)).holds (u 146) w := hd.get 7 (by kernel_rfl)
              simp only [Fact.holds] at h146
              clear hd
              simp only [h146, h149, h152] at hK
              go_simp
              exact hK.out (.bool false) w (Chg.refl _ _) rfl
            · intro u w hc hd K hK -- 154
              have h146 : (Fact.val (.bool false)).holds (u 146) w := hd.get 7 (by kernel_rfl)
              simp only [Fact.holds] at h146
              have h153 : (Fact.val (.bool false)).holds (u 153) w := hd.get 14 (by kernel_rfl)
              simp only [Fact.holds] at h153
              clear hd
              simp only [h146, h153] at hK
              go_simp
              exact hK.out (.bool false) w (Chg.refl _ _) rfl
          · intro u w hc hA
            have e154 : u 154 = _ := hA.at 154 (by kernel_rfl)
            clear hA
            rw [e154]
            clear e154
            have HC6 : Hid (Chg (fun _ => False) wz w) := chg_then HC1.out hc
            clear HC1 HG hc p0 p1 hp5 HT5
            go_wp2
            go_roundw
            case rel => exact ⟨j + 1, by omega, by go_num, HC6⟩
            case measure => simp [intOf]; omega
        · have HC9 : Hid (Chg (fun _ => False) w0 wr) := chg_then HP.out.chg HCq.out
          clear HCq
          go_wp2
          go_ret
          exact ⟨rfl, HC9.out⟩
end Go.Proofs.YtnedllhlmddmoabDoor
