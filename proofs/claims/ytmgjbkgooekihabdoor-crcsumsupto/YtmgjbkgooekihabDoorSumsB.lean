/- The walk through CrcSums; of no statement by itself. -/
import Derived.Test.YtmgjbkgooekihabDoorSumsA
import Derived.Test.YtmgjbkgooekihabDoorFacts
namespace Go.Proofs.YtmgjbkgooekihabDoor
open Go.RowKit

theorem infoB : (Tryd.prog.info? 36).map (fun i => (i.zero, i.size, i.bytes)) = some (some (.slice none 0 0), 1, 24) := by kernel_rfl

theorem from_one (w : World) (v : Value) (t : TypeId) : From (w.alloc (.cells #[v] t)) (some ⟨w.heap.size, 0, none⟩) 1 1 1 [v] := by
  refine ⟨rfl, .inr ⟨_, rfl, fun j u hu => ?_⟩⟩
  match j, hu with
  | 0, hu => simp at hu; subst hu; simp [Addr.add]

theorem own_sl {w : World} {B : Nat} {e : TypeId} {v : Value} {n : Nat} {xs : List Value} (h : w.ownsRow B e 1 v n xs) : ∃ ad c, v = .slice ad n c ∧ n ≤ c := by
  rcases h.2 with ⟨rfl, rfl⟩ | ⟨g, cap, cur, rfl, _, _, hnc, _⟩
  · exact ⟨none, 0, rfl, Nat.le_refl _⟩
  · exact ⟨_, cap, rfl, hnc⟩

theorem own_some {w : World} {B : Nat} {e : TypeId} {v : Value} {n : Nat} {xs : List Value} (h : w.ownsRow B e 1 v n xs) (hn : 0 < n) : ∃ g c, v = .slice (some ⟨g, 0, none⟩) n c ∧ n ≤ c ∧ B ≤ g := by
  rcases h.2 with ⟨rfl, rfl⟩ | ⟨g, cap, cur, rfl, hB, _, hnc, _⟩
  · omega
  · exact ⟨g, cap, rfl, hnc, hB⟩

/-- A row of slices and a row of bytes lie in blocks of their own. -/
theorem two_kinds {w : World} {B : Nat} {v : Value} {n : Nat} {xs : List Value} (h : w.ownsRow B 36 1 v n xs) {g : Nat} {cur : Array Value} (hb : w.heap[g]? = some (.cells cur 5 (0, 0))) : v.ownBlock ≠ some g := by
  intro e
  obtain ⟨c, hc⟩ := ownsRow_blk h e
  rw [hb] at hc
  simp at hc

theorem kinds_two {w : World} {B B' : Nat} {v v' : Value} {n n' : Nat} {xs xs' : List Value} (h : w.ownsRow B 36 1 v n xs) (h' : w.ownsRow B' 5 1 v' n' xs') {g : Nat} (e : v.ownBlock = some g) : v'.ownBlock ≠ some g := by
  intro e'
  obtain ⟨c, hc⟩ := ownsRow_blk h' e'
  exact two_kinds h hc e

/-- What the first loop keeps. -/
structure Keeps (B : Nat) (w0 w : World) (nss : List (List Nat)) (k : Nat) (lv wv : Value) (rs : List Value) : Prop where
  len : rs.length = k
  l : w.ownsRow B 36 1 lv k rs
  whole : w.ownsRow B 5 1 wv (nss.take k).flatten.length (cells8 (up (nss.take k).flatten))
  rooms : Rooms w wv rs nss
  chg : Chg (fun _ => False) w0 w

theorem Keeps.start (w0 : World) (nss : List (List Nat)) : Keeps w0.heap.size w0 w0 nss 0 (.slice none 0 0) (.slice none 0 0) [] :=
  ⟨rfl, World.ownsRow_nil _ _ _ _, World.ownsRow_nil _ _ _ _, fun i h => by simp at h, Chg.refl _ _⟩

theorem Keeps.new {B : Nat} {w0 w w' : World} {nss : List (List Nat)} {k : Nat} {lv wv : Value} {rs : List Value} (h : Keeps B w0 w nss k lv wv rs) (hc : Chg (fun _ => False) w w') : Keeps B w0 w' nss k lv wv rs :=
  ⟨h.len, ownsRow_keep h.l hc (fun _ _ f => f), ownsRow_keep h.whole hc (fun _ _ f => f), h.rooms.new hc, chg_then h.chg hc⟩

/-- A room behind the list. -/
theorem Keeps.more {w0 w w' : World} {nss : List (List Nat)} {k : Nat} {lv lv' wv v : Value} {rs : List Value} (h : Keeps w0.heap.size w0 w nss k lv wv rs) (hk : k < nss.length) {g cap : Nat} {cur : Array Value} (e : v = .slice (some ⟨g, 0, none⟩) nss[k].length cap) (hr : Roomy w g nss[k].length cap nss[k]) (hb : w.heap[g]? = some (.cells cur 5 (0, 0))) (hne : wv.ownBlock ≠ some g)
    (ho : w'.ownsRow w0.heap.size 36 1 lv' (k + 1) (rs ++ [v])) (hg : w.grownBy w' lv.ownBlock) :
    w'.ownsRow w0.heap.size 5 1 wv (nss.take k).flatten.length (cells8 (up (nss.take k).flatten)) ∧ Rooms w' wv (rs ++ [v]) nss ∧ Chg (fun _ => False) w0 w' := by
  have hl := h.len
  subst hl
  have hc : Chg (fun j => lv.ownBlock = some j) w w' := (Chg.refl _ w).grown hg (fun j e => .inl e)
  refine ⟨ownsRow_keep h.whole hc (fun j e1 e2 => kinds_two h.l h.whole e2 e1), (h.rooms.snoc hk e hr hb hne).keep hc (fun g' c' hb' _ e' => two_kinds h.l hb' e') (fun _ _ e => e), h.chg.grown hg (fun j e => .inr ((h.l.lt j e).1))⟩

/-- A piece's bytes behind all bytes. -/
theorem whole_more {w0 w w' : World} {nss : List (List Nat)} {k : Nat} {lv wv wv' : Value} {rs : List Value} (hk : k < nss.length) (hlen : rs.length = k + 1) (hl : w.ownsRow w0.heap.size 36 1 lv (k + 1) rs) (hw : w.ownsRow w0.heap.size 5 1 wv (nss.take k).flatten.length (cells8 (up (nss.take k).flatten))) (hr : Rooms w wv rs nss) (hc0 : Chg (fun _ => False) w0 w)
    (ho : w'.ownsRow w0.heap.size 5 1 wv' ((nss.take k).flatten.length + nss[k].length) (cells8 (up (nss.take k).flatten) ++ cells8 (up nss[k]))) (hg : w.grownBy w' wv.ownBlock) (hm : Moved w wv wv') : Keeps w0.heap.size w0 w' nss (k + 1) lv wv' rs := by
  have hc : Chg (fun j => wv.ownBlock = some j) w w' := (Chg.refl _ w).grown hg (fun j e => .inl e)
  refine ⟨hlen, ownsRow_keep hl hc (fun j e1 e2 => kinds_two hl hw e1 e2), ?_, hr.keep hc (fun g' c' hb' hne e' => hne e') (fun g' hlt hne e' => ?_), hc0.grown hg (fun j e => .inr ((hw.lt j e).1))⟩
  · rw [flat_take nss k hk, List.length_append, up_append, ← cells8_append]
    exact ho
  · rcases hm g' e' with e | e
    · exact hne e
    · omega

/-- The text 'behind'. -/
def behind : List Nat := [98, 101, 104, 105, 110, 100]
theorem behind_str : strOfNums (up behind) = ⟨#[98, 101, 104, 105, 110, 100]⟩ := by rfl

theorem flat_len {nss : List (List Nat)} {k : Nat} (hk : k < nss.length) (h : nss.flatten.length ≤ 1048576) : (nss.take k).flatten.length + nss[k].length ≤ 1048576 := by
  have e := flat_take nss k hk
  have e2 : nss.flatten = (nss.take (k + 1)).flatten ++ (nss.drop (k + 1)).flatten := by rw [← List.flatten_append, List.take_append_drop]
  have := congrArg List.length e
  have h2 := congrArg List.length e2
  simp only [List.length_append] at this h2
  omega

set_option maxHeartbeats 40000000 in
set_option maxRecDepth 100000 in
theorem sums_walk (a : Option Addr) (N c : Nat) (vs : List Value) (nss : List (List Nat)) (s t : Nat) (w0 : World) (T0 : Tab w0) (hA : Arg w0 a N vs nss) (hN : N ≤ 1048576) (hF : nss.flatten.length ≤ 1048576) (hs : s < 4294967296) (ht : t < 18446744073709551616) :
    Calls Tryd.prog 4 #[.slice a N c, .int .u32 s, .int .u64 t] w0 fun e w' => e = .returned (.bool true) ∧ Chg (fun _ => False) w0 w' := by
  obtain ⟨i0, hi, hz0, hz1, hz2⟩ := info_parts info5
  obtain ⟨j0, hj, hy0, hy1, hy2⟩ := info_parts infoB
  have HA : Hid (Arg w0 a N vs nss) := hA
  have HT : Hid (Tab w0) := T0
  have HFl : Hid (nss.flatten.length ≤ 1048576) := hF
  have HB : Hid (∀ ns ∈ nss, Byt ns ∧ ns.length ≤ 1048576) := fun ns hm => by
    obtain ⟨k, hk, rfl⟩ := List.mem_iff_getElem.1 hm
    obtain ⟨_, _, _, _, hb⟩ := hA.row k (by rw [hA.lv, ← hA.ln]; exact hk) hk
    have := flat_len hk hF
    exact ⟨hb, by omega⟩
  clear hA T0 hF
  go_enter Tryd.func4, Tryd.ntmps4
  go_wp2_with fail
  go_loopw [7, 8, 9] (fun lv wv i wr => ∃ (k : Nat) (rs : List Value), k ≤ N ∧ i = .int .i64 k ∧ Hid (Keeps w0.heap.size w0 wr nss k lv wv rs)) (fun _ _ i _ => N - (intOf i).toNat)
  case atStart => exact ⟨0, [], by omega, rfl, Keeps.start w0 nss⟩
  case round =>
    obtain ⟨k, rs, hk, rfl, HK⟩ := hrel
    by_cases hlt : k < N
    · have kv : k < vs.length := by rw [HA.out.lv]; exact hlt
      have kn : k < nss.length := by rw [HA.out.ln]; exact hlt
      have A1 := HA.out.keep HK.out.chg
      obtain ⟨x, rfl, hcell⟩ := A1.at_ k kv
      obtain ⟨aa, cc, hv, hrow, hbyt⟩ := A1.row k kv kn
      rw [hv] at hcell
      have hfl := flat_len kn HFl.out
      have hml : nss[k].length ≤ 1048576 := by omega
      obtain ⟨la, lc, rfl, -⟩ := own_sl HK.out.l
      obtain ⟨wa, wc, rfl, -⟩ := own_sl HK.out.whole
      have HR : Hid (Row8 wr aa nss[k].length cc (up nss[k])) := hrow
      clear hrow hbyt hv A1
      obtain ⟨m, hm⟩ : ∃ m, nss[k].length = m := ⟨_, rfl⟩
      obtain ⟨n, hnn⟩ : ∃ n, (nss.take k).flatten.length = n := ⟨_, rfl⟩
      have HM : Hid (nss[k].length = m) := hm
      have HNN : Hid ((nss.take k).flatten.length = n) := hnn
      rw [hm] at hcell hml hfl HR
      rw [hnn] at hfl
      rw [hnn] at HK ⊢
      clear hm hnn
      go_wp2_with fail
      refine (room_blk aa m cc nss[k] wr HR.out (by omega)).mono ?_
      rintro e w1 ⟨g, cap, cur, rfl, hroom, hblk, hgs, hc1⟩
      have K1 := HK.out.new hc1
      have hne : (Value.slice wa n wc).ownBlock ≠ some g := fun e => by
        have := (HK.out.whole.lt g e).2
        omega
      have K2 := K1.new (chg_one w1 (.cells #[.slice (some ⟨g, 0, none⟩) m cap] 36))
      have hroom2 := hroom.new (chg_one w1 (.cells #[.slice (some ⟨g, 0, none⟩) m cap] 36))
      have hblk2 := blk_keep hblk (chg_one w1 (.cells #[.slice (some ⟨g, 0, none⟩) m cap] 36)) (fun f => f)
      have hs2 := K2.chg.size
      clear K1 hroom hblk hgs HR hcell
      go_wp2_with (at_builtin; refine wpList_append_moved rfl _ _ 35 rfl w0.heap.size 36 j0 (.slice none 0 0) 1 24 Tryd.underlying35 hj hy0 hy1 hy2 rfl (by decide) _ k rs rfl (some ⟨w1.heap.size, 0, none⟩) 1 1 rfl [.slice (some ⟨g, 0, none⟩) m cap] K2.l (from_one w1 _ 36) (fun u hu => by simp at hu; subst hu; rfl) (by unfold maxLen; omega) (by omega) hs2 ?_)
      intro v2 w2 ho2 hg2 _
      obtain ⟨hw2, hr2, hc2⟩ := K2.more (v := .slice (some ⟨g, 0, none⟩) m cap) kn (by rw [HM.out]) (by rw [HM.out]; exact hroom2) hblk2 hne ho2 hg2
      obtain ⟨la2, lc2, rfl, -⟩ := own_sl ho2
      have A2 := HA.out.keep hc2
      obtain ⟨x', he, hcell2⟩ := A2.at_ k kv
      cases he
      obtain ⟨aa', cc', hv', hrow2, hbyt2⟩ := A2.row k kv kn
      rw [hv', HM.out] at hcell2
      rw [HM.out] at hrow2
      have hl2 : (rs ++ [Value.slice (some ⟨g, 0, none⟩) m cap]).length = k + 1 := by rw [List.length_append, HK.out.len]; rfl
      have hs3 := hc2.size
      have HL2 : Hid (w2.ownsRow w0.heap.size 36 1 (.slice la2 (k + 1) lc2) (k + 1) (rs ++ [Value.slice (some ⟨g, 0, none⟩) m cap])) := ho2
      have HW2 : Hid (w2.ownsRow w0.heap.size 5 1 (.slice wa n wc) n (cells8 (up (nss.take k).flatten))) := by
        show World.ownsRow _ _ _ _ _ _ _
        have := hw2
        rw [HNN.out] at this
        exact this
      have HR2 : Hid (Rooms w2 (.slice wa n wc) (rs ++ [Value.slice (some ⟨g, 0, none⟩) m cap]) nss) := hr2
      clear K2 hroom2 hblk2 hg2 ho2 hw2 hr2 hne HK hv' hbyt2 A2
      go_wp2_with (at_builtin; refine wpList_append_moved rfl _ _ 36 rfl w0.heap.size 5 i0 (.int .u8 0) 1 1 Tryd.underlying36 hi hz0 hz1 hz2 rfl (by decide) _ n (cells8 (up (nss.take k).flatten)) rfl aa' m cc' rfl (cells8 (up nss[k])) HW2.out hrow2.src (oneCells _) (by unfold maxLen; omega) (by omega) hs3 ?_)
      intro v3 w3 ho3 hg3 hm3
      have K3 : Hid (Keeps w0.heap.size w0 w3 nss (k + 1) (.slice la2 (k + 1) lc2) v3 (rs ++ [Value.slice (some ⟨g, 0, none⟩) m cap])) := by
        refine whole_more (w := w2) (wv := .slice wa n wc) kn hl2 HL2.out ?_ HR2.out hc2 ?_ hg3 hm3
        · rw [HNN.out]; exact HW2.out
        · rw [HNN.out, HM.out]; exact ho3
      obtain ⟨wa3, wc3, rfl, -⟩ := own_sl ho3
      clear ho3 hg3 hm3 hrow2 hcell2 HW2 HR2 HL2
      go_wp2
      go_roundw
      case rel => exact ⟨k + 1, _, by omega, by go_num, K3⟩
      case measure => simp [intOf]; omega
    · obtain rfl : k = N := by omega
      obtain ⟨la, lc, rfl, -⟩ := own_sl HK.out.l
      obtain ⟨wa, wc, rfl, -⟩ := own_sl HK.out.whole
      have htk : nss.take k = nss := List.take_of_length_le (by rw [HA.out.ln]; exact Nat.le_refl _)
      obtain ⟨n, hnn⟩ : ∃ n, nss.flatten.length = n := ⟨_, rfl⟩
      have HNN : Hid (nss.flatten.length = n) := hnn
      have hW := HK.out.whole
      rw [htk, hnn] at HK hW ⊢
      have hn : n ≤ 1048576 := by have := HFl.out; omega
      clear htk hnn
      have v0 := conv_const wr [98, 101, 104, 105, 110, 100] 6 6 wr.heap.size rfl
      have rb0 : Row8 _ _ 6 6 (up behind) := row8_new wr [98, 101, 104, 105, 110, 100] 5 (6, 7) 6 6 rfl
      have hlb : ∀ g, (Value.slice la k lc).ownBlock = some g → g < wr.heap.size := fun g e => (HK.out.l.lt g e).2
      have c1 := chg_one wr (.cells (List.map (Value.int .u8) [98, 101, 104, 105, 110, 100]).toArray 5 (6, 7))
      simp only [List.map_cons, List.map_nil, List.length_cons, List.length_nil, Nat.reduceAdd] at v0 rb0 c1
      generalize hw1 : wr.alloc (.cells #[.int .u8 98, .int .u8 101, .int .u8 104, .int .u8 105, .int .u8 110, .int .u8 100] 5 (6, 7)) = w1 at *
      have c2 := chg_one w1 (.cells #[.slice (some ⟨wr.heap.size, 0, none⟩) 6 6] 36)
      have K2 := (HK.out.new c1).new c2
      have rb1 := row8_chg rb0 c2
      have hs2 := K2.chg.size
      clear rb0 c1 c2 HK hW hw1
      go_wp2_with (at_builtin; refine wpList_append_moved rfl _ _ 35 rfl w0.heap.size 36 j0 (.slice none 0 0) 1 24 Tryd.underlying35 hj hy0 hy1 hy2 rfl (by decide) _ k rs rfl (some ⟨w1.heap.size, 0, none⟩) 1 1 rfl [.slice (some ⟨wr.heap.size, 0, none⟩) 6 6] K2.l (from_one w1 _ 36) (fun u hu => by simp at hu; subst hu; rfl) (by unfold maxLen; omega) (by omega) hs2 ?_)
      intro v2 w4 ho2 hg2 _
      have hc : Chg (fun j => (Value.slice la k lc).ownBlock = some j) (w1.alloc (.cells #[.slice (some ⟨wr.heap.size, 0, none⟩) 6 6] 36)) w4 := (Chg.refl _ _).grown hg2 (fun j e => .inl e)
      have hw4 := ownsRow_keep K2.whole hc (fun j e1 e2 => kinds_two K2.l K2.whole e2 e1)
      have hr4 := K2.rooms.keep (wv' := .slice wa n wc) hc (fun g' c' hb' _ e' => two_kinds K2.l hb' e') (fun _ _ e => e)
      have C4 : Chg (fun _ => False) w0 w4 := K2.chg.grown hg2 (fun j e => .inr ((K2.l.lt j e).1))
      have rb4 := row8_keep rb1 hc (fun x e1 e2 => by
        cases e1
        have := hlb _ e2
        simp at this)
      rw [List.take_of_length_le (by rw [HA.out.ln]; exact Nat.le_refl _), HNN.out] at hw4
      obtain ⟨gl, lc4, rfl, hlc, -⟩ := own_some ho2 (by omega)
      have hlen := K2.len
      have cB : w4.cell? ⟨gl, k, none⟩ = some (.slice (some ⟨wr.heap.size, 0, none⟩) 6 6) := by
        have := ho2.cells (g := gl) rfl k (.slice (some ⟨wr.heap.size, 0, none⟩) 6 6) (by rw [List.getElem?_append_right (by omega), hlen, Nat.sub_self]; rfl)
        have hadd : (⟨gl, 0, none⟩ : Addr).add k = ⟨gl, k, none⟩ := by unfold Addr.add; split <;> simp_all
        rw [hadd] at this
        exact this
      have hCl : ∀ j (hj : j < rs.length), w4.cell? ((⟨gl, 0, none⟩ : Addr).add j) = some rs[j] := fun j hj => ho2.cells (g := gl) rfl j rs[j] (by rw [List.getElem?_append_left hj, List.getElem?_eq_getElem hj])
      have HP : Hid (Pieces w4 ⟨gl, 0, none⟩ nss) := hr4.pieces (by rw [hlen, HA.out.ln]) (fun ns h => (HB.out ns h).1) (fun ns h => (HB.out ns h).2) _ hCl
      obtain ⟨wa', wc', he, hrw, -⟩ := own_row8c hw4
      simp only [Value.slice.injEq, true_and] at he
      obtain ⟨rfl, rfl⟩ := he
      have hcv := conv8_here rb4
      rw [behind_str] at hcv
      have hbf : Byt nss.flatten := fun y hy => by
        obtain ⟨l, hl, hy⟩ := List.mem_flatten.1 hy
        exact (HB.out l hl).1 y hy
      have HRW : Hid (Row8 w4 wa n wc (up nss.flatten)) := hrw
      have HT4 : Hid (Tab w4) := HT.out.new C4
      have HRM : Hid (Rooms w4 (.slice wa n wc) rs nss) := hr4
      have HCL : Hid (∀ j (hj : j < rs.length), w4.cell? ((⟨gl, 0, none⟩ : Addr).add j) = some rs[j]) := hCl
      have HLen : Hid (rs.length = k) := hlen
      have hlc2 : k ≤ lc4 := by omega
      have z32 := more32_lt (s := 0) hbf (by decide)
      have z64 := more64_lt (s := 0) hbf (by decide)
      generalize g32 : Crc.more Crc.P32 32 0 nss.flatten = F32 at *
      generalize g64 : Crc.more Crc.P64 64 0 nss.flatten = F64 at *
      have H32 : Hid (Crc.more Crc.P32 32 0 nss.flatten = F32) := g32
      have H64 : Hid (Crc.more Crc.P64 64 0 nss.flatten = F64) := g64
      clear g32 g64 hCl hr4 hrw hw4 ho2 hg2 hc K2 rb1 hlb v0 hlen hs2
      go_wp2_with fail
      refine (sum32_any ⟨gl, 0, none⟩ k lc4 nss w4 HT4.out HP.out HA.out.ln (by omega)).mono ?_
      rintro e w5 ⟨rfl, rfl⟩
      rw [H32.out]
      go_wp2_with fail
      refine (refmore32_any 0 wa n wc nss.flatten w4 (by decide) HRW.out hbf (by omega)).mono ?_
      rintro e w5 ⟨rfl, rfl⟩
      rw [H32.out]
      go_wp2_with fail
      refine (sum64_any ⟨gl, 0, none⟩ k lc4 nss w4 HT4.out HP.out HA.out.ln (by omega)).mono ?_
      rintro e w5 ⟨rfl, rfl⟩
      rw [H64.out]
      go_wp2_with fail
      refine (refmore64_any 0 wa n wc nss.flatten w4 (by decide) HRW.out hbf (by omega)).mono ?_
      rintro e w5 ⟨rfl, rfl⟩
      rw [H64.out]
      go_wp2_with fail
      clear hcv cB rb4
      go_loopw [11] (fun i wq => ∃ j : Nat, j ≤ k ∧ i = .int .i64 j ∧ Chg (fun _ => False) w4 wq) (fun i _ => k - (intOf i).toNat)
      case atStart => exact ⟨0, by omega, rfl, Chg.refl _ _⟩
      case round =>
        obtain ⟨j, hj1, rfl, hcq⟩ := hrel
        by_cases hlt2 : j < k
        · have jr : j < rs.length := by rw [HLen.out]; exact hlt2
          have jv : j < vs.length := by rw [HA.out.lv]; exact hlt2
          have jn : j < nss.length := by rw [HA.out.ln]; exact hlt2
          have A2 := HA.out.keep (chg_then C4 hcq)
          obtain ⟨x, rfl, ca⟩ := A2.at_ j jv
          obtain ⟨aa, cc, hv, hrow, hbyt⟩ := A2.row j jv jn
          obtain ⟨g, cap, cur, hrs, hroom, _, _⟩ := (HRM.out.new hcq) j jr jn
          have cl := cell_keep (HCL.out j jr) hcq
          have hadd : (⟨gl, 0, none⟩ : Addr).add j = ⟨gl, j, none⟩ := by unfold Addr.add; split <;> simp_all
          rw [hadd, hrs] at cl
          rw [hv] at ca
          have hm2 := (HB.out nss[j] (List.getElem_mem _)).2
          have hTq := HT4.out.new hcq
          have hbytes := hroom.bytes rfl
          have y32 := more32_lt (s := s) hbyt hs
          have y64 := more64_lt (s := t) hbyt ht
          obtain ⟨m, hm⟩ : ∃ m, nss[j].length = m := ⟨_, rfl⟩
          rw [hm] at cl ca hrow hroom hbytes hm2
          generalize g32 : Crc.more Crc.P32 32 s nss[j] = m32 at *
          generalize g64 : Crc.more Crc.P64 64 t nss[j] = m64 at *
          have HM32 : Hid (Crc.more Crc.P32 32 s nss[j] = m32) := g32
          have HM64 : Hid (Crc.more Crc.P64 64 t nss[j] = m64) := g64
          clear g32 g64 hm A2 hv hrs hadd hi hz0 hz1 hz2 hj hy0 hy1 hy2 z32 z64 hn hlc hbf
          have hjk : (j : Int) < (k : Int) + 1 := by omega
          have hw1 : IntKind.u64.wrap (s : Int) = (s : Int) := by
            have : IntKind.u64.wrap (s : Int) = (s : Int) % 18446744073709551616 := by simp [IntKind.wrap, IntKind.signed, IntKind.bits]
            omega
          have hw2 : IntKind.u32.wrap (m32 : Int) = (m32 : Int) := by
            have : IntKind.u32.wrap (m32 : Int) = (m32 : Int) % 4294967296 := by simp [IntKind.wrap, IntKind.signed, IntKind.bits]
            omega
          go_wp2_with fail
          refine wp_region_free (mk := fun u => #[_, _, _, _, _, _, _, _, _, _, _, _, _, _, _, _, _, _, _, _, _, _, _, _, _, _, _, _, _, _, _, _, _, _, _, _, _, _, _, _, _, _, _, _, _, _, _, _, _, _, _, _, _, _, _, _, _, _, _, _, _, _, _, _, _, _, _, _, _, u 69, u 70, u 71, u 72, u 73, u 74, u 75, u 76, u 77, u 78, u 79, u 80, u 81, u 82, u 83, u 84, u 85, u 86, u 87, u 88, u 89, u 90, u 91, u 92, u 93, u 94, u 95, u 96, u 97, u 98, u 99, u 100, u 101, u 102, u 103, u 104, u 105, u 106, u 107, u 108, u 109, u 110, u 111, u 112, u 113, u 114, u 115, u 116, u 117, u 118, u 119, u 120, u 121, u 122, u 123, _]) (F := fun slot v w => (look [(69, .val (.slice (some ⟨gl, 0, none⟩) (k + 1) lc4)), (70, .val (.int .i64 (j : Nat))), (71, .val (.pointer (some ⟨gl, j, none⟩))), (72, .val (.slice (some ⟨g, 0, none⟩) m cap)), (73, .val (.int .i64 (m : Nat))), (74, .val (.slice (some x) k c)), (75, .val (.int .i64 (j : Nat))), (76, .val (.pointer (some (x.add j)))), (77, .val (.slice aa m cc)), (78, .val (.int .i64 (m : Nat))), (79, .val (.bool false)), (80, .val (.bool false)), (81, .val (.int .u32 (s : Nat))), (82, .val (.slice (some ⟨gl, 0, none⟩) (k + 1) lc4)), (83, .val (.int .i64 (j : Nat))), (84, .val (.pointer (some ⟨gl, j, none⟩))), (85, .val (.slice (some ⟨g, 0, none⟩) m cap)), (86, .val (.int .u32 (m32 : Nat))), (87, .val (.int .u32 (s : Nat))), (88, .val (.int .u64 (s : Nat))), (89, .val (.slice (some x) k c)), (90, .val (.int .i64 (j : Nat))), (91, .val (.pointer (some (x.add j)))), (92, .val (.slice aa m cc)), (93, .val (.int .u64 (m32 : Nat))), (94, .val (.int .u32 (m32 : Nat))), (95, .val (.bool false)), (96, .val (.bool false)), (97, .val (.bool false)), (98, .val (.int .u64 (t : Nat))), (99, .val (.slice (some ⟨gl, 0, none⟩) (k + 1) lc4)), (100, .val (.int .i64 (j : Nat))), (101, .val (.pointer (some ⟨gl, j, none⟩))), (102, .val (.slice (some ⟨g, 0, none⟩) m cap)), (103, .val (.int .u64 (m64 : Nat))), (104, .val (.int .u64 (t : Nat))), (105, .val (.slice (some x) k c)), (106, .val (.int .i64 (j : Nat))), (107, .val (.pointer (some (x.add j)))), (108, .val (.slice aa m cc)), (109, .val (.int .u64 (m64 : Nat))), (110, .val (.bool false)), (111, .val (.bool false)), (112, .val (.bool false)), (113, .val (.slice (some ⟨gl, 0, none⟩) (k + 1) lc4)), (114, .val (.int .i64 (j : Nat))), (115, .val (.pointer (some ⟨gl, j, none⟩))), (116, .val (.slice (some ⟨g, 0, none⟩) m cap)), (117, .val (.slice (some x) k c)), (118, .val (.int .i64 (j : Nat))), (119, .val (.pointer (some (x.add j)))), (120, .val (.slice aa m cc)), (121, .val (.bool true)), (122, .val (.bool false)), (123, .val (.bool false))] slot).holds v w) (fun slot => match slot with | 69 => u69 | 70 => u70 | 71 => u71 | 72 => u72 | 73 => u73 | 74 => u74 | 75 => u75 | 76 => u76 | 77 => u77 | 78 => u78 | 79 => u79 | 80 => u80 | 81 => u81 | 82 => u82 | 83 => u83 | 84 => u84 | 85 => u85 | 86 => u86 | 87 => u87 | 88 => u88 | 89 => u89 | 90 => u90 | 91 => u91 | 92 => u92 | 93 => u93 | 94 => u94 | 95 => u95 | 96 => u96 | 97 => u97 | 98 => u98 | 99 => u99 | 100 => u100 | 101 => u101 | 102 => u102 | 103 => u103 | 104 => u104 | 105 => u105 | 106 => u106 | 107 => u107 | 108 => u108 | 109 => u109 | 110 => u110 | 111 => u111 | 112 => u112 | 113 => u113 | 114 => u114 | 115 => u115 | 116 => u116 | 117 => u117 | 118 => u118 | 119 => u119 | 120 => u120 | 121 => u121 | 122 => u122 | 123 => u123 | _ => undef) rfl (by kernel_rfl) (by kernel_rfl) ?_ (fun _ v w w' hc h => Fact.stays _ v w w' hc h) ?_ ?_
          · repeat (refine ⟨⟨_, rfl, fun _ _ => rfl⟩, ?_⟩)
            exact trivial
          · refine ⟨?_, ?_, ?_, ?_, ?_, ?_, ?_, ?_, ?_, ?_, ?_, ?_, ?_, ?_, ?_, ?_, ?_, ?_, ?_, ?_, ?_, ?_, ?_, ?_, ?_, ?_, ?_, ?_, ?_, ?_, ?_, ?_, ?_, ?_, ?_, ?_, ?_, ?_, ?_, ?_, ?_, ?_, ?_, ?_, ?_, ?_, ?_, ?_, ?_, ?_, ?_, ?_, ?_, ?_, ?_, trivial⟩
            · intro u w hc hd K hK -- 69
              clear hd
              go_simp
              exact hK.out (.slice (some ⟨gl, 0, none⟩) (k + 1) lc4) w (Chg.refl _ _) rfl
            · intro u w hc hd K hK -- 70
              clear hd
              go_simp
              exact hK.out (.int .i64 (j : Nat)) w (Chg.refl _ _) rfl
            · intro u w hc hd K hK -- 71
              have h69 : (Fact.val (.slice (some ⟨gl, 0, none⟩) (k + 1) lc4)).holds (u 69) w := hd.get 0 (by kernel_rfl)
              simp only [Fact.holds] at h69
              have h70 : (Fact.val (.int .i64 (j : Nat))).holds (u 70) w := hd.get 1 (by kernel_rfl)
              simp only [Fact.holds] at h70
              clear hd
              simp only [h69, h70] at hK
              go_simp
              exact hK.out (.pointer (some ⟨gl, j, none⟩)) w (Chg.refl _ _) rfl
            · intro u w hc hd K hK -- 72
              have h71 : (Fact.val (.pointer (some ⟨gl, j, none⟩))).holds (u 71) w := hd.get 2 (by kernel_rfl)
              simp only [Fact.holds] at h71
              clear hd
              simp only [h71] at hK
              have ql := cell_keep cl hc
              go_simp
              exact hK.out (.slice (some ⟨g, 0, none⟩) m cap) w (Chg.refl _ _) rfl
            · intro u w hc hd K hK -- 73
              have h72 : (Fact.val (.slice (some ⟨g, 0, none⟩) m cap)).holds (u 72) w := hd.get 3 (by kernel_rfl)
              simp only [Fact.holds] at h72
              clear hd
              simp only [h72] at hK
              go_simp
              exact hK.out (.int .i64 (m : Nat)) w (Chg.refl _ _) rfl
            · intro u w hc hd K hK -- 74
              clear hd
              go_simp
              exact hK.out (.slice (some x) k c) w (Chg.refl _ _) rfl
            · intro u w hc hd K hK -- 75
              clear hd
              go_simp
              exact hK.out (.int .i64 (j : Nat)) w (Chg.refl _ _) rfl
            · intro u w hc hd K hK -- 76
              have h74 : (Fact.val (.slice (some x) k c)).holds (u 74) w := hd.get 5 (by kernel_rfl)
              simp only [Fact.holds] at h74
              have h75 : (Fact.val (.int .i64 (j : Nat))).holds (u 75) w := hd.get 6 (by kernel_rfl)
              simp only [Fact.holds] at h75
              clear hd
              simp only [h74, h75] at hK
              go_simp
              exact hK.out (.pointer (some (x.add j))) w (Chg.refl _ _) rfl
            · intro u w hc hd K hK -- 77
              have h76 : (Fact.val (.pointer (some (x.add j)))).holds (u 76) w := hd.get 7 (by kernel_rfl)
              simp only [Fact.holds] at h76
              clear hd
              simp only [h76] at hK
              have qa := cell_keep ca hc
              go_simp
              exact hK.out (.slice aa m cc) w (Chg.refl _ _) rfl
            · intro u w hc hd K hK -- 78
              have h77 : (Fact.val (.slice aa m cc)).holds (u 77) w := hd.get 8 (by kernel_rfl)
              simp only [Fact.holds] at h77
              clear hd
              simp only [h77] at hK
              go_simp
              exact hK.out (.int .i64 (m : Nat)) w (Chg.refl _ _) rfl
            · intro u w hc hd K hK -- 79
              have h73 : (Fact.val (.int .i64 (m : Nat))).holds (u 73) w := hd.get 4 (by kernel_rfl)
              simp only [Fact.holds] at h73
              have h78 : (Fact.val (.int .i64 (m : Nat))).holds (u 78) w := hd.get 9 (by kernel_rfl)
              simp only [Fact.holds] at h78
              clear hd
              simp only [h73, h78] at hK
              go_simp
              exact hK.out (.bool false) w (Chg.refl _ _) rfl
            · intro u w hc hd K hK -- 80
              have h79 : (Fact.val (.bool false)).holds (u 79) w := hd.get 10 (by kernel_rfl)
              simp only [Fact.holds] at h79
              clear hd
              simp only [h79] at hK
              go_simp
              exact hK.out (.bool false) w (Chg.refl _ _) rfl
            · intro u w hc hd K hK -- 81
              have h80 : (Fact.val (.bool false)).holds (u 80) w := hd.get 11 (by kernel_rfl)
              simp only [Fact.holds] at h80
              clear hd
              simp only [h80] at hK
              go_simp
              exact hK.out (.int .u32 (s : Nat)) w (Chg.refl _ _) rfl
            · intro u w hc hd K hK -- 82
              have h80 : (Fact.val (.bool false)).holds (u 80) w := hd.get 11 (by kernel_rfl)
              simp only [Fact.holds] at h80
              clear hd
              simp only [h80] at hK
              go_simp
              exact hK.out (.slice (some ⟨gl, 0, none⟩) (k + 1) lc4) w (Chg.refl _ _) rfl
            · intro u w hc hd K hK -- 83
              have h80 : (Fact.val (.bool false)).holds (u 80) w := hd.get 11 (by kernel_rfl)
              simp only [Fact.holds] at h80
              clear hd
              simp only [h80] at hK
              go_simp
              exact hK.out (.int .i64 (j : Nat)) w (Chg.refl _ _) rfl
            · intro u w hc hd K hK -- 84
              have h82 : (Fact.val (.slice (some ⟨gl, 0, none⟩) (k + 1) lc4)).holds (u 82) w := hd.get 13 (by kernel_rfl)
              simp only [Fact.holds] at h82
              have h83 : (Fact.val (.int .i64 (j : Nat))).holds (u 83) w := hd.get 14 (by kernel_rfl)
              simp only [Fact.holds] at h83
              have h80 : (Fact.val (.bool false)).holds (u 80) w := hd.get 11 (by kernel_rfl)
              simp only [Fact.holds] at h80
              clear hd
              simp only [h80, h82, h83] at hK
              go_simp
              exact hK.out (.pointer (some ⟨gl, j, none⟩)) w (Chg.refl _ _) rfl
            · intro u w hc hd K hK -- 85
              have h84 : (Fact.val (.pointer (some ⟨gl, j, none⟩))).holds (u 84) w := hd.get 15 (by kernel_rfl)
              simp only [Fact.holds] at h84
              have h80 : (Fact.val (.bool false)).holds (u 80) w := hd.get 11 (by kernel_rfl)
              simp only [Fact.holds] at h80
              clear hd
              simp only [h80, h84] at hK
              have ql := cell_keep cl hc
              go_simp
              exact hK.out (.slice (some ⟨g, 0, none⟩) m cap) w (Chg.refl _ _) rfl
            · intro u w hc hd K hK -- 86
              have h81 : (Fact.val (.int .u32 (s : Nat))).holds (u 81) w := hd.get 12 (by kernel_rfl)
              simp only [Fact.holds] at h81
              have h85 : (Fact.val (.slice (some ⟨g, 0, none⟩) m cap)).holds (u 85) w := hd.get 16 (by kernel_rfl)
              simp only [Fact.holds] at h85
              have h80 : (Fact.val (.bool false)).holds (u 80) w := hd.get 11 (by kernel_rfl)
              simp only [Fact.holds] at h80
              clear hd
              simp only [h80, h81, h85] at hK
              go_simp
              go_at_call 14
              refine (more32_any s _ m cap nss[j] w (hTq.new hc) hs (row8_chg hbytes hc) hbyt (by omega)).mono ?_
              rintro e wx ⟨rfl, rfl⟩
              rw [HM32.out]
              exact hK.out _ _ (Chg.refl _ _) rfl
            · intro u w hc hd K hK -- 87
              have h80 : (Fact.val (.bool false)).holds (u 80) w := hd.get 11 (by kernel_rfl)
              simp only [Fact.holds] at h80
              clear hd
              simp only [h80] at hK
              go_simp
              exact hK.out (.int .u32 (s : Nat)) w (Chg.refl _ _) rfl
            · intro u w hc hd K hK -- 88
              have h87 : (Fact.val (.int .u32 (s : Nat))).holds (u 87) w := hd.get 18 (by kernel_rfl)
              simp only [Fact.holds] at h87
              have h80 : (Fact.val (.bool false)).holds (u 80) w := hd.get 11 (by kernel_rfl)
              simp only [Fact.holds] at h80
              clear hd
              simp only [h80, h87] at hK
              go_simp
              exact hK.out (.int .u64 (s : Nat)) w (Chg.refl _ _) rfl
            · intro u w hc hd K hK -- 89
              have h80 : (Fact.val (.bool false)).holds (u 80) w := hd.get 11 (by kernel_rfl)
              simp only [Fact.holds] at h80
              clear hd
              simp only [h80] at hK
              go_simp
              exact hK.out (.slice (some x) k c) w (Chg.refl _ _) rfl
            · intro u w hc hd K hK -- 90
              have h80 : (Fact.val (.bool false)).holds (u 80) w := hd.get 11 (by kernel_rfl)
              simp only [Fact.holds] at h80
              clear hd
              simp only [h80] at hK
              go_simp
              exact hK.out (.int .i64 (j : Nat)) w (Chg.refl _ _) rfl
            · intro u w hc hd K hK -- 91
              have h89 : (Fact.val (.slice (some x) k c)).holds (u 89) w := hd.get 20 (by kernel_rfl)
              simp only [Fact.holds] at h89
              have h90 : (Fact.val (.int .i64 (j : Nat))).holds (u 90) w := hd.get 21 (by kernel_rfl)
              simp only [Fact.holds] at h90
              have h80 : (Fact.val (.bool false)).holds (u 80) w := hd.get 11 (by kernel_rfl)
              simp only [Fact.holds] at h80
              clear hd
              simp only [h80, h89, h90] at hK
              go_simp
              exact hK.out (.pointer (some (x.add j))) w (Chg.refl _ _) rfl
            · intro u w hc hd K hK -- 92
              have h91 : (Fact.val (.pointer (some (x.add j)))).holds (u 91) w := hd.get 22 (by kernel_rfl)
              simp only [Fact.holds] at h91
              have h80 : (Fact.val (.bool false)).holds (u 80) w := hd.get 11 (by kernel_rfl)
              simp only [Fact.holds] at h80
              clear hd
              simp only [h80, h91] at hK
              have qa := cell_keep ca hc
              go_simp
              exact hK.out (.slice aa m cc) w (Chg.refl _ _) rfl
            · intro u w hc hd K hK -- 93
              have h88 : (Fact.val (.int .u64 (s : Nat))).holds (u 88) w := hd.get 19 (by kernel_rfl)
              simp only [Fact.holds] at h88
              have h92 : (Fact.val (.slice aa m cc)).holds (u 92) w := hd.get 23 (by kernel_rfl)
              simp only [Fact.holds] at h92
              have h80 : (Fact.val (.bool false)).holds (u 80) w := hd.get 11 (by kernel_rfl)
              simp only [Fact.holds] at h80
              clear hd
              simp only [h80, h88, h92] at hK
              go_simp
              go_at_call 12
              refine (refmore32_any s aa m cc nss[j] w hs (row8_chg hrow hc) hbyt (by omega)).mono ?_
              rintro e wx ⟨rfl, rfl⟩
              rw [HM32.out]
              exact hK.out _ _ (Chg.refl _ _) rfl
            · intro u w hc hd K hK -- 94
              have h93 : (Fact.val (.int .u64 (m32 : Nat))).holds (u 93) w := hd.get 24 (by kernel_rfl)
              simp only [Fact.holds] at h93
              have h80 : (Fact.val (.bool false)).holds (u 80) w := hd.get 11 (by kernel_rfl)
              simp only [Fact.holds] at h80
              clear hd
              simp only [h80, h93] at hK
              go_simp
              exact hK.out (.int .u32 (m32 : Nat)) w (Chg.refl _ _) rfl
            · intro u w hc hd K hK -- 95
              have h86 : (Fact.val (.int .u32 (m32 : Nat))).holds (u 86) w := hd.get 17 (by kernel_rfl)
              simp only [Fact.holds] at h86
              have h94 : (Fact.val (.int .u32 (m32 : Nat))).holds (u 94) w := hd.get 25 (by kernel_rfl)
              simp only [Fact.holds] at h94
              have h80 : (Fact.val (.bool false)).holds (u 80) w := hd.get 11 (by kernel_rfl)
              simp only [Fact.holds] at h80
              clear hd
              simp only [h80, h86, h94] at hK
              go_simp
              exact hK.out (.bool false) w (Chg.refl _ _) rfl
            · intro u w hc hd K hK -- 96
              have h80 : (Fact.val (.bool false)).holds (u 80) w := hd.get 11 (by kernel_rfl)
              simp only [Fact.holds] at h80
              have h95 : (Fact.val (.bool false)).holds (u 95) w := hd.get 26 (by kernel_rfl)
              simp only [Fact.holds] at h95
              clear hd
              simp only [h80, h95] at hK
              go_simp
              exact hK.out (.bool false) w (Chg.refl _ _) rfl
            · intro u w hc hd K hK -- 97
              have h96 : (Fact.val (.bool false)).holds (u 96) w := hd.get 27 (by kernel_rfl)
              simp only [Fact.holds] at h96
              clear hd
              simp only [h96] at hK
              go_simp
              exact hK.out (.bool false) w (Chg.refl _ _) rfl
            · intro u w hc hd K hK -- 98
              have h97 : (Fact.val (.bool false)).holds (u 97) w := hd.get 28 (by kernel_rfl)
              simp only [Fact.holds] at h97
              clear hd
              simp only [h97] at hK
              go_simp
              exact hK.out (.int .u64 (t : Nat)) w (Chg.refl _ _) rfl
            · intro u w hc hd K hK -- 99
              have h97 : (Fact.val (.bool false)).holds (u 97) w := hd.get 28 (by kernel_rfl)
              simp only [Fact.holds] at h97
              clear hd
              simp only [h97] at hK
              go_simp
              exact hK.out (.slice (some ⟨gl, 0, none⟩) (k + 1) lc4) w (Chg.refl _ _) rfl
            · intro u w hc hd K hK -- 100
              have h97 : (Fact.val (.bool false)).holds (u 97) w := hd.get 28 (by kernel_rfl)
              simp only [Fact.holds] at h97
              clear hd
              simp only [h97] at hK
              go_simp
              exact hK.out (.int .i64 (j : Nat)) w (Chg.refl _ _) rfl
            · intro u w hc hd K hK -- 101
              have h99 : (Fact.val (.slice (some ⟨gl, 0, none⟩) (k + 1) lc4)).holds (u 99) w := hd.get 30 (by kernel_rfl)
              simp only [Fact.holds] at h99
              have h100 : (Fact.val (.int .i64 (j : Nat))).holds (u 100) w := hd.get 31 (by kernel_rfl)
              simp only [Fact.holds] at h100
              have h97 : (Fact.val (.bool false)).holds (u 97) w := hd.get 28 (by kernel_rfl)
              simp only [Fact.holds] at h97
              clear hd
              simp only [h97, h99, h100] at hK
              go_simp
              exact hK.out (.pointer (some ⟨gl, j, none⟩)) w (Chg.refl _ _) rfl
            · intro u w hc hd K hK -- 102
              have h101 : (Fact.val (.pointer (some ⟨gl, j, none⟩))).holds (u 101) w := hd.get 32 (by kernel_rfl)
              simp only [Fact.holds] at h101
              have h97 : (Fact.val (.bool false)).holds (u 97) w := hd.get 28 (by kernel_rfl)
              simp only [Fact.holds] at h97
              clear hd
              simp only [h97, h101] at hK
              have ql := cell_keep cl hc
              go_simp
              exact hK.out (.slice (some ⟨g, 0, none⟩) m cap) w (Chg.refl _ _) rfl
            · intro u w hc hd K hK -- 103
              have h98 : (Fact.val (.int .u64 (t : Nat))).holds (u 98) w := hd.get 29 (by kernel_rfl)
              simp only [Fact.holds] at h98
              have h102 : (Fact.val (.slice (some ⟨g, 0, none⟩) m cap)).holds (u 102) w := hd.get 33 (by kernel_rfl)
              simp only [Fact.holds] at h102
              have h97 : (Fact.val (.bool false)).holds (u 97) w := hd.get 28 (by kernel_rfl)
              simp only [Fact.holds] at h97
              clear hd
              simp only [h97, h98, h102] at hK
              go_simp
              go_at_call 15
              refine (more64_any t _ m cap nss[j] w (hTq.new hc) ht (row8_chg hbytes hc) hbyt (by omega)).mono ?_
              rintro e wx ⟨rfl, rfl⟩
              rw [HM64.out]
              exact hK.out _ _ (Chg.refl _ _) rfl
            · intro u w hc hd K hK -- 104
              have h97 : (Fact.val (.bool false)).holds (u 97) w := hd.get 28 (by kernel_rfl)
              simp only [Fact.holds] at h97
              clear hd
              simp only [h97] at hK
              go_simp
              exact hK.out (.int .u64 (t : Nat)) w (Chg.refl _ _) rfl
            · intro u w hc hd K hK -- 105
              have h97 : (Fact.val (.bool false)).holds (u 97) w := hd.get 28 (by kernel_rfl)
              simp only [Fact.holds] at h97
              clear hd
              simp only [h97] at hK
              go_simp
              exact hK.out (.slice (some x) k c) w (Chg.refl _ _) rfl
            · intro u w hc hd K hK -- 106
              have h97 : (Fact.val (.bool false)).holds (u 97) w := hd.get 28 (by kernel_rfl)
              simp only [Fact.holds] at h97
              clear hd
              simp only [h97] at hK
              go_simp
              exact hK.out (.int .i64 (j : Nat)) w (Chg.refl _ _) rfl
            · intro u w hc hd K hK -- 107
              have h105 : (Fact.val (.slice (some x) k c)).holds (u 105) w := hd.get 36 (by kernel_rfl)
              simp only [Fact.holds] at h105
              have h106 : (Fact.val (.int .i64 (j : Nat))).holds (u 106) w := hd.get 37 (by kernel_rfl)
              simp only [Fact.holds] at h106
              have h97 : (Fact.val (.bool false)).holds (u 97) w := hd.get 28 (by kernel_rfl)
              simp only [Fact.holds] at h97
              clear hd
              simp only [h97, h105, h106] at hK
              go_simp
              exact hK.out (.pointer (some (x.add j))) w (Chg.refl _ _) rfl
            · intro u w hc hd K hK -- 108
              have h107 : (Fact.val (.pointer (some (x.add j)))).holds (u 107) w := hd.get 38 (by kernel_rfl)
              simp only [Fact.holds] at h107
              have h97 : (Fact.val (.bool false)).holds (u 97) w := hd.get 28 (by kernel_rfl)
              simp only [Fact.holds] at h97
              clear hd
              simp only [h97, h107] at hK
              have qa := cell_keep ca hc
              go_simp
              exact hK.out (.slice aa m cc) w (Chg.refl _ _) rfl
            · intro u w hc hd K hK -- 109
              have h104 : (Fact.val (.int .u64 (t : Nat))).holds (u 104) w := hd.get 35 (by kernel_rfl)
              simp only [Fact.holds] at h104
              have h108 : (Fact.val (.slice aa m cc)).holds (u 108) w := hd.get 39 (by kernel_rfl)
              simp only [Fact.holds] at h108
              have h97 : (Fact.val (.bool false)).holds (u 97) w := hd.get 28 (by kernel_rfl)
              simp only [Fact.holds] at h97
              clear hd
              simp only [h97, h104, h108] at hK
              go_simp
              go_at_call 12
              refine (refmore64_any t aa m cc nss[j] w ht (row8_chg hrow hc) hbyt (by omega)).mono ?_
              rintro e wx ⟨rfl, rfl⟩
              rw [HM64.out]
              exact hK.out _ _ (Chg.refl _ _) rfl
            · intro u w hc hd K hK -- 110
              have h103 : (Fact.val (.int .u64 (m64 : Nat))).holds (u 103) w := hd.get 34 (by kernel_rfl)
              simp only [Fact.holds] at h103
              have h109 : (Fact.val (.int .u64 (m64 : Nat))).holds (u 109) w := hd.get 40 (by kernel_rfl)
              simp only [Fact.holds] at h109
              have h97 : (Fact.val (.bool false)).holds (u 97) w := hd.get 28 (by kernel_rfl)
              simp only [Fact.holds] at h97
              clear hd
              simp only [h97, h103, h109] at hK
              go_simp
              exact hK.out (.bool false) w (Chg.refl _ _) rfl
            · intro u w hc hd K hK -- 111
              have h97 : (Fact.val (.bool false)).holds (u 97) w := hd.get 28 (by kernel_rfl)
              simp only [Fact.holds] at h97
              have h110 : (Fact.val (.bool false)).holds (u 110) w := hd.get 41 (by kernel_rfl)
              simp only [Fact.holds] at h110
              clear hd
              simp only [h97, h110] at hK
              go_simp
              exact hK.out (.bool false) w (Chg.refl _ _) rfl
            · intro u w hc hd K hK -- 112
              have h111 : (Fact.val (.bool false)).holds (u 111) w := hd.get 42 (by kernel_rfl)
              simp only [Fact.holds] at h111
              clear hd
              simp only [h111] at hK
              go_simp
              exact hK.out (.bool false) w (Chg.refl _ _) rfl
            · intro u w hc hd K hK -- 113
              have h112 : (Fact.val (.bool false)).holds (u 112) w := hd.get 43 (by kernel_rfl)
              simp only [Fact.holds] at h112
              clear hd
              simp only [h112] at hK
              go_simp
              exact hK.out (.slice (some ⟨gl, 0, none⟩) (k + 1) lc4) w (Chg.refl _ _) rfl
            · intro u w hc hd K hK -- 114
              have h112 : (Fact.val (.bool false)).holds (u 112) w := hd.get 43 (by kernel_rfl)
              simp only [Fact.holds] at h112
              clear hd
              simp only [h112] at hK
              go_simp
              exact hK.out (.int .i64 (j : Nat)) w (Chg.refl _ _) rfl
            · intro u w hc hd K hK -- 115
              have h113 : (Fact.val (.slice (some ⟨gl, 0, none⟩) (k + 1) lc4)).holds (u 113) w := hd.get 44 (by kernel_rfl)
              simp only [Fact.holds] at h113
              have h114 : (Fact.val (.int .i64 (j : Nat))).holds (u 114) w := hd.get 45 (by kernel_rfl)
              simp only [Fact.holds] at h114
              have h112 : (Fact.val (.bool false)).holds (u 112) w := hd.get 43 (by kernel_rfl)
              simp only [Fact.holds] at h112
              clear hd
              simp only [h112, h113, h114] at hK
              go_simp
              exact hK.out (.pointer (some ⟨gl, j, none⟩)) w (Chg.refl _ _) rfl
            · intro u w hc hd K hK -- 116
              have h115 : (Fact.val (.pointer (some ⟨gl, j, none⟩))).holds (u 115) w := hd.get 46 (by kernel_rfl)
              simp only [Fact.holds] at h115
              have h112 : (Fact.val (.bool false)).holds (u 112) w := hd.get 43 (by kernel_rfl)
              simp only [Fact.holds] at h112
              clear hd
              simp only [h112, h115] at hK
              have ql := cell_keep cl hc
              go_simp
              exact hK.out (.slice (some ⟨g, 0, none⟩) m cap) w (Chg.refl _ _) rfl
            · intro u w hc hd K hK -- 117
              have h112 : (Fact.val (.bool false)).holds (u 112) w := hd.get 43 (by kernel_rfl)
              simp only [Fact.holds] at h112
              clear hd
              simp only [h112] at hK
              go_simp
              exact hK.out (.slice (some x) k c) w (Chg.refl _ _) rfl
            · intro u w hc hd K hK -- 118
              have h112 : (Fact.val (.bool false)).holds (u 112) w := hd.get 43 (by kernel_rfl)
              simp only [Fact.holds] at h112
              clear hd
              simp only [h112] at hK
              go_simp
              exact hK.out (.int .i64 (j : Nat)) w (Chg.refl _ _) rfl
            · intro u w hc hd K hK -- 119
              have h117 : (Fact.val (.slice (some x) k c)).holds (u 117) w := hd.get 48 (by kernel_rfl)
              simp only [Fact.holds] at h117
              have h118 : (Fact.val (.int .i64 (j : Nat))).holds (u 118) w := hd.get 49 (by kernel_rfl)
              simp only [Fact.holds] at h118
              have h112 : (Fact.val (.bool false)).holds (u 112) w := hd.get 43 (by kernel_rfl)
              simp only [Fact.holds] at h112
              clear hd
              simp only [h112, h117, h118] at hK
              go_simp
              exact hK.out (.pointer (some (x.add j))) w (Chg.refl _ _) rfl
            · intro u w hc hd K hK -- 120
              have h119 : (Fact.val (.pointer (some (x.add j)))).holds (u 119) w := hd.get 50 (by kernel_rfl)
              simp only [Fact.holds] at h119
              have h112 : (Fact.val (.bool false)).holds (u 112) w := hd.get 43 (by kernel_rfl)
              simp only [Fact.holds] at h112
              clear hd
              simp only [h112, h119] at hK
              have qa := cell_keep ca hc
              go_simp
              exact hK.out (.slice aa m cc) w (Chg.refl _ _) rfl
            · intro u w hc hd K hK -- 121
              have h116 : (Fact.val (.slice (some ⟨g, 0, none⟩) m cap)).holds (u 116) w := hd.get 47 (by kernel_rfl)
              simp only [Fact.holds] at h116
              have h120 : (Fact.val (.slice aa m cc)).holds (u 120) w := hd.get 51 (by kernel_rfl)
              simp only [Fact.holds] at h120
              have h112 : (Fact.val (.bool false)).holds (u 112) w := hd.get 43 (by kernel_rfl)
              simp only [Fact.holds] at h112
              clear hd
              simp only [h112, h116, h120] at hK
              go_simp
              go_at_call 16
              refine (held_any g m cap aa cc nss[j] w (hroom.new hc) (row8_chg hrow hc) (by omega)).mono ?_
              rintro e wx ⟨rfl, cx⟩
              exact hK.out _ _ cx rfl
            · intro u w hc hd K hK -- 122
              have h121 : (Fact.val (.bool true)).holds (u 121) w := hd.get 52 (by kernel_rfl)
              simp only [Fact.holds] at h121
              have h112 : (Fact.val (.bool false)).holds (u 112) w := hd.get 43 (by kernel_rfl)
              simp only [Fact.holds] at h112
              clear hd
              simp only [h112, h121] at hK
              go_simp
              exact hK.out (.bool false) w (Chg.refl _ _) rfl
            · intro u w hc hd K hK -- 123
              have h112 : (Fact.val (.bool false)).holds (u 112) w := hd.get 43 (by kernel_rfl)
              simp only [Fact.holds] at h112
              have h122 : (Fact.val (.bool false)).holds (u 122) w := hd.get 53 (by kernel_rfl)
              simp only [Fact.holds] at h122
              clear hd
              simp only [h112, h122] at hK
              go_simp
              exact hK.out (.bool false) w (Chg.refl _ _) rfl
          · intro u w hc hA
            have h123 : (Fact.val (.bool false)).holds (u 123) w := hA.at 123 (by kernel_rfl)
            simp only [Fact.holds] at h123
            clear hA
            simp only [h123]
            go_wp2
            go_roundw
            case rel => exact ⟨j + 1, by omega, by go_num, chg_then hcq hc⟩
            case measure => simp [intOf]; omega
        · obtain rfl : j = k := by omega
          have hTq := HT4.out.new hcq
          go_wp2_with fail
          refine (fixed_any _ hTq).mono ?_
          rintro e w6 ⟨rfl, c6⟩
          go_wp2
          go_ret
          exact ⟨rfl, chg_then (chg_then C4 hcq) c6⟩
end Go.Proofs.YtmgjbkgooekihabDoor
