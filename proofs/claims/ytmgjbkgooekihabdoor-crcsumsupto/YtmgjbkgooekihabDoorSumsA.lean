/- Pieces that came in, their copies with room behind them, and all their bytes: what the statement's loops keep; of no statement by themselves. -/
import Derived.Test.YtmgjbkgooekihabDoorRefZ
import Derived.Test.YtmgjbkgooekihabDoorUpto
namespace Go.Proofs.YtmgjbkgooekihabDoor
open Go.RowKit

/-- Pieces that came in. -/
structure Arg (w : World) (a : Option Addr) (N : Nat) (vs : List Value) (nss : List (List Nat)) : Prop where
  lv : vs.length = N
  ln : nss.length = N
  at_ : ∀ k (h : k < vs.length), ∃ x, a = some x ∧ w.cell? (x.add k) = some vs[k]
  row : ∀ k (h1 : k < vs.length) (h2 : k < nss.length), ∃ aa cc, vs[k] = .slice aa nss[k].length cc ∧ Row8 w aa nss[k].length cc (up nss[k]) ∧ Byt nss[k]

theorem cell_keep {w w' : World} {x : Addr} {v : Value} (h : w.cell? x = some v) (hc : Chg (fun _ => False) w w') : w'.cell? x = some v := by
  rw [World.cell?_of_block (w := w) (hc.block _ (World.block_lt_of_cell? w _ h) (fun f => f))]
  exact h

theorem Arg.keep {w w' : World} {a : Option Addr} {N : Nat} {vs : List Value} {nss : List (List Nat)} (h : Arg w a N vs nss) (hc : Chg (fun _ => False) w w') : Arg w' a N vs nss :=
  ⟨h.lv, h.ln, fun k hk => by
    obtain ⟨x, e, hx⟩ := h.at_ k hk
    exact ⟨x, e, cell_keep hx hc⟩, fun k h1 h2 => by
    obtain ⟨aa, cc, e, hr, hb⟩ := h.row k h1 h2
    exact ⟨aa, cc, e, row8_chg hr hc, hb⟩⟩

/-- The copies, each in memory of its own. -/
def Rooms (w : World) (wv : Value) (rs : List Value) (nss : List (List Nat)) : Prop :=
  ∀ i (h : i < rs.length) (h2 : i < nss.length), ∃ g cap cur, rs[i] = .slice (some ⟨g, 0, none⟩) nss[i].length cap ∧ Roomy w g nss[i].length cap nss[i] ∧ w.heap[g]? = some (.cells cur 5 (0, 0)) ∧ wv.ownBlock ≠ some g

theorem Rooms.keep {w w' : World} {wv wv' : Value} {rs : List Value} {nss : List (List Nat)} {S : Nat → Prop} (h : Rooms w wv rs nss) (hc : Chg S w w') (hS : ∀ g cur, w.heap[g]? = some (.cells cur 5 (0, 0)) → wv.ownBlock ≠ some g → ¬ S g)
    (hw : ∀ g, g < w.heap.size → wv.ownBlock ≠ some g → wv'.ownBlock ≠ some g) : Rooms w' wv' rs nss := by
  intro i hi h2
  obtain ⟨g, cap, cur, e, hr, hb, hne⟩ := h i hi h2
  have hn := hS g cur hb hne
  exact ⟨g, cap, cur, e, hr.keep hc hn, (hc.block g (lt_of_blk hb) hn).trans hb, hw g (lt_of_blk hb) hne⟩

theorem Rooms.new {w w' : World} {wv : Value} {rs : List Value} {nss : List (List Nat)} (h : Rooms w wv rs nss) (hc : Chg (fun _ => False) w w') : Rooms w' wv rs nss :=
  h.keep hc (fun _ _ _ _ f => f) (fun _ _ e => e)

theorem Rooms.snoc {w : World} {wv : Value} {rs : List Value} {nss : List (List Nat)} (h : Rooms w wv rs nss) {v : Value} {g cap : Nat} {cur : Array Value} (hk : rs.length < nss.length) (e : v = .slice (some ⟨g, 0, none⟩) nss[rs.length].length cap) (hr : Roomy w g nss[rs.length].length cap nss[rs.length]) (hb : w.heap[g]? = some (.cells cur 5 (0, 0))) (hne : wv.ownBlock ≠ some g) :
    Rooms w wv (rs ++ [v]) nss := by
  intro i hi h2
  by_cases hlt : i < rs.length
  · rw [List.getElem_append_left hlt]
    exact h i hlt h2
  · have hi2 : i = rs.length := by simp at hi; omega
    subst hi2
    rw [List.getElem_append_right (Nat.le_refl _)]
    exact ⟨g, cap, cur, by simpa using e, hr, hb, hne⟩

/-- As pieces in a row, whose cells a list of the call's own holds. -/
theorem Rooms.pieces {w : World} {wv : Value} {rs : List Value} {nss : List (List Nat)} (h : Rooms w wv rs nss) (hl : rs.length = nss.length) (hb : ∀ ns ∈ nss, Byt ns) (hs : ∀ ns ∈ nss, ns.length ≤ 1048576) (x : Addr) (hc : ∀ k (hk : k < rs.length), w.cell? (x.add k) = some rs[k]) : Pieces w x nss := by
  intro k hk
  have hk2 : k < rs.length := by omega
  obtain ⟨g, cap, cur, e, hr, _, _⟩ := h k hk2 hk
  have := hs nss[k] (List.getElem_mem _)
  exact ⟨rs[k], hc k hk2, _, _, _, e, hr.bytes rfl, hb _ (List.getElem_mem _), by omega⟩

set_option maxHeartbeats 1000000 in
theorem room_blk (a : Option Addr) (n c : Nat) (ns : List Nat) (w : World) (hx : Row8 w a n c (up ns)) (hn : n ≤ 140737488351232) :
    Calls Tryd.prog 10 #[.slice a n c] w fun e w' => ∃ g cap cur, e = .returned (.slice (some ⟨g, 0, none⟩) n cap) ∧ Roomy w' g n cap ns ∧ w'.heap[g]? = some (.cells cur 5 (0, 0)) ∧ w.heap.size ≤ g ∧ Chg (fun _ => False) w w' := by
  obtain ⟨i0, hi, hz0, hz1, hz2⟩ := info_parts info5
  have h0 := own_empty w
  have hc0 := chg_one w (.cells #[] 5)
  have hx0 := row8_chg hx hc0
  clear hx
  go_enter Tryd.func10, Tryd.ntmps10
  go_wp2_with (at_builtin; refine wpList_append_moved rfl _ _ 36 rfl w.heap.size 5 i0 (.int .u8 0) 1 1 Tryd.underlying36 hi hz0 hz1 hz2 rfl (by decide) _ 0 (cells8 []) rfl a n c rfl (cells8 (up ns)) h0 hx0.src (oneCells (up ns)) (by unfold maxLen; omega) (by omega) hc0.size ?_)
  intro v1 w1 ho1 hg1 _
  have hc1 : Chg (fun _ => False) w w1 := hc0.grown hg1 (fun k e => .inr ((h0.lt k e).1))
  rw [cells8_append, List.nil_append] at ho1
  obtain ⟨ba, bc, rfl, -, -⟩ := own_row8c ho1
  have hs1 := hc1.size
  clear hg1 h0 hc0 hx0
  go_wp2_with (at_builtin; refine wpList_append_moved rfl _ _ 36 rfl w.heap.size 5 i0 (.int .u8 0) 1 1 Tryd.underlying36 hi hz0 hz1 hz2 rfl (by decide) _ n (cells8 (up ns)) rfl (some ⟨w1.heap.size, 0, none⟩) 1 1 rfl [.int .u8 77] ((by simpa using ho1 : w1.ownsRow w.heap.size 5 1 (.slice ba n bc) n (cells8 (up ns))).alloc _) (row8_one w1 77 5).src (oneCells [77]) (by unfold maxLen; omega) (by omega) (by simp; omega) ?_)
  intro v2 w2 ho2 hg2 _
  have hc2 : Chg (fun _ => False) w w2 := (hc1.alloc _).grown hg2 (fun k e => .inr ((ho1.lt k (by simpa using e)).1))
  have ho3 : w2.ownsRow w.heap.size 5 1 v2 (n + 1) (cells8 (up (ns ++ [77]))) := by simpa [cells8, up] using ho2
  obtain ⟨g, cap, cur, rfl, hB, hg, hnc⟩ : ∃ g cap cur, v2 = .slice (some ⟨g, 0, none⟩) (n + 1) cap ∧ w.heap.size ≤ g ∧ w2.heap[g]? = some (.cells cur 5 (0, 0)) ∧ n + 1 ≤ cap := by
    rcases ho3.2 with ⟨_, e⟩ | ⟨g, cap, cur, rfl, hB, hg, hnc, _⟩
    · omega
    · exact ⟨g, cap, cur, rfl, hB, hg, hnc⟩
  obtain ⟨ad, cp, he, hr, hf⟩ := own_row8c ho3
  simp only [Value.slice.injEq, true_and] at he
  obtain ⟨rfl, rfl⟩ := he
  have HR : Hid (Roomy w2 g n cap ns) := ⟨hr, hf⟩
  have HC : Hid (Chg (fun _ => False) w w2) := hc2
  have HG : Hid (w2.heap[g]? = some (.cells cur 5 (0, 0))) := hg
  have hfn : n ≤ cap := by omega
  clear hr ho3 ho2 hg2 ho1 hc1 hc2 hg
  go_wp2
  go_ret
  exact ⟨g, cap, cur, rfl, HR.out, HG.out, hB, HC.out⟩

set_option maxHeartbeats 1000000 in
theorem held_drew (g n cap : Nat) (b : Option Addr) (c : Nat) (ns : List Nat) (w : World) (hl : Roomy w g n cap ns) (h : Row8 w b n c (up ns)) (hn : n ≤ 140737488351232) :
    Calls Tryd.prog 16 #[.slice (some ⟨g, 0, none⟩) n cap, .slice b n c] w fun e w' => e = .returned (.bool true) ∧ ∃ k, w' = w.drewN k := by
  have hx : ns.length = n := by rw [← up_length]; exact h.1
  have hv1 := conv8 h
  have hv2 := conv8 (hl.bytes hx)
  have hfit := hl.fit
  have hfit2 : n ≤ cap := by omega
  have c1 : w.cell? ⟨g, n, none⟩ = some (.int .u8 77) := by
    rcases hl.row.2 with ⟨e, _⟩ | ⟨x, e, hx2⟩
    · cases e
    · cases e
      have hadd : (⟨g, 0, none⟩ : Addr).add n = ⟨g, n, none⟩ := by unfold Addr.add; split <;> simp_all
      rw [← hadd]
      exact hx2 n _ (by simp [up, hx])
  generalize strOfNums (up ns) = s at *
  clear hl h hx
  go_enter Tryd.func16, Tryd.ntmps16
  go_wp2_with fail
  go_quiet (fail)
  go_wp2
  go_ret
  exact ⟨rfl, _, rfl⟩

theorem chg_drewN (w : World) (k : Nat) : Chg (fun _ => False) w (w.drewN k) := ⟨rfl, rfl, rfl, Nat.le_refl _, fun _ _ _ => rfl⟩

theorem held_quiet (g n cap : Nat) (b : Option Addr) (c : Nat) (ns : List Nat) (w : World) (hl : Roomy w g n cap ns) (h : Row8 w b n c (up ns)) (hn : n ≤ 140737488351232) (q : Nat) :
    Calls Tryd.prog 16 #[.slice (some ⟨g, 0, none⟩) n cap, .slice b n c] (w.drewN q) fun e w' => e = .returned (.bool true) ∧ ∃ m, w' = w.drewN m :=
  (held_drew g n cap b c ns (w.drewN q) (hl.new (chg_drewN w q)) (row8_chg h (chg_drewN w q)) hn).mono fun _ _ ⟨he, k, hk⟩ => ⟨he, q + k, by rw [hk]; exact World.drewN_drewN w q k⟩

theorem more32_quiet (s : Nat) (ad : Option Addr) (n c : Nat) (ns : List Nat) (w : World) (hT : Tab w) (hs : s < 4294967296) (h : Row8 w ad n c (up ns)) (hb : Byt ns) (hl : n ≤ 140737488355328) (q : Nat) :
    Calls Tryd.prog 14 #[.int .u32 s, .slice ad n c] (w.drewN q) fun e w' => e = .returned (.int .u32 (Crc.more Crc.P32 32 s ns : Nat)) ∧ ∃ m, w' = w.drewN m :=
  (more32_any s ad n c ns (w.drewN q) (hT.new (chg_drewN w q)) hs (row8_chg h (chg_drewN w q)) hb hl).mono fun _ _ ⟨he, hm⟩ => ⟨he, q, hm.symm⟩

theorem refmore32_quiet (s : Nat) (ad : Option Addr) (n c : Nat) (ns : List Nat) (w : World) (hs : s < 4294967296) (h : Row8 w ad n c (up ns)) (hb : Byt ns) (hl : n ≤ 140737488355328) (q : Nat) :
    Calls Tryd.prog 12 #[.int .u64 s, .slice ad n c, .int .i64 32] (w.drewN q) fun e w' => e = .returned (.int .u64 (Crc.more Crc.P32 32 s ns : Nat)) ∧ ∃ m, w' = w.drewN m :=
  (refmore32_any s ad n c ns (w.drewN q) hs (row8_chg h (chg_drewN w q)) hb hl).mono fun _ _ ⟨he, hm⟩ => ⟨he, q, hm.symm⟩
theorem more64_quiet (s : Nat) (ad : Option Addr) (n c : Nat) (ns : List Nat) (w : World) (hT : Tab w) (hs : s < 18446744073709551616) (h : Row8 w ad n c (up ns)) (hb : Byt ns) (hl : n ≤ 140737488355328) (q : Nat) :
    Calls Tryd.prog 15 #[.int .u64 s, .slice ad n c] (w.drewN q) fun e w' => e = .returned (.int .u64 (Crc.more Crc.P64 64 s ns : Nat)) ∧ ∃ m, w' = w.drewN m :=
  (more64_any s ad n c ns (w.drewN q) (hT.new (chg_drewN w q)) hs (row8_chg h (chg_drewN w q)) hb hl).mono fun _ _ ⟨he, hm⟩ => ⟨he, q, hm.symm⟩

theorem refmore64_quiet (s : Nat) (ad : Option Addr) (n c : Nat) (ns : List Nat) (w : World) (hs : s < 18446744073709551616) (h : Row8 w ad n c (up ns)) (hb : Byt ns) (hl : n ≤ 140737488355328) (q : Nat) :
    Calls Tryd.prog 12 #[.int .u64 s, .slice ad n c, .int .i64 64] (w.drewN q) fun e w' => e = .returned (.int .u64 (Crc.more Crc.P64 64 s ns : Nat)) ∧ ∃ m, w' = w.drewN m :=
  (refmore64_any s ad n c ns (w.drewN q) hs (row8_chg h (chg_drewN w q)) hb hl).mono fun _ _ ⟨he, hm⟩ => ⟨he, q, hm.symm⟩
end Go.Proofs.YtmgjbkgooekihabDoor
