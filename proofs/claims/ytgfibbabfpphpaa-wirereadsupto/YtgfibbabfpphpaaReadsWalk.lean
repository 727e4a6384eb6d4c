/- The walk through the statement WireReads, of no statement by itself. -/
import Derived.Test.YtgfibbabfpphpaaReadsMain
namespace Go.Proofs.Ytgfibbabfpphpaa
open Go.RowKit

set_option maxRecDepth 100000 in
set_option maxHeartbeats 4000000 in
theorem readsWalk (a0 b0 sa : Option Addr) (m c m2 c2 sl sc sb soff : Nat) (xs ys : List Int) (os : List Opv) (w : World) (hx : Row8 w a0 m c xs) (hx8 : Bytes8 xs) (hy : Row8 w b0 m2 c2 ys) (hy8 : Bytes8 ys) (hm : m ≤ 1048576) (hm2 : m2 ≤ 1048576)
    (hsa : 0 < sl → sa = some ⟨sb, soff, none⟩) (hos : os.length = sl) (hop : OpsAt w sb soff os) (hsl : sl ≤ 1048576) :
    Calls Try.prog 8 #[.slice a0 m c, .slice b0 m2 c2, .slice sa sl sc] w fun e w' => e = .returned (.bool true) ∧ Below w.heap.size w w' := by
  obtain ⟨i0, hi, hz0, hz1, hz2⟩ := info_parts info5
  have hxl := hx.1
  have hyl := hy.1
  go_enter Try.func8, Try.ntmps8
  go_wp2_with fail
  refine (lent_any _ _ _ _ _ hx (by omega)).mono ?_
  rintro e w1 ⟨gf, fcap, rfl, hf1, hc1⟩
  have hC1 : Chg (fun k => w.heap.size ≤ k) w w1 := chg_none hc1
  have hgf : w.heap.size ≤ gf := (hf1.lt gf rfl).1
  have hgf1 : gf < w1.heap.size := (hf1.lt gf rfl).2
  have hr1 : Row8 w1 (some ⟨gf, 0, none⟩) m fcap xs := by
    refine ⟨hxl, .inr ⟨_, rfl, fun j u hu => ?_⟩⟩
    have hadd : (⟨gf, 0, none⟩ : Addr).add j = ⟨gf, j, none⟩ := by unfold Addr.add; split <;> simp_all
    have hj : j < m := by
      have := (List.getElem?_eq_some_iff.1 hu).1
      simpa [hxl] using this
    rw [hadd, hf1.cellAt j (by omega), cells8_append, List.getElem?_append_left (by simp [cells8]; omega)]
    exact hu
  clear hc1
  go_wp2_with fail
  refine (newReader_any w.heap.size _ _ _ xs _ hr1 (by omega) hC1.size).mono ?_
  rintro e w2 ⟨p, rfl, hp2, hc2, hpn⟩
  have hf2 := own_keep hf1 hc2 (fun _ _ f => f)
  have hC2 := chg_then hC1 hc2
  have hs12 : w1.heap.size ≤ w2.heap.size := hc2.size
  have hy2 := row8_old hy hC2 (fun k h => by omega)
  have hlt2 := hf2.lt gf rfl
  have hE2 := own_empty w2
  clear hf1 hC1 hr1 hc2
  go_wp2_with (at_builtin; refine wpList_append_moved rfl (.tmp 30) (.tmp 31) 22 rfl w2.heap.size 5 i0 (.int .u8 0) 1 1 Try.underlying22 hi hz0 hz1 hz2 rfl (by decide) _ 0 [] rfl b0 m2 c2 rfl (ys.map (Value.int .u8)) hE2 (row8_alloc hy2 _).src (oneCells _) (by unfold maxLen; omega) (by omega) (by simp) ?_)
  intro v3 w3 hown3 hg3 _
  have hc3 := chg_empty hg3
  obtain ⟨ad3, cc3, rfl, hr3⟩ := own_row8 hown3
  have hp3 := hp2.chg hc3
  have hf3 := own_keep hf2 hc3 (fun _ _ f => f)
  have hC3 := chg_then hC2 hc3
  have hs23 : w2.heap.size ≤ w3.heap.size := hc3.size
  clear hown3 hg3 hE2 hy2 hp2 hf2 hc3 hC2
  go_wp2_with fail
  refine (newReader_any w.heap.size _ _ _ ys _ hr3 (by omega) hC3.size).mono ?_
  rintro e w4 ⟨q, rfl, hq4, hc4, hqn⟩
  have hp4 := hp3.chg hc4
  have hpq : q ≠ p := fun e => by have := hp3.lt.1; omega
  have hf4 := own_keep hf3 hc4 (fun _ _ f => f)
  have hC4 := chg_then hC3 hc4
  have hx4 := row8_old hx hC4 (fun k h => by omega)
  clear hp3 hf3 hr3 hc4 hC3
  go_wp2_with fail
  refine (kept_any _ _ _ _ _ _ _ _ hf4 hx4 (by omega)).mono ?_
  rintro e w5 ⟨rfl, k5, rfl⟩
  have hp5 := hp4.draw k5
  have hq5 := hq4.draw k5
  have hf5 : (w4.drewN k5).ownsRow w.heap.size 5 1 (.slice (some ⟨gf, 0, none⟩) (m + 1) fcap) (m + 1) (cells8 (xs ++ [165])) := own_keep hf4 (chg_drewN (S := fun _ => False) w4 k5) (fun _ _ f => f)
  have hC5 : Chg (fun k => w.heap.size ≤ k) w (w4.drewN k5) := chg_then hC4 (chg_drewN w4 k5)
  generalize w4.drewN k5 = w5 at *
  clear hp4 hq4 hf4 hC4 hx4
  obtain ⟨hpg, hqg⟩ : p ≠ gf ∧ q ≠ gf := by
    obtain ⟨cf, h1⟩ := own_blk hf5 (g := gf) rfl
    have h2 := hp5.blk
    have h3 := hq5.blk
    refine ⟨fun e => ?_, fun e => ?_⟩
    · rw [e, h1] at h2; simp at h2
    · rw [e, h1] at h3; simp at h3
  go_wp2_with fail
  go_loopw [48] (fun i wr => ∃ k : Nat, k ≤ m + 1 ∧ i = .int .i64 k ∧ (∃ zs : List Int, wr.ownsRow w.heap.size 5 1 (.slice (some ⟨gf, 0, none⟩) (m + 1) fcap) (m + 1) (cells8 zs)) ∧ Chg (fun k => k = gf) w5 wr) (fun i _ => m + 1 - (intOf i).toNat)
  case atStart => exact ⟨0, Nat.zero_le _, rfl, ⟨_, hf5⟩, Chg.refl _ _⟩
  case round =>
    clear hf5
    obtain ⟨k, hk, rfl, ⟨zs, hz⟩, hcz⟩ := hrel
    by_cases hlt : k < m + 1
    · have hzl : zs.length = m + 1 := by simpa [cells8] using hz.1
      have ck : wr.cell? ⟨gf, k, none⟩ = some (.int .u8 (zs.getD k 0)) := by
        rw [hz.cellAt k (by omega)]
        simp [cells8, List.getD, show k < zs.length by omega]
      have fk := hz.frozenAt k
      have hst := fun u => (hz.stored k (.int .u8 u)).1
      generalize zs.getD k 0 = z at *
      have hC := fun u => hcz.setCell (p := ⟨gf, k, none⟩) (.inl rfl) (.int .u8 u)
      have HS : Hid (∀ u, ∃ zs : List Int, (wr.setCell ⟨gf, k, none⟩ (.int .u8 u)).ownsRow w.heap.size 5 1 (.slice (some ⟨gf, 0, none⟩) (m + 1) fcap) (m + 1) (cells8 zs)) := fun u => ⟨zs.set k u, by simpa [cells8, List.map_set] using hst u⟩
      have HC : Hid (∀ u, Chg (fun k => k = gf) w5 (wr.setCell ⟨gf, k, none⟩ (.int .u8 u))) := hC
      clear hst hC hz hcz
      go_wp2
      go_roundw
      case rel => exact ⟨k + 1, by omega, by go_num, HS.out _, HC.out _⟩
      case measure => simp [intOf]; omega
    · obtain ⟨cf, hcf⟩ := own_blk hz (g := gf) rfl
      have hp6 := hp5.keep hcz hpg (by omega)
      have hq6 := hq5.keep hcz hqg (by omega)
      have hC6 : Chg (fun k => w.heap.size ≤ k) w wr := hC5.trans hcz (fun i e => .inl (by omega))
      clear hz hcz hp5 hq5 hC5
      generalize wr = w6 at *
      have hx6 := row8_old hx hC6 (fun k h => by omega)
      have hE6 := own_empty w6
      go_wp2_with (at_builtin; refine wpList_append_moved rfl (.tmp 60) (.tmp 61) 22 rfl w6.heap.size 5 i0 (.int .u8 0) 1 1 Try.underlying22 hi hz0 hz1 hz2 rfl (by decide) _ 0 [] rfl a0 m c rfl (xs.map (Value.int .u8)) hE6 (row8_alloc hx6 _).src (oneCells _) (by unfold maxLen; omega) (by omega) (by simp) ?_)
      intro v7 w7 hown7 hg7 _
      have hc7 := chg_empty hg7
      have hcf7 := blk_keep hcf hc7 (fun f => f)
      have hs67 : w6.heap.size ≤ w7.heap.size := hc7.size
      have hN7 : w.heap.size ≤ w7.heap.size := Nat.le_trans hC6.size hs67
      obtain ⟨rg, rad, rc, rfl, hr7⟩ := newRR (B := w.heap.size) (xs := xs) (by
        refine ⟨hown7.1, ?_⟩
        rcases hown7.2 with e | ⟨g', cap', cur', e1, e2, e3⟩
        · exact .inl e
        · exact .inr ⟨g', cap', cur', e1, Nat.le_trans hC6.size e2, e3⟩) hN7 hcf7 hgf (by omega)
      have hp7 := (hp6.chg hc7).chg (chg_one (fun _ => False) w7 (.cells #[.slice rad m rc, .int .i64 0] 66))
      have hq7 := (hq6.chg hc7).chg (chg_one (fun _ => False) w7 (.cells #[.slice rad m rc, .int .i64 0] 66))
      have hC7 := (chg_then hC6 hc7).alloc (.cells #[.slice rad m rc, .int .i64 0] 66)
      have hcf8 := blk_keep hcf7 (chg_one (fun _ => False) w7 (.cells #[.slice rad m rc, .int .i64 0] 66)) (fun f => f)
      have hlt7 := hr7.lt.1
      clear hown7 hg7 hc7 hE6 hx6 hp6 hq6 hC6 hcf hcf7
      have hy8' := row8_old hy hC7 (fun k h => by omega)
      have hE8 := own_empty (w7.alloc (.cells #[.slice rad m rc, .int .i64 0] 66))
      have hsz8 : (w7.alloc (.cells #[.slice rad m rc, .int .i64 0] 66)).heap.size = w7.heap.size + 1 := by simp
      have HSZ8 : Hid ((w7.alloc (.cells #[.slice rad m rc, .int .i64 0] 66)).heap.size = w7.heap.size + 1) := hsz8
      rw [hsz8] at hE8
      clear hsz8
      go_wp2_with (at_builtin; refine wpList_append_moved rfl (.tmp 65) (.tmp 66) 22 rfl (w7.heap.size + 1) 5 i0 (.int .u8 0) 1 1 Try.underlying22 hi hz0 hz1 hz2 rfl (by decide) _ 0 [] rfl b0 m2 c2 rfl (ys.map (Value.int .u8)) hE8 (row8_alloc hy8' _).src (oneCells _) (by unfold maxLen; omega) (by omega) (by simp) ?_)
      intro v9 w9 hown9 hg9 _
      have hc9 : Chg (fun _ => False) (w7.alloc (.cells #[.slice rad m rc, .int .i64 0] 66)) w9 := chg_empty (by rw [HSZ8.out]; exact hg9)
      have hcf9 := blk_keep hcf8 hc9 (fun f => f)
      have hs79 : w7.heap.size + 1 ≤ w9.heap.size := by have := hc9.size; rw [HSZ8.out] at this; exact this
      have hN9 : w.heap.size ≤ w9.heap.size := by omega
      obtain ⟨sg, sad, scc, rfl, hr9⟩ := newRR (B := w.heap.size) (xs := ys) (by
        refine ⟨hown9.1, ?_⟩
        rcases hown9.2 with e | ⟨g', cap', cur', e1, e2, e3⟩
        · exact .inl e
        · exact .inr ⟨g', cap', cur', e1, by omega, e3⟩) hN9 hcf9 hgf (by omega)
      have hO := chg_one (fun _ => False) w9 (.cells #[.slice sad m2 scc, .int .i64 0] 66)
      have hT1 : Two w.heap.size (w9.alloc (.cells #[.slice sad m2 scc, .int .i64 0] 66)) p w1.heap.size w7.heap.size rg xs 0 := ⟨(hp7.chg hc9).chg hO, rad, rc, (hr7.new hc9).new hO⟩
      have hT2 : Two w.heap.size (w9.alloc (.cells #[.slice sad m2 scc, .int .i64 0] 66)) q w3.heap.size w9.heap.size sg ys 0 := ⟨(hq7.chg hc9).chg hO, sad, scc, hr9⟩
      have hC9 := chg_then (chg_then hC7 hc9) hO
      have hrs : w9.heap.size ≠ w7.heap.size := by omega
      clear hown9 hg9 hc9 hE8 hy8' HSZ8 hcf8 hcf9 hO hr9 hr7 hp7 hq7 hC7 hs79
      go_wp2_with fail
      generalize w9.alloc (.cells #[.slice sad m2 scc, .int .i64 0] 66) = wX at *
      generalize w9.heap.size = sx at *
      generalize w7.heap.size = rx at *
      generalize w3.heap.size = qx at *
      generalize w1.heap.size = px at *
      go_loopw [14, 72] (fun l i wr => ∃ k : Nat, k ≤ sl ∧ i = .int .i64 k ∧ (∃ o1, Two w.heap.size wr p px rx rg xs o1) ∧ (∃ o2, Two w.heap.size wr q qx sx sg ys o2) ∧ (∃ hs, Bk w.heap.size wr l hs ∧ hs.length ≤ k) ∧ Chg (fun k => w.heap.size ≤ k) w wr) (fun _ i _ => sl - (intOf i).toNat)
      case atStart => exact ⟨0, Nat.zero_le _, rfl, ⟨_, hT1⟩, ⟨_, hT2⟩, ⟨[], Bk.nil _ _, Nat.le_refl _⟩, hC9⟩
      case round =>
        clear hT1 hT2 hC9
        obtain ⟨k, hk, rfl, ⟨o1, hT1⟩, ⟨o2, hT2⟩, ⟨hs, hbk, hhs⟩, hC⟩ := hrel
        by_cases hlt : k < sl
        · obtain rfl := hsa (by omega)
          obtain ⟨o, hok⟩ : ∃ o, os[k]? = some o := ⟨os[k], List.getElem?_eq_getElem (by omega)⟩
          obtain ⟨e0, e1, e2, e3, e4⟩ := hop.at hC k o hok
          obtain ⟨kind, two, n, v, ba, bl, bc⟩ := o
          simp only at e0 e1 e2 e3 e4
          have hO := chg_one (fun _ => False) wr (.cells #[.int .i64 kind, .bool two, .int .i64 n, .int .u64 v, .slice ba bl bc] 47)
          have hT1a := hT1.new hO
          have hT2a := hT2.new hO
          have hbka := hbk.new hO
          have hCa := chg_then hC hO
          clear hT1 hT2 hbk hC hO hop hok hx hy
          cases two with
          | true =>
            go_wp2_with fail
            refine (reads_any w.heap.size q qx sx sg o2 ys kind true n v ba bl bc _ hs _ hT2a hy8 hbka hCa.size (by omega) (by omega)).mono ?_
            rintro e wB ⟨lv', rfl, ⟨o2', hT2b⟩, ⟨hs', hbkb, hhs'⟩, hcb, _⟩
            have hT1b := Two.beside hT2a hT1a hbka (fun e => hpq e.symm) (fun e => hrs e.symm) hcb
            have hCb : Chg (fun k => w.heap.size ≤ k) w wB := hCa.trans hcb (fun b f => .inl (by
              obtain ⟨ad, c, hr⟩ := hT2a.rr
              rcases f with f | f | f
              · rw [f]; exact hT2a.rd.loA
              · rw [f]; exact hr.loA
              · exact (hbka.book.lt b f).1))
            clear hT1a hT2a hbka hCa hcb e0 e1 e2 e3 e4
            go_wp2
            go_roundw
            case rel => exact ⟨k + 1, by omega, by go_num, ⟨_, hT1b⟩, ⟨_, hT2b⟩, ⟨_, hbkb, by omega⟩, hCb⟩
            case measure => simp [intOf]; omega
          | false =>
            go_wp2_with fail
            refine (reads_any w.heap.size p px rx rg o1 xs kind false n v ba bl bc _ hs _ hT1a hx8 hbka hCa.size (by omega) (by omega)).mono ?_
            rintro e wB ⟨lv', rfl, ⟨o1', hT1b⟩, ⟨hs', hbkb, hhs'⟩, hcb, _⟩
            have hT2b := Two.beside hT1a hT2a hbka hpq hrs hcb
            have hCb : Chg (fun k => w.heap.size ≤ k) w wB := hCa.trans hcb (fun b f => .inl (by
              obtain ⟨ad, c, hr⟩ := hT1a.rr
              rcases f with f | f | f
              · rw [f]; exact hT1a.rd.loA
              · rw [f]; exact hr.loA
              · exact (hbka.book.lt b f).1))
            clear hT1a hT2a hbka hCa hcb e0 e1 e2 e3 e4
            go_wp2
            go_roundw
            case rel => exact ⟨k + 1, by omega, by go_num, ⟨_, hT1b⟩, ⟨_, hT2b⟩, ⟨_, hbkb, by omega⟩, hCb⟩
            case measure => simp [intOf]; omega
        · obtain rfl : k = sl := by omega
          have hO := chg_one (fun _ => False) wr (.cells #[.int .i64 5, .bool false, .int .i64 0, .int .u64 0, .slice none 0 0] 47)
          have hT1a := hT1.new hO
          have hT2a := hT2.new hO
          have hbka := hbk.new hO
          have hCa := chg_then hC hO
          clear hT1 hT2 hbk hC hO hop hx hy
          go_wp2_with fail
          refine (reads_len w.heap.size p px rx rg o1 xs false 0 0 none 0 0 (.slice none 0 0) _ hT1a).mono ?_
          rintro e wB ⟨rfl, ⟨o1', hT1b⟩, hcb⟩
          have hcb' : Chg (fun k => k = p ∨ k = rx ∨ Value.ownBlock (.slice none 0 0) = some k) _ wB := hcb.mono (fun _ f => .inl (by rcases f with f | f; exact .inl f; exact .inr (.inl f)))
          have hT2b := Two.beside hT1a hT2a (Bk.nil _ _) hpq hrs hcb'
          have hbkb := hbka.keep hcb (fun b e f => by
              obtain ⟨c1, h1⟩ := own_blk hbka.book e
              obtain ⟨ad, c, hr⟩ := hT1a.rr
              have h2 := hT1a.rd.blk
              have h3 := hr.blk
              rcases f with f | f
              · rw [f, h2] at h1; simp at h1
              · rw [f, h3] at h1; simp at h1) (fun b cur e f => by
              obtain ⟨ad, c, hr⟩ := hT1a.rr
              have h2 := hT1a.rd.blk
              have h3 := hr.blk
              rcases f with f | f
              · rw [f, h2] at e; simp at e
              · rw [f, h3] at e; simp at e)
          have hCb : Chg (fun k => w.heap.size ≤ k) w wB := hCa.trans hcb (fun b f => .inl (by
              obtain ⟨ad, c, hr⟩ := hT1a.rr
              rcases f with f | f
              · rw [f]; exact hT1a.rd.loA
              · rw [f]; exact hr.loA))
          have hbox : wB.heap[wr.heap.size]? = some (.cells #[.int .i64 5, .bool false, .int .i64 0, .int .u64 0, .slice none 0 0] 47 (0, 0)) := blk_keep (heap_alloc_new wr _) hcb (fun f => by
              obtain ⟨ad, c, hr⟩ := hT1a.rr
              have h2 := hT1a.rd.blk
              have h3 := hr.blk
              rcases f with f | f
              · rw [← f, heap_alloc_new] at h2; simp at h2
              · rw [← f, heap_alloc_new] at h3; simp at h3)
          obtain ⟨b0', b1', b2', b3', b4'⟩ := blk5_cell hbox
          clear hT1a hT2a hbka hCa hcb hcb' hbox hT1b
          go_wp2_with fail
          refine (reads_len w.heap.size q qx sx sg o2 ys false 0 0 none 0 0 (.slice none 0 0) _ hT2b).mono ?_
          rintro e wD ⟨rfl, _, hcd⟩
          have hbkd := hbkb.keep hcd (fun b e f => by
              obtain ⟨c1, h1⟩ := own_blk hbkb.book e
              obtain ⟨ad, c, hr⟩ := hT2b.rr
              have h2 := hT2b.rd.blk
              have h3 := hr.blk
              rcases f with f | f
              · rw [f, h2] at h1; simp at h1
              · rw [f, h3] at h1; simp at h1) (fun b cur e f => by
              obtain ⟨ad, c, hr⟩ := hT2b.rr
              have h2 := hT2b.rd.blk
              have h3 := hr.blk
              rcases f with f | f
              · rw [f, h2] at e; simp at e
              · rw [f, h3] at e; simp at e)
          have hCd : Chg (fun k => w.heap.size ≤ k) w wD := hCb.trans hcd (fun b f => .inl (by
              obtain ⟨ad, c, hr⟩ := hT2b.rr
              rcases f with f | f
              · rw [f]; exact hT2b.rd.loA
              · rw [f]; exact hr.loA))
          clear hT2b hbkb hCb hcd b0' b1' b2' b3' b4'
          have hheld := held_walk w.heap.size _ hs _ hCd.size hbkd.book hbkd.rows hbkd.apart hbkd.ok (by omega) hbkd.small
          clear hbkd
          go_wp2_with fail
          refine hheld.mono ?_
          rintro e wE ⟨rfl, hce⟩
          have hCe := hCd.trans hce (fun b f => .inl f)
          clear hheld hce hCd
          go_wp2
          go_ret
          exact ⟨rfl, hCe.below (Nat.le_refl _) (fun k f => f)⟩

end Go.Proofs.Ytgfibbabfpphpaa
