/- The contract of the law's plays: the arms that answer no list; of no statement by themselves. -/
import Derived.Test.YthgibmhbgfjkcaaWv
import Derived.Deep.DeepCutAuto
namespace Go.Proofs.Ythgibmhbgfjkcaa
open Go.RowKit
set_option linter.unusedVariables false

variable {Win : World → Nat → Nat → Value → Nat → List Nat → Prop}
/-- Two windows, apart from one another; into the second other bytes may have come. -/
structure Two (Win : World → Nat → Nat → Value → Nat → List Nat → Prop) (w : World) (B a r : Nat) (v y : Value) (n : Nat) (bs cs : List Nat) : Prop where
  win : Win w B a v n bs
  rw : Rw w B r y n cs
  dis : ∀ z, Foot a v z → ¬ Foot r y z
/-- They have turned, and nothing else. -/
structure Trn (Win : World → Nat → Nat → Value → Nat → List Nat → Prop) (w0 w : World) (B a r : Nat) (v0 y0 v y : Value) (n : Nat) (bs cs : List Nat) : Prop where
  two : Two Win w B a r v y n bs cs
  chg : Chg (fun z => Foot a v0 z ∨ Foot r y0 z) w0 w
  mv : Moved w0 v0 v
  my : Moved w0 y0 y
theorem Two.new (S : WinSpec Win) {w w' : World} {B a r : Nat} {v y : Value} {n : Nat} {bs cs : List Nat} (h : Two Win w B a r v y n bs cs) (hc : Chg (fun _ => False) w w') : Two Win w' B a r v y n bs cs := ⟨S.new h.win hc, h.rw.new hc, h.dis⟩
theorem Trn.start (S : WinSpec Win) {w0 w : World} {B a r : Nat} {v y : Value} {n : Nat} {bs cs : List Nat} (h : Two Win w0 B a r v y n bs cs) (hc : Chg (fun _ => False) w0 w) : Trn Win w0 w B a r v y v y n bs cs := ⟨h.new S hc, hc.mono (fun _ f => f.elim), fun g e => .inl e, fun g e => .inl e⟩
theorem moved2 {w0 w : World} {v0 v v2 : Value} (hs : w0.heap.size ≤ w.heap.size) (h : Moved w0 v0 v) (h2 : Moved w v v2) : Moved w0 v0 v2 := fun g e => by
  rcases h2 g e with f | f
  · exact h g f
  · exact .inr (by omega)
theorem Trn.new (S : WinSpec Win) {w0 w w' : World} {B a r : Nat} {v0 y0 v y : Value} {n : Nat} {bs cs : List Nat} (h : Trn Win w0 w B a r v0 y0 v y n bs cs) (hc : Chg (fun _ => False) w w') : Trn Win w0 w' B a r v0 y0 v y n bs cs := ⟨h.two.new S hc, h.chg.trans hc (fun _ f => f.elim), h.mv, h.my⟩
theorem Trn.left (S : WinSpec Win) {w0 w w' : World} {B a r : Nat} {v0 y0 v y v2 : Value} {n : Nat} {bs cs bs2 : List Nat} (h : Trn Win w0 w B a r v0 y0 v y n bs cs) (hw : Win w' B a v2 n bs2) (hc : Chg (Foot a v) w w') (hm : Moved w v v2) : Trn Win w0 w' B a r v0 y0 v2 y n bs2 cs := by
  refine ⟨⟨hw, h.two.rw.keep hc (fun z f g => h.two.dis z g f), fun z f g => ?_⟩, h.chg.trans hc (fun z f => ?_), moved2 h.chg.size h.mv hm, h.my⟩
  · rcases f with f | f
    · exact h.two.dis z (.inl f) g
    · rcases hm z f with e | e
      · exact h.two.dis z (.inr e) g
      · have := (h.two.rw.lt g).2
        omega
  · rcases f with f | f
    · exact .inl (.inl (.inl f))
    · rcases h.mv z f with e | e
      · exact .inl (.inl (.inr e))
      · exact .inr e
theorem Trn.right (S : WinSpec Win) {w0 w w' : World} {B a r : Nat} {v0 y0 v y y2 : Value} {n : Nat} {bs cs cs2 : List Nat} (h : Trn Win w0 w B a r v0 y0 v y n bs cs) (hw : Rw w' B r y2 n cs2) (hc : Chg (Foot r y) w w') (hm : Moved w y y2) : Trn Win w0 w' B a r v0 y0 v y2 n bs cs2 := by
  refine ⟨⟨S.keep h.two.win hc (fun z f g => h.two.dis z f g), hw, fun z g f => ?_⟩, h.chg.trans hc (fun z f => ?_), h.mv, moved2 h.chg.size h.my hm⟩
  · rcases f with f | f
    · exact h.two.dis z g (.inl f)
    · rcases hm z f with e | e
      · exact h.two.dis z g (.inr e)
      · have := (S.lt h.two.win z g).2
        omega
  · rcases f with f | f
    · exact .inl (.inr (.inl f))
    · rcases h.my z f with e | e
      · exact .inl (.inr (.inr e))
      · exact .inr e
theorem Two.missL (S : WinSpec Win) {w : World} {B a r : Nat} {v y : Value} {n : Nat} {bs cs : List Nat} (h : Two Win w B a r v y n bs cs) {g : Nat} {cl : Array Value} {t : TypeId} (hb : w.heap[g]? = some (.cells cl t (0, 0))) (h1 : t ≠ 61) (h2 : t ≠ 5) : ¬ Foot a v g := fun f => by
  rcases f with f | f
  · obtain ⟨c2, hb2⟩ := S.blk h.win
    rw [← f] at hb2
    exact ty_ne hb hb2 h1
  · obtain ⟨c2, hb2⟩ := S.ring h.win g f
    exact ty_ne hb hb2 h2
theorem Two.missR {w : World} {B a r : Nat} {v y : Value} {n : Nat} {bs cs : List Nat} (h : Two Win w B a r v y n bs cs) {g : Nat} {cl : Array Value} {t : TypeId} (hb : w.heap[g]? = some (.cells cl t (0, 0))) (h2 : t ≠ 5) (h3 : t ≠ 64) : ¬ Foot r y g := fun f => by
  rcases f with f | f
  · have hb2 := h.rw.blk
    rw [← f] at hb2
    exact ty_ne hb hb2 h3
  · obtain ⟨cur, hcur⟩ := owns_blk h.rw.own f
    exact ty_ne hb hcur h2
/-- The pair and the step in their boxes. -/
structure Bxs (w : World) (P a r : Nat) (kd wi dist nn : Int) (ad : Option Addr) (len cap : Nat) : Prop where
  pb : w.heap[P]? = some (.cells #[.pointer (some ⟨a, 0, none⟩), .pointer (some ⟨r, 0, none⟩)] 48 (0, 0))
  ob : w.heap[P + 1]? = some (.cells #[.int .i64 kd, .int .i64 wi, .int .i64 dist, .int .i64 nn, .slice ad len cap] 37 (0, 0))
theorem Bxs.new {w w' : World} {P a r : Nat} {kd wi dist nn : Int} {ad : Option Addr} {len cap : Nat} (h : Bxs w P a r kd wi dist nn ad len cap) (hc : Chg (fun _ => False) w w') : Bxs w' P a r kd wi dist nn ad len cap := ⟨blk_keep h.pb hc (fun f => f), blk_keep h.ob hc (fun f => f)⟩
theorem Bxs.left (S : WinSpec Win) {w w' : World} {P : Nat} {kd wi dist nn : Int} {ad : Option Addr} {len cap : Nat} {B a r : Nat} {v y : Value} {n : Nat} {bs cs : List Nat} (h : Bxs w P a r kd wi dist nn ad len cap) (t : Two Win w B a r v y n bs cs) (hc : Chg (Foot a v) w w') : Bxs w' P a r kd wi dist nn ad len cap :=
  ⟨blk_keep h.pb hc (t.missL S h.pb (by decide) (by decide)), blk_keep h.ob hc (t.missL S h.ob (by decide) (by decide))⟩
theorem Bxs.right {w w' : World} {P : Nat} {kd wi dist nn : Int} {ad : Option Addr} {len cap : Nat} {B a r : Nat} {v y : Value} {n : Nat} {bs cs : List Nat} (h : Bxs w P a r kd wi dist nn ad len cap) (t : Two Win w B a r v y n bs cs) (hc : Chg (Foot r y) w w') : Bxs w' P a r kd wi dist nn ad len cap :=
  ⟨blk_keep h.pb hc (t.missR h.pb (by decide) (by decide)), blk_keep h.ob hc (t.missR h.ob (by decide) (by decide))⟩
theorem Bxs.cells {w : World} {P a r : Nat} {kd wi dist nn : Int} {ad : Option Addr} {len cap : Nat} (h : Bxs w P a r kd wi dist nn ad len cap) : w.cell? ⟨P, 0, none⟩ = some (.pointer (some ⟨a, 0, none⟩)) ∧ w.cell? ⟨P, 1, none⟩ = some (.pointer (some ⟨r, 0, none⟩)) ∧ w.cell? ⟨P + 1, 0, none⟩ = some (.int .i64 kd) ∧ w.cell? ⟨P + 1, 2, none⟩ = some (.int .i64 dist) ∧ w.cell? ⟨P + 1, 3, none⟩ = some (.int .i64 nn) ∧ w.cell? ⟨P + 1, 4, none⟩ = some (.slice ad len cap) :=
  ⟨by simp [World.cell?, h.pb], by simp [World.cell?, h.pb], by simp [World.cell?, h.ob], by simp [World.cell?, h.ob], by simp [World.cell?, h.ob], by simp [World.cell?, h.ob]⟩
theorem Bxs.make (w0 : World) (a r : Nat) (kd wi dist nn : Int) (ad : Option Addr) (len cap : Nat) : Bxs ((w0.alloc (.cells #[.pointer (some ⟨a, 0, none⟩), .pointer (some ⟨r, 0, none⟩)] 48)).alloc (.cells #[.int .i64 kd, .int .i64 wi, .int .i64 dist, .int .i64 nn, .slice ad len cap] 37)) w0.heap.size a r kd wi dist nn ad len cap ∧ Chg (fun _ => False) w0 ((w0.alloc (.cells #[.pointer (some ⟨a, 0, none⟩), .pointer (some ⟨r, 0, none⟩)] 48)).alloc (.cells #[.int .i64 kd, .int .i64 wi, .int .i64 dist, .int .i64 nn, .slice ad len cap] 37)) := by
  have cA := chg_one w0 (.cells #[.pointer (some ⟨a, 0, none⟩), .pointer (some ⟨r, 0, none⟩)] 48)
  have cB := chg_one (w0.alloc (.cells #[.pointer (some ⟨a, 0, none⟩), .pointer (some ⟨r, 0, none⟩)] 48)) (.cells #[.int .i64 kd, .int .i64 wi, .int .i64 dist, .int .i64 nn, .slice ad len cap] 37)
  have h2 := heap_alloc_last (w0.alloc (.cells #[.pointer (some ⟨a, 0, none⟩), .pointer (some ⟨r, 0, none⟩)] 48)) (.cells #[.int .i64 kd, .int .i64 wi, .int .i64 dist, .int .i64 nn, .slice ad len cap] 37)
  have eS : (w0.alloc (.cells #[.pointer (some ⟨a, 0, none⟩), .pointer (some ⟨r, 0, none⟩)] 48)).heap.size = w0.heap.size + 1 := by simp
  rw [eS] at h2
  exact ⟨⟨blk_keep (heap_alloc_last _ _) cB (fun f => f), h2⟩, chg_then cA cB⟩
set_option maxHeartbeats 4000000 in
set_option maxRecDepth 100000 in
theorem plays_last (S : WinSpec Win) (B a r : Nat) (v y : Value) (n : Nat) (bs : List Nat) (wi dist nn : Int) (ad : Option Addr) (len cap : Nat) (lv : Value) (w0 : World) (ht : Two Win w0 B a r v y n bs bs) (hl : bs.length ≤ 140737488355328) (hd : I64 dist) : Calls Try.prog 20 #[.agg #[.pointer (some ⟨a, 0, none⟩), .pointer (some ⟨r, 0, none⟩)], .agg #[.int .i64 3, .int .i64 wi, .int .i64 dist, .int .i64 nn, .slice ad len cap], lv] w0 fun e w' => e = .returned (.tuple #[lv, .bool true]) ∧ Trn Win w0 w' B a r v y v y n bs bs := by
  have hn := (S.nn ht.win).2.1
  obtain ⟨hbx, hcx⟩ := Bxs.make w0 a r 3 wi dist nn ad len cap
  obtain ⟨x0, x1, x2, x3, x4, x5⟩ := hbx.cells
  have HB : Hid (Bxs _ _ _ _ _ _ _ _ _ _ _) := hbx
  have HT : Hid (Trn Win w0 ((w0.alloc (.cells #[.pointer (some ⟨a, 0, none⟩), .pointer (some ⟨r, 0, none⟩)] 48)).alloc (.cells #[.int .i64 3, .int .i64 wi, .int .i64 dist, .int .i64 nn, .slice ad len cap] 37)) B a r v y v y n bs bs) := Trn.start S ht hcx
  have HC : Hid (Chg (fun _ => False) w0 ((w0.alloc (.cells #[.pointer (some ⟨a, 0, none⟩), .pointer (some ⟨r, 0, none⟩)] 48)).alloc (.cells #[.int .i64 3, .int .i64 wi, .int .i64 dist, .int .i64 nn, .slice ad len cap] 37))) := hcx
  clear hbx hcx ht
  go_enter Try.func20, Try.ntmps20
  go_wp2_with fail
  generalize (w0.alloc (.cells #[.pointer (some ⟨a, 0, none⟩), .pointer (some ⟨r, 0, none⟩)] 48)).alloc (.cells #[.int .i64 3, .int .i64 wi, .int .i64 dist, .int .i64 nn, .slice ad len cap] 37) = W at *
  obtain ⟨P, hP⟩ : ∃ P, w0.heap.size = P := ⟨_, rfl⟩
  have HP : Hid (w0.heap.size = P) := hP
  rw [hP] at HB x0 x1 x2 x3 x4 x5 ⊢
  clear hP
  clear HC
  refine (S.last B a v n bs dist _ HT.out.two.win (by omega) hd).mono ?_
  rintro z w1 ⟨h5, c1⟩
  have HT1 : Hid (Trn Win w0 w1 B a r v y v y n bs bs) := HT.out.new S c1
  have HB1 : Hid (Bxs w1 P a r 3 wi dist nn ad len cap) := HB.out.new c1
  clear c1 HT HB x0 x1 x2 x3 x4 x5
  obtain ⟨x0, x1, x2, x3, x4, x5⟩ := HB1.out.cells
  generalize hbb : backB bs dist.toNat = bk at *
  have HBK : Hid (backB bs dist.toNat = bk) := hbb
  clear hbb
  rcases h5 with ⟨hno, rfl⟩ | ⟨hyes, rfl⟩
  · have HNO : Hid (¬ Inw n bs dist) := hno
    clear hno
    go_wp2_with fail
    refine (rlast_any B r _ n bs dist _ HT1.out.two.rw hn hl).mono ?_
    rintro z w2 ⟨⟨_, rfl⟩ | ⟨h6, _⟩, c2⟩
    rotate_left
    · exact absurd h6 HNO.out
    have HT2 : Hid (Trn Win w0 w2 B a r v y v y n bs bs) := HT1.out.new S c2
    have HB2 : Hid (Bxs w2 P a r 3 wi dist nn ad len cap) := HB1.out.new c2
    clear c2 HT1 HB1 x0 x1 x2 x3 x4 x5
    obtain ⟨x0, x1, x2, x3, x4, x5⟩ := HB2.out.cells
    go_wp2
    go_ret2
    exact ⟨rfl, HT2.out⟩
  · have HYES : Hid (Inw n bs dist) := hyes
    clear hyes
    go_wp2_with fail
    refine (rlast_any B r _ n bs dist _ HT1.out.two.rw hn hl).mono ?_
    rintro z w2 ⟨⟨h6, _⟩ | ⟨_, rfl⟩, c2⟩
    · exact absurd HYES.out h6
    rw [HBK.out]
    have HT2 : Hid (Trn Win w0 w2 B a r v y v y n bs bs) := HT1.out.new S c2
    have HB2 : Hid (Bxs w2 P a r 3 wi dist nn ad len cap) := HB1.out.new c2
    clear c2 HT1 HB1 x0 x1 x2 x3 x4 x5
    obtain ⟨x0, x1, x2, x3, x4, x5⟩ := HB2.out.cells
    go_wp2
    go_ret2
    exact ⟨rfl, HT2.out⟩
set_option maxHeartbeats 4000000 in
set_option maxRecDepth 100000 in
theorem plays_ask (S : WinSpec Win) (B a r : Nat) (v y : Value) (n : Nat) (bs : List Nat) (wi dist nn : Int) (ad : Option Addr) (len cap : Nat) (lv : Value) (w0 : World) (ht : Two Win w0 B a r v y n bs bs) (hl : bs.length ≤ 140737488355328) : Calls Try.prog 20 #[.agg #[.pointer (some ⟨a, 0, none⟩), .pointer (some ⟨r, 0, none⟩)], .agg #[.int .i64 4, .int .i64 wi, .int .i64 dist, .int .i64 nn, .slice ad len cap], lv] w0 fun e w' => e = .returned (.tuple #[lv, .bool true]) ∧ Trn Win w0 w' B a r v y v y n bs bs := by
  have hn := (S.nn ht.win).2.1
  obtain ⟨ya, yc, hy⟩ := form1 ht.rw.own
  subst hy
  obtain ⟨L, hL⟩ : ∃ L, bs.length = L := ⟨_, rfl⟩
  obtain ⟨F, hF⟩ : ∃ F, fullN n bs = F := ⟨_, rfl⟩
  have HL : Hid (bs.length = L) := hL
  have HF : Hid (fullN n bs = F) := hF
  have hFn : (F : Int) ≤ 4294967295 := by rw [← hF]; unfold fullN; omega
  have hL9 : (L : Int) ≤ 140737488355328 := by omega
  obtain ⟨hbx, hcx⟩ := Bxs.make w0 a r 4 wi dist nn ad len cap
  obtain ⟨x0, x1, x2, x3, x4, x5⟩ := hbx.cells
  have HB : Hid (Bxs _ _ _ _ _ _ _ _ _ _ _) := hbx
  have HT : Hid (Trn Win w0 ((w0.alloc (.cells #[.pointer (some ⟨a, 0, none⟩), .pointer (some ⟨r, 0, none⟩)] 48)).alloc (.cells #[.int .i64 4, .int .i64 wi, .int .i64 dist, .int .i64 nn, .slice ad len cap] 37)) B a r v (.slice ya bs.length yc) v (.slice ya bs.length yc) n bs bs) := Trn.start S ht hcx
  have HC : Hid (Chg (fun _ => False) w0 ((w0.alloc (.cells #[.pointer (some ⟨a, 0, none⟩), .pointer (some ⟨r, 0, none⟩)] 48)).alloc (.cells #[.int .i64 4, .int .i64 wi, .int .i64 dist, .int .i64 nn, .slice ad len cap] 37))) := hcx
  clear hbx hcx ht
  go_enter Try.func20, Try.ntmps20
  have q0 := cell0 HT.out.two.rw.blk
  have q1 := cell1 HT.out.two.rw.blk
  rw [hL] at q1 HT ⊢
  clear hL hF
  go_upto_region 25 with fail
  generalize (w0.alloc (.cells #[.pointer (some ⟨a, 0, none⟩), .pointer (some ⟨r, 0, none⟩)] 48)).alloc (.cells #[.int .i64 4, .int .i64 wi, .int .i64 dist, .int .i64 nn, .slice ad len cap] 37) = W at *
  obtain ⟨P, hP⟩ : ∃ P, w0.heap.size = P := ⟨_, rfl⟩
  have HP : Hid (w0.heap.size = P) := hP
  rw [hP] at HB x0 x1 x2 x3 x4 x5 ⊢
  clear hP
  clear HC
  have HQS : Hid (∀ k, Calls Try.prog 12 #[.pointer (some ⟨a, 0, none⟩)] (W.drewN k) fun e w'' => e = .returned (.int .i64 (n : Int)) ∧ ∃ m, w'' = W.drewN m) := fun k => quiet_size S HT.out.two.win
  have HQF : Hid (∀ k, Calls Try.prog 11 #[.pointer (some ⟨a, 0, none⟩)] (W.drewN k) fun e w'' => e = .returned (.int .i64 (F : Int)) ∧ ∃ m, w'' = W.drewN m) := fun k => by have h9 := quiet_full S (k := k) HT.out.two.win; rw [HF.out] at h9; exact h9
  have HQP : Hid (∀ k, Calls Try.prog 13 #[.pointer (some ⟨a, 0, none⟩)] (W.drewN k) fun e w'' => e = .returned (.int .i64 (L : Int)) ∧ ∃ m, w'' = W.drewN m) := fun k => by have h9 := quiet_pos S (k := k) HT.out.two.win; rw [HL.out] at h9; exact h9
  have HQR : Hid (∀ k, Calls Try.prog 33 #[.pointer (some ⟨r, 0, none⟩)] (W.drewN k) fun e w'' => e = .returned (.int .i64 (F : Int)) ∧ ∃ m, w'' = W.drewN m) := fun k => by have h9 := quiet_rfull (k := k) HT.out.two.rw hn hl; rw [HF.out] at h9; exact h9
  go_quiet (first | (go_at_call 12; exact HQS.out _) | (go_at_call 11; exact HQF.out _) | (go_at_call 13; exact HQP.out _) | (go_at_call 33; exact HQR.out _))
  have HT2 := HT.out.new S (chg_drewN W nq)
  clear HQS HQF HQP HQR q0 q1 HT HB x0 x1 x2 x3 x4 x5
  generalize W.drewN nq = W2 at *
  go_wp2
  go_ret2
  exact ⟨rfl, HT2⟩
set_option maxHeartbeats 4000000 in
set_option maxRecDepth 100000 in
theorem plays_clear (S : WinSpec Win) (B a r : Nat) (v y : Value) (n : Nat) (bs : List Nat) (wi dist nn : Int) (ad : Option Addr) (len cap : Nat) (lv : Value) (w0 : World) (ht : Two Win w0 B a r v y n bs bs) (hl : bs.length ≤ 140737488355328) (hB : B ≤ w0.heap.size) : Calls Try.prog 20 #[.agg #[.pointer (some ⟨a, 0, none⟩), .pointer (some ⟨r, 0, none⟩)], .agg #[.int .i64 5, .int .i64 wi, .int .i64 dist, .int .i64 nn, .slice ad len cap], lv] w0 fun e w' => e = .returned (.tuple #[lv, .bool true]) ∧ ∃ v' y', Trn Win w0 w' B a r v y v' y' n [] [] := by
  obtain ⟨hbx, hcx⟩ := Bxs.make w0 a r 5 wi dist nn ad len cap
  obtain ⟨x0, x1, x2, x3, x4, x5⟩ := hbx.cells
  have HB : Hid (Bxs _ _ _ _ _ _ _ _ _ _ _) := hbx
  have HT : Hid (Trn Win w0 ((w0.alloc (.cells #[.pointer (some ⟨a, 0, none⟩), .pointer (some ⟨r, 0, none⟩)] 48)).alloc (.cells #[.int .i64 5, .int .i64 wi, .int .i64 dist, .int .i64 nn, .slice ad len cap] 37)) B a r v y v y n bs bs) := Trn.start S ht hcx
  have HC : Hid (Chg (fun _ => False) w0 ((w0.alloc (.cells #[.pointer (some ⟨a, 0, none⟩), .pointer (some ⟨r, 0, none⟩)] 48)).alloc (.cells #[.int .i64 5, .int .i64 wi, .int .i64 dist, .int .i64 nn, .slice ad len cap] 37))) := hcx
  clear hbx hcx ht
  go_enter Try.func20, Try.ntmps20
  go_wp2_with fail
  generalize (w0.alloc (.cells #[.pointer (some ⟨a, 0, none⟩), .pointer (some ⟨r, 0, none⟩)] 48)).alloc (.cells #[.int .i64 5, .int .i64 wi, .int .i64 dist, .int .i64 nn, .slice ad len cap] 37) = W at *
  obtain ⟨P, hP⟩ : ∃ P, w0.heap.size = P := ⟨_, rfl⟩
  have HP : Hid (w0.heap.size = P) := hP
  rw [hP] at HB x0 x1 x2 x3 x4 x5 ⊢
  clear hP
  refine (S.clear B a v n bs _ HT.out.two.win (Nat.le_trans hB HC.out.size)).mono ?_
  rintro z w1 ⟨rfl, v1, hw1, c1, m1⟩
  have HT1 : Hid (Trn Win w0 w1 B a r v y v1 y n [] bs) := HT.out.left S hw1 c1 m1
  have HB1 : Hid (Bxs w1 P a r 5 wi dist nn ad len cap) := HB.out.left S HT.out.two c1
  clear c1 m1 hw1 HT HB HC x0 x1 x2 x3 x4 x5
  obtain ⟨x0, x1, x2, x3, x4, x5⟩ := HB1.out.cells
  go_wp2_with fail
  refine (rclear_any B r y n bs _ HT1.out.two.rw).mono ?_
  rintro z w2 ⟨rfl, hr2, c2⟩
  have HT2 : Hid (Trn Win w0 w2 B a r v y v1 (.slice none 0 0) n [] []) := HT1.out.right S hr2 c2 (fun g e => by cases e)
  clear c2 hr2 HT1 HB1 x0 x1 x2 x3 x4 x5
  go_wp2
  go_ret2
  exact ⟨rfl, v1, _, HT2.out⟩
set_option maxHeartbeats 4000000 in
set_option maxRecDepth 100000 in
theorem plays_other (S : WinSpec Win) (B a r : Nat) (v y : Value) (n : Nat) (bs : List Nat) (kd wi dist nn : Int) (ad : Option Addr) (len cap : Nat) (lv : Value) (w0 : World) (ht : Two Win w0 B a r v y n bs bs) (hl : bs.length ≤ 140737488355328) (h1 : kd ≠ 1) (h2 : kd ≠ 2) (h3 : kd ≠ 3) (h4 : kd ≠ 4) (h5 : kd ≠ 5) : Calls Try.prog 20 #[.agg #[.pointer (some ⟨a, 0, none⟩), .pointer (some ⟨r, 0, none⟩)], .agg #[.int .i64 kd, .int .i64 wi, .int .i64 dist, .int .i64 nn, .slice ad len cap], lv] w0 fun e w' => e = .returned (.tuple #[lv, .bool true]) ∧ Trn Win w0 w' B a r v y v y n bs bs := by
  have d1 : decide (kd = 1) = false := by simp; omega
  have e1 : (kd == 1) = false := by simp; omega
  have d2 : decide (kd = 2) = false := by simp; omega
  have e2 : (kd == 2) = false := by simp; omega
  have d3 : decide (kd = 3) = false := by simp; omega
  have e3 : (kd == 3) = false := by simp; omega
  have d4 : decide (kd = 4) = false := by simp; omega
  have e4 : (kd == 4) = false := by simp; omega
  have d5 : decide (kd = 5) = false := by simp; omega
  have e5 : (kd == 5) = false := by simp; omega
  obtain ⟨hbx, hcx⟩ := Bxs.make w0 a r kd wi dist nn ad len cap
  obtain ⟨x0, x1, x2, x3, x4, x5⟩ := hbx.cells
  have HB : Hid (Bxs _ _ _ _ _ _ _ _ _ _ _) := hbx
  have HT : Hid (Trn Win w0 ((w0.alloc (.cells #[.pointer (some ⟨a, 0, none⟩), .pointer (some ⟨r, 0, none⟩)] 48)).alloc (.cells #[.int .i64 kd, .int .i64 wi, .int .i64 dist, .int .i64 nn, .slice ad len cap] 37)) B a r v y v y n bs bs) := Trn.start S ht hcx
  have HC : Hid (Chg (fun _ => False) w0 ((w0.alloc (.cells #[.pointer (some ⟨a, 0, none⟩), .pointer (some ⟨r, 0, none⟩)] 48)).alloc (.cells #[.int .i64 kd, .int .i64 wi, .int .i64 dist, .int .i64 nn, .slice ad len cap] 37))) := hcx
  clear hbx hcx ht
  go_enter Try.func20, Try.ntmps20
  clear h1 h2 h3 h4 h5
  go_wp2
  generalize (w0.alloc (.cells #[.pointer (some ⟨a, 0, none⟩), .pointer (some ⟨r, 0, none⟩)] 48)).alloc (.cells #[.int .i64 kd, .int .i64 wi, .int .i64 dist, .int .i64 nn, .slice ad len cap] 37) = W at *
  obtain ⟨P, hP⟩ : ∃ P, w0.heap.size = P := ⟨_, rfl⟩
  have HP : Hid (w0.heap.size = P) := hP
  rw [hP] at HB x0 x1 x2 x3 x4 x5 ⊢
  clear hP
  go_ret2
  exact ⟨rfl, HT.out⟩
end Go.Proofs.Ythgibmhbgfjkcaa
