/- A script of steps on windows in memory; of no statement by itself. -/
import Derived.Test.YthgibmhbgfjkcaaWf
namespace Go.Proofs.Ythgibmhbgfjkcaa
open Go.RowKit
set_option linter.unusedVariables false

variable {Win : World → Nat → Nat → Value → Nat → List Nat → Prop}
/-- A step: a call on a window. -/
structure Wop where
  kd : Int
  wi : Int
  dist : Int
  n : Int
  ad : Option Addr
  len : Nat
  cap : Nat
  bs : List Nat
structure Wop.ok (o : Wop) : Prop where
  hw : I64 o.wi
  hd : I64 o.dist
  hn : I64 o.n
  dig : Rc.Dig o.bs
  len : o.len ≤ 140737488351232
  cap : o.len ≤ o.cap
def OpsL (w : World) (a : Option Addr) (l : List Wop) : Prop := ∀ (k : Nat) (o : Wop), l[k]? = some o → o.ok ∧ Row8 w o.ad o.len o.cap (nums o.bs) ∧ ∃ b off, a = some ⟨b, off, none⟩ ∧ w.cell? ⟨b, off + k * 5, none⟩ = some (.int .i64 o.kd) ∧ w.cell? ⟨b, off + k * 5 + 1, none⟩ = some (.int .i64 o.wi) ∧ w.cell? ⟨b, off + k * 5 + 2, none⟩ = some (.int .i64 o.dist) ∧ w.cell? ⟨b, off + k * 5 + 3, none⟩ = some (.int .i64 o.n) ∧ w.cell? ⟨b, off + k * 5 + 4, none⟩ = some (.slice o.ad o.len o.cap)
theorem OpsL.new {w w' : World} {a : Option Addr} {l : List Wop} (h : OpsL w a l) (hc : Chg (fun _ => False) w w') : OpsL w' a l := fun k o hk => by
  obtain ⟨hI, hr, b, off, e, h0, h1, h2, h3, h4⟩ := h k o hk
  exact ⟨hI, Bk.row8_chg hr hc, b, off, e, cell_chg h0 hc, cell_chg h1 hc, cell_chg h2 hc, cell_chg h3 hc, cell_chg h4 hc⟩
/-- A step in its box. -/
def Box (w : World) (b : Nat) (o : Wop) : Prop := w.heap[b]? = some (.cells #[.int .i64 o.kd, .int .i64 o.wi, .int .i64 o.dist, .int .i64 o.n, .slice o.ad o.len o.cap] 37 (0, 0))
theorem Box.cells {w : World} {b : Nat} {o : Wop} (h : Box w b o) : w.cell? ⟨b, 0, none⟩ = some (.int .i64 o.kd) ∧ w.cell? ⟨b, 1, none⟩ = some (.int .i64 o.wi) ∧ w.cell? ⟨b, 2, none⟩ = some (.int .i64 o.dist) ∧ w.cell? ⟨b, 3, none⟩ = some (.int .i64 o.n) ∧ w.cell? ⟨b, 4, none⟩ = some (.slice o.ad o.len o.cap) := by
  unfold Box at h
  refine ⟨?_, ?_, ?_, ?_, ?_⟩ <;> simp [World.cell?, h]
theorem Box.new {w w' : World} {b : Nat} {o : Wop} (h : Box w b o) (hc : Chg (fun _ => False) w w') : Box w' b o := blk_keep h hc (fun f => f)
theorem Box.keep (S : WinSpec Win) {w w' : World} {b B a : Nat} {v : Value} {n : Nat} {bs : List Nat} {o : Wop} (h : Box w b o) (hw : Win w B a v n bs) (hc : Chg (Foot a v) w w') : Box w' b o := blk_keep h hc (fun f => by
  rcases f with f | f
  · obtain ⟨cs, hb⟩ := S.blk hw
    rw [← f] at hb
    exact ty_ne h hb (by decide)
  · obtain ⟨cs, hb⟩ := S.ring hw b f
    exact ty_ne h hb (by decide))
theorem quiet_full (S : WinSpec Win) {B a : Nat} {v : Value} {n : Nat} {bs : List Nat} {w : World} {k : Nat} (h : Win w B a v n bs) : Calls Try.prog 11 #[.pointer (some ⟨a, 0, none⟩)] (w.drewN k) fun e w'' => e = .returned (.int .i64 ((fullN n bs : Nat) : Int)) ∧ ∃ m, w'' = w.drewN m :=
  (S.full B a v n bs _ (S.new h (chg_drewN _ _))).mono fun e w' ⟨h1, j, h2⟩ => ⟨h1, k + j, by rw [h2]; simp⟩
end Go.Proofs.Ythgibmhbgfjkcaa
