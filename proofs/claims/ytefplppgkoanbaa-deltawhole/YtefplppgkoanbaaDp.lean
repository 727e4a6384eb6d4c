/- Two filters beside one another, their answers joined: what lies in memory; of no statement by itself. -/
import Derived.Test.YtefplppgkoanbaaDs
import Derived.Test.YtefplppgkoanbaaCt
namespace Go.Proofs.Ytefplppgkoanbaa
open Go.RowKit
set_option linter.unusedVariables false
set_option linter.unusedSimpArgs false
variable {Fi : World → Nat → Nat → (Nat → Prop) → Nat → Bool → List Nat → Prop}
def IntD (w : World) (ad : Option Addr) (l : List Int) : Prop := ∀ (k : Nat) (x : Int), l[k]? = some x → ∃ b off, ad = some ⟨b, off, none⟩ ∧ w.cell? ⟨b, off + k, none⟩ = some (.int .i64 x)
theorem IntD.new {w w' : World} {a : Option Addr} {l : List Int} (h : IntD w a l) (hc : Chg (fun _ => False) w w') : IntD w' a l := fun k y hk => by
  obtain ⟨b, off, e, hcell⟩ := h k y hk
  exact ⟨b, off, e, cell_chg hcell hc⟩
/-- The filters f and g, the lists u and v of their answers, and two more lists. -/
structure DcF (Fi : World → Nat → Nat → (Nat → Prop) → Nat → Bool → List Nat → Prop) (w0 w : World) (d : Nat) (F G : Nat → Prop) (f : Nat) (bf : Bool) (af : List Nat) (u : Value) (g : Nat) (bg : Bool) (ag : List Nat) (v x : Value) (X : List Nat) (y : Value) (Y : List Nat) : Prop where
  chg : Chg (fun _ => False) w0 w
  fi : Fi w w0.heap.size f F d bf af
  gi : Fi w w0.heap.size g G d bg ag
  fg : ∀ z, F z → ¬ G z
  ou : ByO w w0.heap.size u (De19.cd bf d af)
  ov : ByO w w0.heap.size v (De19.cd bg d ag)
  ox : ByO w w0.heap.size x X
  oy : ByO w w0.heap.size y Y
  nu : ∀ k, u.ownBlock = some k → ¬ F k ∧ ¬ G k
  nv : ∀ k, v.ownBlock = some k → ¬ F k ∧ ¬ G k
  nx : ∀ k, x.ownBlock = some k → ¬ F k ∧ ¬ G k
  ny : ∀ k, y.ownBlock = some k → ¬ F k ∧ ¬ G k
  uv : ∀ k, u.ownBlock = some k → v.ownBlock ≠ some k
  ux : ∀ k, u.ownBlock = some k → x.ownBlock ≠ some k
  uy : ∀ k, u.ownBlock = some k → y.ownBlock ≠ some k
  vx : ∀ k, v.ownBlock = some k → x.ownBlock ≠ some k
  vy : ∀ k, v.ownBlock = some k → y.ownBlock ≠ some k
def Dc (Fi : World → Nat → Nat → (Nat → Prop) → Nat → Bool → List Nat → Prop) (w0 w : World) (d f : Nat) (bf : Bool) (af : List Nat) (u : Value) (g : Nat) (bg : Bool) (ag : List Nat) (v x : Value) (X : List Nat) (y : Value) (Y : List Nat) : Prop := ∃ F G, DcF Fi w0 w d F G f bf af u g bg ag v x X y Y
theorem DcF.swap {w0 w : World} {d f g : Nat} {F G : Nat → Prop} {bf bg : Bool} {af ag X Y : List Nat} {u v x y : Value} (h : DcF Fi w0 w d F G f bf af u g bg ag v x X y Y) : DcF Fi w0 w d G F g bg ag v f bf af u x X y Y where
  chg := h.chg
  fi := h.gi
  gi := h.fi
  fg := fun z a b => h.fg z b a
  ou := h.ov
  ov := h.ou
  ox := h.ox
  oy := h.oy
  nu := fun k e => ⟨(h.nv k e).2, (h.nv k e).1⟩
  nv := fun k e => ⟨(h.nu k e).2, (h.nu k e).1⟩
  nx := fun k e => ⟨(h.nx k e).2, (h.nx k e).1⟩
  ny := fun k e => ⟨(h.ny k e).2, (h.ny k e).1⟩
  uv := fun k e e2 => h.uv k e2 e
  ux := h.vx
  uy := h.vy
  vx := h.ux
  vy := h.uy
theorem Dc.swap {w0 w : World} {d f g : Nat} {bf bg : Bool} {af ag X Y : List Nat} {u v x y : Value} (h : Dc Fi w0 w d f bf af u g bg ag v x X y Y) : Dc Fi w0 w d g bg ag v f bf af u x X y Y := by
  obtain ⟨F, G, h⟩ := h
  exact ⟨G, F, h.swap⟩
theorem byO_lt {w : World} {B : Nat} {v : Value} {bs : List Nat} (h : ByO w B v bs) {k : Nat} (e : v.ownBlock = some k) : B ≤ k ∧ k < w.heap.size := World.ownsRow.lt h k e
theorem DcF.new (S : DeltaSpec Fi) {w0 w w' : World} {d f g : Nat} {F G : Nat → Prop} {bf bg : Bool} {af ag X Y : List Nat} {u v x y : Value} (h : DcF Fi w0 w d F G f bf af u g bg ag v x X y Y) (c : Chg (fun _ => False) w w') : DcF Fi w0 w' d F G f bf af u g bg ag v x X y Y :=
  { h with chg := chg_then h.chg c, fi := S.keep h.fi c (fun _ _ f => f), gi := S.keep h.gi c (fun _ _ f => f), ou := h.ou.new c, ov := h.ov.new c, ox := h.ox.new c, oy := h.oy.new c }
theorem DcF.fin (S : DeltaSpec Fi) {w0 wa wb wc : World} {d f g : Nat} {F G F' : Nat → Prop} {bf bg : Bool} {af ag X Y p : List Nat} {u v x y u' : Value} {N : Nat} (h : DcF Fi w0 wa d F G f bf af u g bg ag v x X y Y)
    (hF' : Fi wb w0.heap.size f F' d bf (af ++ p)) (cb : Chg F wa wb) (hFF : ∀ z, F' z → F z ∨ wa.heap.size ≤ z)
    (hu' : wc.ownsRow w0.heap.size 5 1 u' N ((nums (De19.cd bf d af)).map (Value.int .u8) ++ (nums (De19.piece bf d af p)).map (Value.int .u8))) (hg : wb.grownBy wc u.ownBlock) (hm : Moved wb u u') : DcF Fi w0 wc d F' G f bf (af ++ p) u' g bg ag v x X y Y := by
  have cB : Chg (fun _ => False) w0 wb := h.chg.trans cb (fun z e => .inr (S.lt h.fi z e).1)
  have cc : Chg (fun _ => False) w0 wc := cB.grown hg (fun k e => .inr (byO_lt h.ou e).1)
  have cu : Chg (fun z => u.ownBlock = some z) wb wc := (Chg.refl _ wb).grown hg (fun k e => .inl e)
  have nF' : ∀ k, k < wa.heap.size → ¬ F k → ¬ F' k := fun k hk hF hz => by
    rcases hFF k hz with e | e
    · exact hF e
    · omega
  have nu' : ∀ k, u.ownBlock = some k → ¬ F' k := fun k e => nF' k (byO_lt h.ou e).2 (h.nu k e).1
  have keepO : ∀ {q : Value} {Q : List Nat}, ByO wa w0.heap.size q Q → (∀ k, q.ownBlock = some k → ¬ F k) → (∀ k, u.ownBlock = some k → q.ownBlock ≠ some k) → ByO wc w0.heap.size q Q := fun hq h1 h2 => ownsRow_keep (ownsRow_keep hq cb h1) cu (fun k e e2 => h2 k e2 e)
  have sz := cb.size
  have far : ∀ {q : Value} {Q : List Nat}, ByO wa w0.heap.size q Q → (∀ k, u.ownBlock = some k → q.ownBlock ≠ some k) → ∀ k, u'.ownBlock = some k → q.ownBlock ≠ some k := fun hq h2 k e e2 => by
    rcases hm k e with e3 | e3
    · exact h2 k e3 e2
    · have := (byO_lt hq e2).2
      omega
  exact {
    chg := cc
    fi := S.keep hF' cu (fun z hz e => nu' z e hz)
    gi := S.keep (S.keep h.gi cb (fun z hz e => h.fg z e hz)) cu (fun z hz e => (h.nu z e).2 hz)
    fg := fun z hz hG => by
      rcases hFF z hz with e | e
      · exact h.fg z e hG
      · have := (S.lt h.gi z hG).2
        omega
    ou := by rw [De19.piece_app]; exact byO_app hu'
    ov := keepO h.ov (fun k e => (h.nv k e).1) h.uv
    ox := keepO h.ox (fun k e => (h.nx k e).1) h.ux
    oy := keepO h.oy (fun k e => (h.ny k e).1) h.uy
    nu := fun k e => by
      rcases hm k e with e3 | e3
      · exact ⟨nu' k e3, (h.nu k e3).2⟩
      · exact ⟨fun hz => by have := (S.lt hF' k hz).2; omega, fun hz => by have := (S.lt h.gi k hz).2; omega⟩
    nv := fun k e => ⟨nF' k (byO_lt h.ov e).2 (h.nv k e).1, (h.nv k e).2⟩
    nx := fun k e => ⟨nF' k (byO_lt h.ox e).2 (h.nx k e).1, (h.nx k e).2⟩
    ny := fun k e => ⟨nF' k (byO_lt h.oy e).2 (h.ny k e).1, (h.ny k e).2⟩
    uv := far h.ov h.uv
    ux := far h.ox h.ux
    uy := far h.oy h.uy
    vx := h.vx
    vy := h.vy }
theorem run_cutZ_lh (ad : Option Addr) (m c l k : Nat) (w : World) (hk : l + k ≤ c) : (Instr.sliceAt 22 (.slice ad m c) (some (.int .i64 (l : Int))) (some (.int .i64 ((l : Int) + (k : Int)))) none).run Try.prog w = .ok (.slice (cutZ ad c l 1) k (c - l)) w := by
  rw [run_sliceAt_slice w 22 _ _ _ _ undBy, run_slice_lh w 22 ad m c undBy .i64 .i64 (l : Int) ((l : Int) + (k : Int)) (by omega) (by omega) (by omega), elemBy, sizeBy]
  unfold cutZ sliced
  have e1 : ((l : Int) + (k : Int)).toNat - l = k := by omega
  simp [Result.andThen, e1]
theorem nums_part (bs : List Nat) (l k : Nat) : ((nums bs).drop l).take k = nums ((bs.drop l).take k) := by simp [nums]
theorem row8_part {w : World} {ad : Option Addr} {m c : Nat} {bs : List Nat} (h : Row8 w ad m c (nums bs)) (hmc : m ≤ c) (l k : Nat) (hk : l + k ≤ m) : Row8 w (cutZ ad c l 1) k (c - l) (nums ((bs.drop l).take k)) := by
  have h9 := row8_cut h hmc l k (c - l) hk (by omega)
  rw [nums_part] at h9
  unfold cutZ
  rw [Nat.mul_one]
  exact h9
end Go.Proofs.Ytefplppgkoanbaa
