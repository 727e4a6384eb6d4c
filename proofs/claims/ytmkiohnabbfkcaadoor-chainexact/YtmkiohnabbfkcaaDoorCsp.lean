/- What is asked of the program's chains ('ChainSpec'); of no statement by itself. -/
import Derived.Test.YtmkiohnabbfkcaaDoorFla
import Derived.Test.YtmkiohnabbfkcaaDoorDic
namespace Go.Proofs.YtmkiohnabbfkcaaDoor
open Go.RowKit
open St12
set_option linter.unusedVariables false
set_option linter.unusedSimpArgs false
def Cfg.I (c : Cfg) : Prop := I64 c.ch ∧ I64 c.de ∧ I64 c.lc ∧ I64 c.lp ∧ I64 c.pb ∧ I64 c.di ∧ I64 c.bl ∧ I64 c.mo
def cfv (c : Cfg) : Value := .agg #[.int .i64 c.ch, .int .i64 c.de, .int .i64 c.lc, .int .i64 c.lp, .int .i64 c.pb, .int .i64 c.di, .int .i64 c.bl, .int .i64 c.mo]
structure ChainSpec (Tab : World → Prop) : Prop where
  keep : ∀ {w w'}, Tab w → Chg (fun _ => False) w w' → Tab w'
  put : ∀ (id : Nat) (a : Option Addr) (n c : Nat) (bs : List Nat) (w : World), Tab w → (⟨id, a, n, c, bs⟩ : FlV).ok w → Calls Tryd.prog 6 #[.agg #[.int .u64 (id : Int), .slice a n c]] w fun e w' => ∃ ov, e = .returned (.tuple #[ov, .int .i64 (Cn20.putF ⟨id, bs⟩).2]) ∧ ByO w' w.heap.size ov (Cn20.putF ⟨id, bs⟩).1 ∧ Chg (fun _ => False) w w'
  get : ∀ (ad : Option Addr) (n cp : Nat) (bs : List Nat) (w : World), Tab w → Row8 w ad n cp (nums bs) → Rc.Dig bs → n ≤ cp → n ≤ 140737488355328 → Calls Tryd.prog 12 #[.slice ad n cp] w fun e w' => ∃ pv, e = .returned (.tuple #[.agg #[.int .u64 ((Cn20.getF bs).1.id : Int), pv], .int .i64 ((Cn20.getF bs).2.1 : Int), .int .i64 (Cn20.getF bs).2.2]) ∧ ByO w' w.heap.size pv (Cn20.getF bs).1.ps ∧ Chg (fun _ => False) w w'
  read : ∀ (ad : Option Addr) (n c : Nat) (l : List FlV) (w : World), Tab w → FlL w ad l → l.length = n → n ≤ c → n ≤ 4398046511104 → Calls Tryd.prog 9 #[.slice ad n c] w fun e w' => e = .returned (.tuple #[.int .i64 (Cn20.readF (l.map FlV.f)).1, .int .i64 (Cn20.readF (l.map FlV.f)).2.1, .int .i64 (Cn20.readF (l.map FlV.f)).2.2]) ∧ Chg (fun _ => False) w w'
  legal : ∀ (c : Cfg) (w : World), Tab w → c.I → Calls Tryd.prog 17 #[cfv c] w fun e w' => e = .returned (.int .i64 (Cn20.legal c)) ∧ Chg (fun _ => False) w w'
  of : ∀ (c : Cfg) (w : World), Tab w → c.I → Calls Tryd.prog 15 #[cfv c] w fun e w' => ∃ ad n cp l, e = .returned (.tuple #[.slice ad n cp, .int .i64 (Cn20.ofF c).2]) ∧ FlL w' ad l ∧ l.length = n ∧ l.map FlV.f = (Cn20.ofF c).1 ∧ Chg (fun _ => False) w w'
end Go.Proofs.YtmkiohnabbfkcaaDoor
