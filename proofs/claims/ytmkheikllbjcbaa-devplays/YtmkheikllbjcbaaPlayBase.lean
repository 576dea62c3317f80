/-
  DevPlays: its relations, and the code of its switch, taken out of the function's body.
-/
import Derived.Test.YtmkheikllbjcbaaEj
import Derived.Deep.DeepCutAuto
import Derived.Deep.CutBlock
namespace Go.Proofs.Ytmkheikllbjcbaa
open Go.RowKit Go.Maps

def PlayRel (B b rb n m : Nat) (w : World) (g : Nat) (u : Value) (wr : World) : Prop :=
  ∃ t S, t ≤ n ∧ g = n - t ∧ u = .int .i64 ((t : Nat) : Int) ∧ Both B (fun _ => False) wr b rb S S ∧ S.med.length = m ∧ S.cnt ≤ t ∧ Below B w wr
def PlayPost (B b rb m t : Nat) (w wc : World) : Prop := ∃ S2, Both B (fun _ => False) wc b rb S2 S2 ∧ S2.med.length = m ∧ S2.cnt ≤ t + 1 ∧ Below B w wc
def LoseRel (B b rb n : Nat) (S : Dv) (w : World) (g : Nat) (u : Value) (wr : World) : Prop :=
  ∃ k, k ≤ n ∧ g = n - k ∧ u = .int .i64 ((k : Nat) : Int) ∧ Both B (fun _ => False) wr b rb { S.bare with lost := true } (S.lose k) ∧ Below B w wr
def ChkRel (S : Dv) (m : Nat) (g : Nat) (u19 u20 : Value) : Prop := ∃ k : Nat, k ≤ m ∧ g = m - k ∧ u20 = .int .i64 (k : Int) ∧ u19 = .int .i64 ((cntB S k : Nat) : Int)
structure PlayIn (w wx : World) (m len b rb t xb dq : Nat) (S : Dv) (x : ActV) : Prop where
  hg1 : 1 ≤ (m : Int)
  hg2 : (m : Int) ≤ 60
  h80 : len ≤ 80
  hlt : t < len
  hcnt : S.cnt ≤ t
  HMED : Hid (S.med.length = m)
  hn0 : -9223372036854775808 ≤ x.n
  hn1 : x.n ≤ 9223372036854775807
  hat0 : -9223372036854775808 ≤ x.at_
  hat1 : x.at_ ≤ 9223372036854775807
  b1 : Below w.heap.size w wx
  HB1 : Hid (Both w.heap.size (fun k => k = xb) wx b rb S S)
  HXB : Hid (wx.heap[xb]? = some (.cells #[.int .u8 (x.do_.toNat : Int), .int .i64 x.at_, .int .i64 x.n, .int .u8 (x.fill.toNat : Int), .slice x.ka x.kn x.kc] 32))
  hxs : xb < wx.heap.size
  y0 : wx.cell? ⟨xb, 0, none⟩ = some (.int .u8 (x.do_.toNat : Int))
  y1 : wx.cell? ⟨xb, 1, none⟩ = some (.int .i64 x.at_)
  y2 : wx.cell? ⟨xb, 2, none⟩ = some (.int .i64 x.n)
  y3 : wx.cell? ⟨xb, 3, none⟩ = some (.int .u8 (x.fill.toNat : Int))
  y4 : wx.cell? ⟨xb, 4, none⟩ = some (.slice x.ka x.kn x.kc)
  HKP : Hid (Ints (fun k => w.heap.size ≤ k) wx (.slice x.ka x.kn x.kc) x.keep)
  hdo : x.do_.toNat < 2 ^ 8
  hdq : (x.do_.toNat : Int) % 10 = (dq : Int)
  hdq10 : dq < 10
def blk2 : Code → Option Code
  | .block n c => if n == 2 then some (.block n c) else blk2 c
  | .loop c => blk2 c
  | .scope c => blk2 c
  | .seq a b => match blk2 a with
    | some c => some c
    | none => blk2 b
  | .cond _ a b => match blk2 a with
    | some c => some c
    | none => blk2 b
  | _ => none
noncomputable def swCode : Code := ((Try.f5.body.bind blk2).getD .skip)
end Go.Proofs.Ytmkheikllbjcbaa
