import PyProof.Rows.All
import Wide.All
import OpenK.AllK
import Wide.FinOn
import Lean
import PyProof.EqAt
import PyProof.EqKinds
import PyProof.TupleCall
import PyProof.EqLayable
import PySem.PyData
import PyProof.Rows.SortKey
import KE.KSortTup
import PyProof.ZipIter
import PyProof.Draws
import PyProof.ExcAttrAll.ValueError
import PyProof.ExcBaseAll.ValueError
import PyProof.NsDelKeeps
import PyProof.StrOps2
import PyProof.ListRange
import PyProof.FString
import PyProof.StrCalls3
import PyProof.Rows.StrJoin2
import PyProof.StrLaws
import PyProof.Fits
import PyProof.P3Eq
import PyProof.StrCalls2
import PyProof.TupleOfGen
import PySem.Challenge.RW_sandyard_k40_whole_trees
set_option Elab.async false
set_option linter.all false
set_option maxRecDepth 100000
namespace HT
def lexLt : List Int → List Int → Bool
  | [], [] => false
  | [], _ :: _ => true
  | _ :: _, [] => false
  | x :: xs, y :: ys => if x = y then lexLt xs ys else decide (x < y)
def sIx (n d : Nat) : Option Int → Nat
  | none => d
  | some v => if v < 0 then (v + (n : Int)).toNat else min v.toNat n
end HT
namespace L2
open PySem
abbrev Key := Sum Int Str
def CMul (i j : Int) : Prop := (-(2 ^ 64) < i ∧ i < 2 ^ 64) ∨ (-(2 ^ 64) < j ∧ j < 2 ^ 64)
def CPow (i j : Int) : Prop := 0 ≤ j ∧ j ≤ 1000000 ∧ i.natAbs < 2 ^ 64
def ixN (n : Nat) (i : Int) : Option Nat := if 0 ≤ i then (if i < n then some i.toNat else none) else if -(n : Int) ≤ i then some (i + n).toNat else none
def atI {α : Type} (xs : List α) (i : Int) : Option α := (ixN xs.length i).bind fun j => xs[j]?
end L2
namespace L2.Y
open PySem
abbrev D := PyData
def keyD : Key → D
  | .inl i => .int i
  | .inr x => .str x
def xF (ks : List Key) : D := .tuple (ks.map keyD)
inductive En where
  | val (d : D)
  | own (d : D)
abbrev Env' := List (Option En)
def gVar (i : Nat) : Env' → Option D := fun ρ => match ρ[i]? with
  | some (some (.val d)) => some d
  | _ => none
def qj (i : Nat) : Env' → Option D := fun ρ => match ρ[i]? with
  | some (some (.val d)) => some d
  | some (some (.own d)) => some d
  | _ => none
def g2 (h : D → D → Option D) (ga gb : Env' → Option D) : Env' → Option D := fun ρ => (ga ρ).bind fun x => (gb ρ).bind fun y => h x y
def g1 (h : D → Option D) (ga : Env' → Option D) : Env' → Option D := fun ρ => (ga ρ).bind h
def gA (h : List D → Option D) (ga : Env' → Option (List D)) : Env' → Option D := fun ρ => (ga ρ).bind h
def gNil : Env' → Option (List D) := fun _ => some []
def zc (ga : Env' → Option D) (gr : Env' → Option (List D)) : Env' → Option (List D) := fun ρ => (ga ρ).bind fun x => (gr ρ).bind fun xs => some (x :: xs)
def tupD (ds : List D) : Option D := if ds.length ≤ sizeLine then some (.tuple ds) else none
def gLst (g : Env' → Option (List D)) : Env' → Option (List D) := fun ρ => (g ρ).bind fun ds => if ds.length ≤ sizeLine then some ds else none
def frz (i : Nat) (ρ : Env') : Env' := match ρ[i]? with
  | some (some (.own d)) => ρ.set i (some (.val d))
  | _ => ρ
inductive Out where
  | nxt (ρ : Env')
  | ret (d : D)
  | brk (ρ : Env')
  | cnt (ρ : Env')
abbrev GS := Env' → Option Out
def sNil : GS := fun ρ => some (.nxt ρ)
def sSeq (g h : GS) : GS := fun ρ => (g ρ).bind fun
  | .nxt ρ' => h ρ'
  | o => some o
abbrev GT := D → Env' → Option Env'
def hName (i : Nat) : GT := fun d ρ => some (ρ.set i (some (.val d)))
def hNil : List D → Env' → Option Env' := fun ds ρ => match ds with
  | [] => some ρ
  | _ => none
def zy (h : GT) (k : List D → Env' → Option Env') : List D → Env' → Option Env' := fun ds ρ => match ds with
  | d :: r => (h d ρ).bind fun ρ' => k r ρ'
  | [] => none
def hTup (n : Nat) (k : List D → Env' → Option Env') : GT := fun d ρ => match d with
  | .tuple ds => if ds.length = n then k ds ρ else none
  | _ => none
def sAsg (h : GT) (ge : Env' → Option D) : GS := fun ρ => (ge ρ).bind fun d => (h d ρ).map Out.nxt
def sOwn (i : Nat) (ge : Env' → Option (List D)) : GS := fun ρ => (ge ρ).map fun ds => Out.nxt (ρ.set i (some (.own (.list ds))))
def ze0 : D → Option Bool
  | .none => some false
  | .bool b => some b
  | .int i => some (i != 0)
  | .str y => if y.length ≤ sizeLine then some ((y.length : Int) != 0) else none
  | .list ds => some (!ds.isEmpty)
  | .tuple ds => some (!ds.isEmpty)
  | .dict _ => none
def gTr (g : Env' → Option D) : Env' → Option Bool := fun ρ => (g ρ).bind ze0
def zbp : D → Option Bool
  | .bool b => some b
  | _ => none
def gBo (g : Env' → Option D) : Env' → Option Bool := fun ρ => (g ρ).bind zbp
def zbt (g h : Env' → Option Bool) : Env' → Option Bool := fun ρ => (g ρ).bind fun b => if b then h ρ else some false
def zcW (g h : Env' → Option D) : Env' → Option D := fun ρ => (gBo g ρ).bind fun b => if b then h ρ else some (.bool false)
def zee (g : Env' → Option D) : Env' → Option D := fun ρ => (gBo g ρ).map fun b => .bool !b
def gIf (c : Env' → Option Bool) (g h : Env' → Option D) : Env' → Option D := fun ρ => (c ρ).bind fun b => if b then g ρ else h ρ
def sIf (c : Env' → Option Bool) (g h : GS) : GS := fun ρ => (c ρ).bind fun b => if b then g ρ else h ρ
def zu (lo : Int) (n : Nat) : List D := (List.range n).map fun (i : Nat) => PyData.int (lo + i)
def seqD : D → Option (List D)
  | .tuple ds => some ds
  | .list ds => some ds
  | _ => none
def gIt (f : D → Option (List D)) (g : Env' → Option D) : Env' → Option (List D) := fun ρ => (g ρ).bind f
def wq (ds : List D) : Option (List D) := match ds with
  | [.int j] => if -(2 ^ 62) ≤ j ∧ j < 2 ^ 62 then some (zu 0 j.toNat) else none
  | _ => none
def wl (ds : List D) : Option (List D) := match ds with
  | [.int i, .int j] => if -(2 ^ 62) ≤ i ∧ i < 2 ^ 62 ∧ -(2 ^ 62) ≤ j ∧ j < 2 ^ 62 then some (zu i (j - i).toNat) else none
  | _ => none
def gItA (f : List D → Option (List D)) (g : Env' → Option (List D)) : Env' → Option (List D) := fun ρ => (g ρ).bind f
def forF (h : GT) (gb : GS) : List D → Env' → Option Out
  | [], ρ => some (.nxt ρ)
  | d :: ds, ρ => (h d ρ).bind fun ρ1 => (gb ρ1).bind fun
    | .nxt ρ2 => forF h gb ds ρ2
    | .cnt ρ2 => forF h gb ds ρ2
    | .brk ρ2 => some (.nxt ρ2)
    | .ret d => some (.ret d)
def sFor (g : Env' → Option (List D)) (h : GT) (gb : GS) : GS := fun ρ => (g ρ).bind fun ds => forF h gb ds ρ
def ownL (i : Nat) (ρ : Env') : Option (List D) := match ρ[i]? with
  | some (some (.own (.list ds))) => some ds
  | _ => none
def sApp (i : Nat) (ge : Env' → Option D) : GS := fun ρ => (ge ρ).bind fun d => (ownL i ρ).bind fun ds => if ds.length < sizeLine then some (.nxt (ρ.set i (some (.own (.list (ds ++ [d])))))) else none
def eqD (a b : D) : Option D := if SeqAt.shaped a && SeqAt.shaped b then some (.bool (PyData.eqv a b)) else none
def neD (a b : D) : Option D := if SeqAt.shaped a && SeqAt.shaped b then some (.bool (!PyData.eqv a b)) else none
def keyQ : D → Option Key
  | .int i => some (.inl i)
  | .str x => some (.inr x)
  | _ => none
def zfF : D → Option (List Key)
  | .tuple ds => ds.mapM keyQ
  | _ => none
def vn (kds : List (D × D)) (x : D) : Option D := (kds.find? fun p => PyData.eqv p.1 x).map (·.2)
def putD (kds : List (D × D)) (x y : D) : List (D × D) := if (kds.any fun p => PyData.eqv p.1 x) = true then kds.map (fun p => if PyData.eqv p.1 x = true then (p.1, y) else p) else kds ++ [(x, y)]
def hasD (x : D) : D → Option Bool
  | .list ds => if (ds.all SeqAt.shaped && SeqAt.shaped x) = true then some (ds.any fun y => PyData.eqv y x) else none
  | .tuple ds => if (ds.all SeqAt.shaped && SeqAt.shaped x) = true then some (ds.any fun y => PyData.eqv y x) else none
  | _ => none
def inD (x c : D) : Option D := (hasD x c).map PyData.bool
def ko (f : Int → Int → Option D) : D → D → Option D
  | .int i, .int j => f i j
  | _, _ => none
def subD := ko fun i j => some (.int (i - j))
def zdS := ko fun i j => if 0 < j ∧ j < 1073741824 then some (.int (i / j)) else none
def modD := ko fun i j => if 0 < j then some (.int (i % j)) else none
instance (i j : Int) : Decidable (CMul i j) := by unfold CMul; exact inferInstance
instance (i j : Int) : Decidable (CPow i j) := by unfold CPow; exact inferInstance
def mulI (i j : Int) : Option D := if CMul i j then some (.int (i * j)) else none
def repD (ds : List D) (k : Int) : Option (List D) := if -(2 ^ 63) ≤ k ∧ k < 2 ^ 63 ∧ ds.length * k.toNat ≤ sizeLine then some (List.replicate k.toNat ds).flatten else none
def addD : D → D → Option D
  | .int i, .int j => some (.int (i + j))
  | .str x, .str y => if x.length + y.length ≤ sizeLine then some (.str (x ++ y)) else none
  | .tuple xs, .tuple ys => if xs.length + ys.length ≤ sizeLine then some (.tuple (xs ++ ys)) else none
  | .list xs, .list ys => if xs.length + ys.length ≤ sizeLine then some (.list (xs ++ ys)) else none
  | _, _ => none
def negD : D → Option D
  | .int i => some (.int (-i))
  | _ => none
def yv (ds : List D) : Option (List Int) := ds.mapM fun
  | .int i => some i
  | _ => none
def cmpD (f : Int → Int → Bool) (g : List Int → List Int → Bool) : D → D → Option D
  | .int i, .int j => some (.bool (f i j))
  | .tuple xs, .tuple ys => (yv xs).bind fun is => (yv ys).bind fun js => some (.bool (g is js))
  | _, _ => none
def ltD := cmpD (fun i j => decide (i < j)) HT.lexLt
def ixD : D → D → Option D
  | .tuple ds, .int i => atI ds i
  | .list ds, .int i => atI ds i
  | .str z, .int i => if z.length ≤ sizeLine then (atI z.cps.toList i).map fun c => .str ⟨#[c]⟩ else none
  | _, _ => none
def lenD : List D → Option D
  | [.tuple ds] => some (.int ds.length)
  | [.list ds] => some (.int ds.length)
  | [.str z] => if z.length ≤ sizeLine then some (.int z.length) else none
  | _ => none
def minD : List D → Option D
  | [.int i, .int j] => some (.int (if j < i then j else i))
  | _ => none
def maxD : List D → Option D
  | [.int i, .int j] => some (.int (if j > i then j else i))
  | _ => none
def xj : List D → Option D
  | [.tuple ds] => some (.tuple ds)
  | [.list ds] => some (.tuple ds)
  | _ => none
def gItL (h : List D → Option (List D)) (g : Env' → Option (List D)) : Env' → Option (List D) := fun ρ => (g ρ).bind h
def capS {α : Type} (n : Nat) (caps : List Nat) (σ : List (Option α)) : List (Option α) := List.replicate n none ++ caps.map fun j => (σ[j]?).join
def xX (h : GT) (gt : Env' → Option Bool) (ge : Env' → Option D) (ρ : Env') : List D → Option (List D)
  | [] => some []
  | d :: ds => (h d ρ).bind fun ρ1 => (gt ρ1).bind fun b => if b then (ge ρ1).bind fun y => (xX h gt ge ρ ds).map (y :: ·) else xX h gt ge ρ ds
def qG (n : Nat) (caps : List Nat) (gi : Env' → Option (List D)) (h : GT) (gt : Env' → Option Bool) (ge : Env' → Option D) : Env' → Option (List D) := fun ρ => (gi ρ).bind fun ds => if ds.length ≤ sizeLine then xX h gt ge (capS n caps ρ) ds else none
def zeJ (i : Nat) (gi ge : Env' → Option D) : GS := fun ρ => (ge ρ).bind fun d => (gi ρ).bind fun k => match k with
  | .int j => (ownL i ρ).bind fun ds => (ixN ds.length j).bind fun n => some (.nxt (ρ.set i (some (.own (.list (ds.set n d))))))
  | _ => none
def qP (n : Nat) (ds : List D) : Env' := ds.map (fun d => some (.val d)) ++ List.replicate (n - ds.length) none
def qk (n : Nat) (g : GS) (ds : List D) : Option D := (g (qP n ds)).bind fun
  | .ret d => some d
  | .nxt _ => some .none
  | _ => none
def zS (n : Nat) (f : List D → Option D) : List D → Option D := fun ds => if ds.length = n then f ds else none
def zc3 : D → Bool
  | .bool _ => true
  | _ => false
def isI (f : D → Bool) : D → Option D
  | .dict _ => none
  | d => some (.bool (f d))
def sumD : List D → Option D
  | [.list ds] => (yv ds).map fun is => .int is.sum
  | [.tuple ds] => (yv ds).map fun is => .int is.sum
  | _ => none
def cutD (ds : List D) (lo hi : Option Int) : List D := (ds.drop (HT.sIx ds.length 0 lo)).take (HT.sIx ds.length ds.length hi - HT.sIx ds.length 0 lo)
abbrev GO := Env' → Option (Option Int)
def jN : GO := fun _ => some none
def jz (g : Env' → Option D) : GO := fun ρ => (g ρ).bind fun
  | .int i => some (some i)
  | _ => none
def slD (d : D) (lo hi : Option Int) : Option D := match d with
  | .tuple ds => some (.tuple (cutD ds lo hi))
  | .list ds => some (.list (cutD ds lo hi))
  | _ => none
def gSl (ga : Env' → Option D) (gl gh : GO) : Env' → Option D := fun ρ => (ga ρ).bind fun d => (gl ρ).bind fun lo => (gh ρ).bind fun hi => slD d lo hi
def qi : D → D → Option D
  | .int i, .int j => mulI i j
  | .list ds, .int k => (repD ds k).map PyData.list
  | .tuple ds, .int k => if 0 < k then (repD ds k).map PyData.tuple else none
  | _, _ => none
def tabT : D → Option (List (D × D))
  | .dict ((.none, .none) :: r) => some r
  | .dict ((.none, .int _) :: r) => some r
  | _ => none
def zeo (c x : D) : Option D := (tabT c).bind fun kds => (zfF x).bind fun _ => vn kds x
def ownD (i : Nat) (ρ : Env') : Option D := match ρ[i]? with
  | some (some (.own d)) => some d
  | _ => none
def kU (i : Nat) (gk ge : Env' → Option D) : GS := fun ρ => (ge ρ).bind fun d => (gk ρ).bind fun key => (ownD i ρ).bind fun dd => (tabT dd).bind fun kds => (zfF key).bind fun _ =>
  if kds.length < sizeLine then some (.nxt (ρ.set i (some (.own (.dict ((.none, .none) :: putD kds key d)))))) else none
def zeY (i : Nat) : GS := fun ρ => some (.nxt (ρ.set i (some (.own (.dict [(.none, .none)])))))
def scrD (ds : List D) : D := .dict ((.none, .bool true) :: ds.map fun d => (.none, d))
def scrQ : D → Option (List D)
  | .dict ((.none, .bool true) :: r) => some (r.map (·.2))
  | _ => none
def ixS (c i : D) : Option D := (scrQ c).bind fun ds => match i with
  | .int j => atI ds j
  | _ => none
def lenS : List D → Option D
  | [c] => (scrQ c).map fun ds => .int ds.length
  | _ => none
def insL (x : List Int) : List (List Int) → List (List Int)
  | [] => [x]
  | y :: r => if HT.lexLt y x = true then y :: insL x r else x :: y :: r
def qx : List (List Int) → List (List Int)
  | [] => []
  | x :: r => insL x (qx r)
def xm : D → Option (List Int)
  | .tuple ds => (yv ds).bind fun is => if is = [] then none else some is
  | _ => none
def zbY (ds : List D) : Option (List D) := (ds.mapM xm).bind fun ks => if ks.length < 64 then some ((qx ks).map fun k => .tuple (k.map PyData.int)) else none
def vN : List D → Option (List D)
  | [.list ds] => zbY ds
  | [.tuple ds] => zbY ds
  | _ => none
def frzT (i : Nat) (ρ : Env') : Env' := match ρ[i]? with
  | some (some (.own (.dict ((.none, .none) :: r)))) => ρ.set i (some (.val (.dict ((.none, .int 0) :: r))))
  | _ => ρ
def ze5 : D → Option (List D)
  | .dict ((.none, .int _) :: r) => some (r.map (·.1))
  | _ => none
def zcf (i : Nat) (ge : Env' → Option (List D)) : GS := fun ρ => (ge ρ).map fun ds => Out.nxt (ρ.set i (some (.val (.list ds))))
def gK (d : D) : Env' → Option D := fun _ => some d
def gLs (g : Env' → Option (List D)) : Env' → Option D := fun ρ => (g ρ).map PyData.list
def xQ : Env' → Option Bool := fun _ => some true
def sRet (g : Env' → Option D) : GS := fun ρ => (g ρ).map Out.ret
def sFrz (i : Nat) (g : GS) : GS := fun ρ => g (frz i ρ)
def zg3 (i : Nat) (g : GS) : GS := fun ρ => g (frzT i ρ)
end L2.Y
namespace L2.Y
open PySem
def qu : Nat → List D → List D
  | _, [] => []
  | i, d :: ds => .tuple [.int i, d] :: qu (i + 1) ds
def zfW : List D → Option (List D)
  | [.tuple ds] => some (qu 0 ds)
  | [.list ds] => some (qu 0 ds)
  | _ => none
def intOfD : List D → Option D
  | [.bool b] => some (.int (if b then 1 else 0))
  | [.int i] => some (.int i)
  | _ => none
end L2.Y
namespace L2.Y
open PySem
end L2.Y
namespace L2.Y
open PySem
end L2.Y
namespace L2.Y
open PySem PySem.Builtin.Str
end L2.Y
namespace L2.Y
open PySem
def zfv (g : Env' → Option (List D)) : Env' → Option D := fun ρ => (g ρ).bind fun ds => if ds.length ≤ sizeLine then some (.tuple ds) else none
def zdL : D → Option (List Int)
  | .tuple [.int a, .int b] => some [a, b]
  | _ => none
def vz (m : Nat) : D → Option (List Int)
  | .tuple [.tuple ps, .int w] => if ps.length = m then (ps.mapM zdL).map fun ks => ks.flatten ++ [w] else none
  | _ => none
def prsD : List Int → List D
  | a :: b :: r => .tuple [.int a, .int b] :: prsD r
  | _ => []
def jO (k : List Int) : D := .tuple [.tuple (prsD k.dropLast), .int (k.getLast?.getD 0)]
def zeu (m : Nat) (ds : List D) : Option (List D) := (ds.mapM (vz m)).bind fun ks => if ks.length < 64 then some ((qx ks).map jO) else none
def xB : List D → Option (List D)
  | [.list []] => some []
  | [.list (.tuple [.tuple ps, .int w] :: ds)] => zeu ps.length (.tuple [.tuple ps, .int w] :: ds)
  | _ => none
end L2.Y
namespace L2.Y
open PySem
theorem qe {h : GT} {gb : GS} (P : Nat → Env' → Prop) : ∀ (ds : List D) (i : Nat) (ρ : Env'), P i ρ → (∀ k d ρ, ds[k]? = some d → P (i + k) ρ → ∃ ρ1 ρ2, h d ρ = some ρ1 ∧ gb ρ1 = some (.nxt ρ2) ∧ P (i + k + 1) ρ2) → ∃ ρ', forF h gb ds ρ = some (.nxt ρ') ∧ P (i + ds.length) ρ'
  | [], i, ρ, h0, _ => ⟨ρ, rfl, h0⟩
  | d :: ds, i, ρ, h0, step => by
    obtain ⟨ρ1, ρ2, e1, e2, h2⟩ := step 0 d ρ rfl h0
    obtain ⟨ρ', e3, h3⟩ := qe P ds (i + 1) ρ2 h2 (fun k d' ρ' hk hp => by
      have := step (k + 1) d' ρ' (by simpa using hk) (by rw [show i + (k + 1) = i + 1 + k by omega]; exact hp)
      rw [show i + (k + 1) + 1 = i + 1 + k + 1 by omega] at this
      exact this)
    refine ⟨ρ', ?_, by rw [List.length_cons, show i + (ds.length + 1) = i + 1 + ds.length by omega]; exact h3⟩
    show (h d ρ).bind _ = _
    rw [e1, Option.bind_some, e2, Option.bind_some]
    exact e3
theorem vj {h : GT} {gt : Env' → Option Bool} {ge : Env' → Option D} {ρ : Env'} (p : D → Bool) (f : D → D) : ∀ (ds : List D), (∀ d ∈ ds, ∃ ρ1, h d ρ = some ρ1 ∧ gt ρ1 = some (p d) ∧ (p d = true → ge ρ1 = some (f d))) → xX h gt ge ρ ds = some ((ds.filter p).map f)
  | [], _ => rfl
  | d :: ds, hh => by
    obtain ⟨ρ1, e1, e2, e3⟩ := hh d List.mem_cons_self
    have ih := vj p f ds fun d' hd => hh d' (List.mem_cons_of_mem _ hd)
    show (h d ρ).bind _ = _
    rw [e1, Option.bind_some, e2, Option.bind_some]
    cases q : p d with
    | true => simp only [if_true]; rw [e3 q, Option.bind_some, ih, List.filter_cons_of_pos q]; rfl
    | false => simp only [Bool.false_eq_true, if_false]; rw [ih, List.filter_cons_of_neg (by simp [q])]
theorem zck {h : GT} {ge : Env' → Option D} {ρ : Env'} (f : D → D) (ds : List D) (hh : ∀ d ∈ ds, ∃ ρ1, h d ρ = some ρ1 ∧ ge ρ1 = some (f d)) : xX h (fun _ => some true) ge ρ ds = some (ds.map f) := by
  rw [vj (fun _ => true) f ds fun d hd => let ⟨ρ1, e1, e2⟩ := hh d hd; ⟨ρ1, e1, rfl, fun _ => e2⟩]
  rw [List.filter_eq_self.mpr (fun _ _ => rfl)]
theorem zbv {lo : Int} {n : Nat} {d : D} (h : d ∈ zu lo n) : ∃ k : Nat, k < n ∧ d = .int (lo + k) := by
  unfold zu at h
  obtain ⟨k, hk, rfl⟩ := List.mem_map.mp h
  exact ⟨k, List.mem_range.mp hk, rfl⟩
theorem qv {lo : Int} {n k : Nat} {d : D} (h : (zu lo n)[k]? = some d) : k < n ∧ d = .int (lo + k) := by
  unfold zu at h
  rw [List.getElem?_map] at h
  obtain ⟨j, hj, rfl⟩ := Option.map_eq_some_iff.mp h
  have := List.getElem?_eq_some_iff.mp hj
  obtain ⟨h1, h2⟩ := this
  simp at h1 h2
  subst h2
  exact ⟨h1, rfl⟩
theorem jT (lo : Int) (n : Nat) : (zu lo n).length = n := by simp [zu]
theorem zb1 (ds : List D) : scrQ (scrD ds) = some ds := by
  show some ((ds.map fun d => ((.none : D), d)).map (·.2)) = some ds
  rw [List.map_map]
  exact congrArg some (List.map_id ds)
theorem xa (i : Int) : SeqAt.shaped (.int i) = true := by simp [SeqAt.shaped, PyData.canLay0, PyData.depth]
theorem wJ (i : Bool) : SeqAt.shaped (.bool i) = true := by simp [SeqAt.shaped, PyData.canLay0, PyData.depth]
theorem xZ (i j : Int) : eqD (.int i) (.int j) = some (.bool (decide (i = j))) := by
  simp only [eqD, xa, PyData.eqv]
  by_cases q : i = j <;> simp [q]
theorem zc8 (i j : Int) : neD (.int i) (.int j) = some (.bool (!decide (i = j))) := by
  simp only [neD, xa, PyData.eqv]
  by_cases q : i = j <;> simp [q]
theorem zD (i j : Int) : addD (.int i) (.int j) = some (.int (i + j)) := rfl
theorem ve (i j : Int) : subD (.int i) (.int j) = some (.int (i - j)) := rfl
theorem zd4 (i : Int) : negD (.int i) = some (.int (-i)) := rfl
theorem zJ {i j : Int} (h : 0 < j) : modD (.int i) (.int j) = some (.int (i % j)) := if_pos h
theorem zcO {i j : Int} (h : 0 < j) (h2 : j < 1073741824) : zdS (.int i) (.int j) = some (.int (i / j)) := if_pos ⟨h, h2⟩
theorem qL {i j : Int} (h1 : -(2 ^ 64) < i) (h2 : i < 2 ^ 64) : qi (.int i) (.int j) = some (.int (i * j)) := if_pos (.inl ⟨h1, h2⟩)
theorem jV {i j : Int} (h1 : -(2 ^ 64) < j) (h2 : j < 2 ^ 64) : qi (.int i) (.int j) = some (.int (i * j)) := if_pos (.inr ⟨h1, h2⟩)
theorem zag (i j : Int) : ltD (.int i) (.int j) = some (.bool (decide (i < j))) := rfl
theorem yV (f : List D → Option D) (a : D) : zS 1 f [a] = f [a] := rfl
theorem qD (f : List D → Option D) (a b : D) : zS 2 f [a, b] = f [a, b] := rfl
theorem zaV (f : List D → Option D) (a b c : D) : zS 3 f [a, b, c] = f [a, b, c] := rfl
theorem zhg (a : D) : tupD [a] = some (.tuple [a]) := rfl
theorem zcp (a b : D) : tupD [a, b] = some (.tuple [a, b]) := rfl
theorem zgU (a b c : D) : tupD [a, b, c] = some (.tuple [a, b, c]) := rfl
theorem zeZ (ds : List D) : lenS [scrD ds] = some (.int ds.length) := by
  simp only [lenS, zb1, Option.map_some]
theorem zhm (ds : List D) (j : Int) : ixS (scrD ds) (.int j) = atI ds j := by
  simp only [ixS, zb1, Option.bind_some]
theorem xT {α : Type} {xs : List α} {j : Int} {x : α} (h0 : 0 ≤ j) (h : xs[j.toNat]? = some x) : atI xs j = some x := by
  have hlt : j.toNat < xs.length := (List.getElem?_eq_some_iff.mp h).1
  unfold atI ixN
  rw [if_pos h0, if_pos (by omega), Option.bind_some, h]
section
variable {ρ : Env'}
theorem zd {ga : Env' → Option D} {gr : Env' → Option (List D)} {x : D} {xs : List D} (h1 : ga ρ = some x) (h2 : gr ρ = some xs) : zc ga gr ρ = some (x :: xs) := by
  unfold zc
  rw [h1, Option.bind_some, h2, Option.bind_some]
theorem zj : gNil ρ = some [] := rfl
theorem ji {d : D} : gK d ρ = some d := rfl
theorem zW {h : List D → Option D} {g : Env' → Option (List D)} {xs : List D} {d : D} (h1 : g ρ = some xs) (h2 : h xs = some d) : gA h g ρ = some d := by
  unfold gA
  rw [h1, Option.bind_some, h2]
theorem xo {h : List D → Option (List D)} {g : Env' → Option (List D)} {xs ds : List D} (h1 : g ρ = some xs) (h2 : h xs = some ds) : gItA h g ρ = some ds := by
  unfold gItA
  rw [h1, Option.bind_some, h2]
theorem zdt {h : List D → Option (List D)} {g : Env' → Option (List D)} {xs ds : List D} (h1 : g ρ = some xs) (h2 : h xs = some ds) : gItL h g ρ = some ds := by
  unfold gItL
  rw [h1, Option.bind_some, h2]
theorem qa {f : D → Option (List D)} {g : Env' → Option D} {x : D} {ds : List D} (h1 : g ρ = some x) (h2 : f x = some ds) : gIt f g ρ = some ds := by
  unfold gIt
  rw [h1, Option.bind_some, h2]
theorem zgW {h : D → Option D} {g : Env' → Option D} {x d : D} (h1 : g ρ = some x) (h2 : h x = some d) : g1 h g ρ = some d := by
  unfold g1
  rw [h1, Option.bind_some, h2]
theorem zE {h : D → D → Option D} {ga gb : Env' → Option D} {x y d : D} (h1 : ga ρ = some x) (h2 : gb ρ = some y) (h3 : h x y = some d) : g2 h ga gb ρ = some d := by
  unfold g2
  rw [h1, Option.bind_some, h2, Option.bind_some, h3]
theorem qd {g : Env' → Option (List D)} {ds : List D} (h1 : g ρ = some ds) : gLs g ρ = some (.list ds) := by
  unfold gLs
  rw [h1, Option.map_some]
theorem qE {g : Env' → Option D} {b : Bool} (h1 : g ρ = some (.bool b)) : gBo g ρ = some b := by
  unfold gBo
  rw [h1]
  rfl
theorem zha {g : Env' → Option D} {b : Bool} (h1 : g ρ = some (.bool b)) : gTr g ρ = some b := by
  unfold gTr
  rw [h1]
  rfl
theorem zaX {g h : Env' → Option Bool} {a b : Bool} (h1 : g ρ = some a) (h2 : a = true → h ρ = some b) : zbt g h ρ = some (a && b) := by
  unfold zbt
  rw [h1]
  cases a with
  | true => exact h2 rfl
  | false => rfl
theorem zaH {g h : Env' → Option D} {a b : Bool} (h1 : g ρ = some (.bool a)) (h2 : a = true → h ρ = some (.bool b)) : zcW g h ρ = some (.bool (a && b)) := by
  unfold zcW
  rw [qE h1]
  cases a with
  | true => exact h2 rfl
  | false => rfl
theorem zeG {g : Env' → Option D} {b : Bool} (h1 : g ρ = some (.bool b)) : zee g ρ = some (.bool !b) := by
  unfold zee
  rw [qE h1]
  rfl
theorem jF {n : Nat} {caps : List Nat} {gi : Env' → Option (List D)} {h : GT} {gt : Env' → Option Bool} {ge : Env' → Option D} {ds r : List D} (h1 : gi ρ = some ds) (h2 : ds.length ≤ 16777216) (h3 : xX h gt ge (capS n caps ρ) ds = some r) : qG n caps gi h gt ge ρ = some r := by
  unfold qG
  rw [h1, Option.bind_some, if_pos (show ds.length ≤ sizeLine from h2), h3]
theorem zaR {ga : Env' → Option D} {gl gh : GO} {d r : D} {lo hi : Option Int} (h1 : ga ρ = some d) (h2 : gl ρ = some lo) (h3 : gh ρ = some hi) (h4 : slD d lo hi = some r) : gSl ga gl gh ρ = some r := by
  unfold gSl
  rw [h1, Option.bind_some, h2, Option.bind_some, h3, Option.bind_some, h4]
theorem xC {g : Env' → Option D} {i : Int} (h1 : g ρ = some (.int i)) : jz g ρ = some (some i) := by
  unfold jz
  rw [h1]
  rfl
theorem qO {g : Env' → Option (List D)} {ds : List D} (h1 : g ρ = some ds) (h2 : ds.length ≤ 16777216) : gLst g ρ = some ds := by
  unfold gLst
  rw [h1, Option.bind_some]
  exact if_pos h2
theorem qT {g : Env' → Option D} {d : D} (h : g ρ = some d) : sRet g ρ = some (.ret d) := by
  unfold sRet
  rw [h]
  rfl
theorem zfe {c : Env' → Option Bool} {g h : GS} {b : Bool} (h1 : c ρ = some b) : sIf c g h ρ = if b then g ρ else h ρ := by
  unfold sIf
  rw [h1, Option.bind_some]
theorem jq {h : GT} {g : Env' → Option D} {d : D} {ρ' : Env'} (h1 : g ρ = some d) (h2 : h d ρ = some ρ') : sAsg h g ρ = some (.nxt ρ') := by
  unfold sAsg
  rw [h1, Option.bind_some, h2]
  rfl
theorem wR {i : Nat} {g : Env' → Option (List D)} {ds : List D} (h1 : g ρ = some ds) : sOwn i g ρ = some (.nxt (ρ.set i (some (.own (.list ds))))) := by
  unfold sOwn
  rw [h1]
  rfl
theorem zeW {i : Nat} {g : Env' → Option (List D)} {ds : List D} (h1 : g ρ = some ds) : zcf i g ρ = some (.nxt (ρ.set i (some (.val (.list ds))))) := by
  unfold zcf
  rw [h1]
  rfl
end
end L2.Y
namespace L2.Y
open PySem PyProof.Rows
theorem xI (x y : Int) (xs ys : List Int) : HT.lexLt (x :: xs) (y :: ys) = if x = y then HT.lexLt xs ys else decide (x < y) := rfl
theorem zbk : HT.lexLt [] [] = false := rfl
theorem zfU (y : Int) (ys : List Int) : HT.lexLt [] (y :: ys) = true := rfl
theorem zdJ (x : Int) (xs : List Int) : HT.lexLt (x :: xs) [] = false := rfl
theorem yW : ∀ a : List Int, HT.lexLt a a = false
  | [] => rfl
  | x :: xs => by rw [xI, if_pos rfl, yW xs]
theorem kS : ∀ a b c : List Int, HT.lexLt a b = true → HT.lexLt b c = true → HT.lexLt a c = true
  | _, [], [], _, h => by rw [zbk] at h; cases h
  | [], [], _, h, _ => by rw [zbk] at h; cases h
  | x :: xs, [], _, h, _ => by rw [zdJ] at h; cases h
  | _, y :: ys, [], _, h => by rw [zdJ] at h; cases h
  | [], y :: ys, z :: zs, _, _ => rfl
  | x :: xs, y :: ys, z :: zs, h1, h2 => by
    rw [xI] at h1 h2 ⊢
    by_cases e1 : x = y
    · subst e1
      rw [if_pos rfl] at h1
      by_cases e2 : x = z
      · rw [if_pos e2] at h2 ⊢; exact kS xs ys zs h1 h2
      · rw [if_neg e2] at h2 ⊢; exact h2
    · rw [if_neg e1, decide_eq_true_eq] at h1
      by_cases e2 : y = z
      · subst e2; rw [if_neg e1, decide_eq_true_eq]; exact h1
      · rw [if_neg e2, decide_eq_true_eq] at h2
        rw [if_neg (by omega), decide_eq_true_eq]; omega
theorem zcP : ∀ a b c : List Int, HT.lexLt a c = true → HT.lexLt a b = true ∨ HT.lexLt b c = true
  | [], _, [], h => by rw [zbk] at h; cases h
  | x :: xs, _, [], h => by rw [zdJ] at h; cases h
  | _, [], z :: zs, _ => .inr rfl
  | [], y :: ys, z :: zs, _ => .inl rfl
  | x :: xs, y :: ys, z :: zs, h => by
    rw [xI] at h
    rw [xI, xI]
    by_cases e1 : x = y
    · subst e1
      rw [if_pos rfl]
      by_cases e2 : x = z
      · rw [if_pos e2] at h ⊢; exact zcP xs ys zs h
      · rw [if_neg e2] at h ⊢; exact .inr h
    · rw [if_neg e1]
      by_cases e2 : x = z
      · subst e2
        rw [if_neg (fun z => e1 z.symm)]
        rcases Int.lt_or_gt_of_ne e1 with q | q
        · exact .inl (decide_eq_true q)
        · exact .inr (decide_eq_true q)
      · rw [if_neg e2, decide_eq_true_eq] at h
        by_cases q : x < y
        · exact .inl (decide_eq_true q)
        · refine .inr ?_
          rw [if_neg (by omega), decide_eq_true_eq]; omega
theorem wN : ∀ a b : List Int, HT.lexLt a b = false → HT.lexLt b a = false → a = b
  | [], [], _, _ => rfl
  | [], y :: ys, h, _ => by rw [zfU] at h; cases h
  | x :: xs, [], _, h => by rw [zfU] at h; cases h
  | x :: xs, y :: ys, h1, h2 => by
    rw [xI] at h1 h2
    by_cases e : x = y
    · subst e
      rw [if_pos rfl] at h1 h2
      rw [wN xs ys h1 h2]
    · rw [if_neg e, decide_eq_false_iff_not] at h1
      rw [if_neg (fun z => e z.symm), decide_eq_false_iff_not] at h2
      omega
def wd : KeyOrd := ⟨List Int, HT.lexLt, yW, kS, zcP, wN⟩
def LeL (a b : List Int) : Prop := HT.lexLt b a = false
theorem yn (x : List Int) : ∀ l, (insL x l).Perm (x :: l)
  | [] => .refl _
  | y :: r => by
    unfold insL
    split
    · exact ((yn x r).cons y).trans (.swap x y r)
    · exact .refl _
theorem qq : ∀ l, (qx l).Perm l
  | [] => .refl _
  | x :: r => (yn x (qx r)).trans ((qq r).cons x)
theorem wQ (x : List Int) : ∀ l, l.Pairwise LeL → (insL x l).Pairwise LeL
  | [], _ => List.pairwise_singleton _ _
  | y :: r, h => by
    rw [List.pairwise_cons] at h
    unfold insL
    split
    · rename_i hy
      rw [List.pairwise_cons]
      refine ⟨fun z hz => ?_, wQ x r h.2⟩
      rcases List.mem_cons.mp ((yn x r).mem_iff.mp hz) with e | e
      · subst e; exact KeyOrd.klt_asymm (O := wd) hy
      · exact h.1 z e
    · rename_i hy
      have hxy : LeL x y := by unfold LeL; simpa using hy
      rw [List.pairwise_cons, List.pairwise_cons]
      refine ⟨fun z hz => ?_, h.1, h.2⟩
      rcases List.mem_cons.mp hz with e | e
      · subst e; exact hxy
      · exact KeyOrd.kle_trans (O := wd) (a := x) (b := y) (c := z) hxy (h.1 z e)
theorem qR : ∀ l, (qx l).Pairwise LeL
  | [] => .nil
  | x :: r => wQ x _ (qR r)
theorem yH : ∀ {a b : List (List Int)}, a.Pairwise LeL → b.Pairwise LeL → a.Perm b → a = b
  | [], b, _, _, p => (List.nil_perm.mp p).symm
  | x :: a, [], _, _, p => absurd p.length_eq (by simp)
  | x :: a, y :: b, ha, hb, p => by
    rw [List.pairwise_cons] at ha hb
    have e : x = y := by
      have hx : x ∈ y :: b := p.mem_iff.mp List.mem_cons_self
      have hy : y ∈ x :: a := p.mem_iff.mpr List.mem_cons_self
      rcases List.mem_cons.mp hx with z | z
      · exact z
      rcases List.mem_cons.mp hy with w | w
      · exact w.symm
      exact wN x y (hb.1 x z) (ha.1 y w)
    subst e
    rw [yH ha.2 hb.2 ((List.perm_cons x).mp p)]
theorem zaN {a b : List (List Int)} (p : a.Perm b) (h : a.Pairwise LeL) : a = qx b := yH h (qR b) (p.trans (qq b).symm)
end L2.Y
namespace L2.Y
open PySem
section
variable {prog : Program} {w : World} {A : Around} {E : Value → Shared → Prop} {s : Shared} {it t : Addr} {i : Nat} {xs : Array Value} {Q : Value → Shared → Prop}
theorem zd1 {x : Value} (W : s.heap.IsTupleIter it t i) (T : s.heap.IsTuple t xs) (hx : xs[i]? = some x) (k : ∀ h', h'.IsTupleIter it t (i + 1) → Heap.SameBut it s.heap h' → Q x { s with heap := h' }) : wpAny (model prog w) A (Builtin.SmallTypes.nextOf (.ref it)) Q E s := by
  obtain ⟨ow, hw, hc, hd⟩ := id W
  obtain ⟨ot, ht, _, n, hdt⟩ := T
  unfold Builtin.SmallTypes.nextOf
  refine wpAny_bind (wpAny_callSpecial?_slot (name := Str.ofString "__next__") W.typeIs F.slot_tuple_iterator_next (wpAny_call_entry F.slot_tuple_iterator_next W.typeIs F.entry_tuple_iterator_next ?_ (F.args_tuple_iterator_next_1 _)))
  show wpAny _ _ (field (.ref it) 0 >>= _) _ _ s
  refine wpAny_bind (wpAny_field hw hd (x := .ref t) rfl ?_)
  show wpAny _ _ (if (Value.ref t == Value.none) = true then _ else _) _ _ s
  rw [if_neg (by simp)]
  show wpAny _ _ (field (.ref it) 1 >>= _) _ _ s
  refine wpAny_bind (wpAny_field hw hd (x := .int i 0) rfl ?_)
  show wpAny _ _ (seqItems? (.ref t) >>= _) _ _ s
  refine wpAny_bind (wpAny_seqItems ht hdt ?_)
  simp only [Int.toNat_natCast, hx]
  refine wpAny_bind (wpAny_setField hw hd (by simp) (wpAny_pure ⟨x, rfl, wpAny_pure (k _ ⟨_, Heap.get?_update_self _ hw (Obj.isFreed_of_fields (Obj.data_mapFields hd _)), (Obj.cls_mapFields ..).trans hc, ?_⟩ (Heap.SameBut.update ..))⟩))
  rw [Obj.data_mapFields hd]; simp [rawInt]
theorem zeK (hh : A.handled = none) (W : s.heap.IsTupleIter it t i) (T : s.heap.IsTuple t xs) (hx : xs[i]? = none) (k : ∀ h' e, Heap.ExtBut it s.heap h' → (∃ o, h'.get? e = some o ∧ o.cls = .type "StopIteration") → E (.ref e) { s with heap := h' }) : wpAny (model prog w) A (Builtin.SmallTypes.nextOf (.ref it)) Q E s := by
  obtain ⟨ow, hw, hc, hd⟩ := id W
  obtain ⟨ot, ht, _, n, hdt⟩ := T
  unfold Builtin.SmallTypes.nextOf
  refine wpAny_bind (wpAny_callSpecial?_slot (name := Str.ofString "__next__") W.typeIs F.slot_tuple_iterator_next (wpAny_call_entry F.slot_tuple_iterator_next W.typeIs F.entry_tuple_iterator_next ?_ (F.args_tuple_iterator_next_1 _)))
  show wpAny _ _ (field (.ref it) 0 >>= _) _ _ s
  refine wpAny_bind (wpAny_field hw hd (x := .ref t) rfl ?_)
  show wpAny _ _ (if (Value.ref t == Value.none) = true then _ else _) _ _ s
  rw [if_neg (by simp)]
  show wpAny _ _ (field (.ref it) 1 >>= _) _ _ s
  refine wpAny_bind (wpAny_field hw hd (x := .int i 0) rfl ?_)
  show wpAny _ _ (seqItems? (.ref t) >>= _) _ _ s
  refine wpAny_bind (wpAny_seqItems ht hdt ?_)
  simp only [Int.toNat_natCast, hx]
  refine wpAny_bind (wpAny_rule (wpAny_bind (wpAny_setField hw hd (by simp) ?_)))
  show wpAny _ _ (newExc (.type "StopIteration") [] >>= _) _ _ _
  refine wpAny_bind ?_
  simp only [newExc, newTuple]
  refine wpAny_bind (wpAny_newObj_type (wpAny_bind (m := firstArgMember _ _) (wpAny_of_eq (a := Value.none) (by first | rfl | (simp only [firstArgMember]; rfl)) (wpAny_newObj_type ?_ (by size_fits)))) (by size_fits))
  simp only [raiseNew]
  refine wpAny_bind (wpAny_handled ?_)
  first | rw [show A.in1.handled = none from hh] | rw [hh]
  exact wpAny_bind (wpAny_pure (wpAny_throw (k _ _ (((Heap.SameBut.update ..).extBut.push _).push _) ⟨_, Heap.get?_push_size _ rfl, rfl⟩)))
end
theorem vY {prog : Program} {w : World} {A : Around} (hh : A.handled = none) (it t : Addr) (ne : t ≠ it) (xs : Array Value) : Draws prog w A it [it, t] xs.size (fun i v => xs[i]? = some v) (fun i h => h.IsTupleIter it t i ∧ h.IsTuple t xs) where
  live := fun _ _ st => let ⟨o, ho, _⟩ := st.1; ⟨o, ho⟩
  frame := fun _ _ _ ⟨⟨o, e, r⟩, ⟨o2, e2, r2⟩⟩ k => ⟨⟨o, k it (by simp) o e, r⟩, ⟨o2, k t (by simp) o2 e2, r2⟩⟩
  item := fun i s Q E hi st k => zd1 st.1 st.2 (x := xs[i]) (by simp [hi]) fun h' w' b => k _ h' s.toks (by simp [hi]) ⟨w', st.2.extBut b.extBut ne⟩ b
  done := fun s Q E st k => zeK hh st.1 st.2 (by simp) k
end L2.Y
namespace L2.Y
open PySem
section
variable {prog : Program} {w : World} {A : Around} {E : Value → Shared → Prop} {s : Shared} {z TI TO i1 i2 l1 l2 : Addr} {k1 k2 : Nat} {xs ys : Array Value} {u v : Value}
structure ZT (s : Shared) (z TI TO i1 i2 l1 l2 : Addr) (k1 k2 : Nat) (xs ys : Array Value) (u v : Value) : Prop where
  z : IsZip s.heap z TI TO .none
  ti : IsPair s.heap TI (.ref i1) (.ref i2)
  to : IsPair s.heap TO u v
  w1 : s.heap.IsTupleIter i1 l1 k1
  w2 : s.heap.IsTupleIter i2 l2 k2
  t1 : s.heap.IsTuple l1 xs
  t2 : s.heap.IsTuple l2 ys
theorem zbM {h h' : Heap} {a t : Addr} {i : Nat} (x : h.IsTupleIter a t i) (k : ∀ o, h.get? a = some o → h'.get? a = some o) : h'.IsTupleIter a t i := let ⟨o, ho, r⟩ := x; ⟨o, k o ho, r⟩
end
section
variable {prog : Program} {w : World} {A : Around} {E : Value → Shared → Prop} {s : Shared} {l1 l2 : Addr} {xs ys : Array Value} {Q : Value → Shared → Prop}
end
end L2.Y
namespace L2.Y
open PySem
open AutoSeq1 (wpAny_loadPart')
def en1 (h : Heap) (l : Addr) : Heap := h.push { cls := .type "tuple_iterator", data := .fields #[.ref l, .int 0 0] }
theorem zc7 (l : Addr) (xs : Array Value) (o : Obj) (n : Nat) (hc : o.cls = .type "tuple") (hd : o.data = .seq xs n) : Meets (Builtin.«enumerate.__new__» ⟨[.type "enumerate", .ref l], []⟩) (fun _ R s => s.heap.get? l = some o ∧
      R (.ok (.ret (.ref (en1 s.heap l).objs.size))) { s with heap := (en1 s.heap l).push { cls := .type "enumerate", data := .fields #[.none, .bool false, .ref s.heap.objs.size, rawInt 0, .none, .none] } }) :=
  .of_wp fun prog w A R s h => by
    obtain ⟨hp, g, d, tk, os⟩ := s
    obtain ⟨hl, h⟩ := h
    have sub := sub_enumerate
    have T : Heap.IsTuple (Shared.heap ⟨hp, g, d, tk, os⟩) l xs := ⟨_, hl, hc, n, hd⟩
    wp_walk using wpAny_loadPart' hl
    refine wpAny_stack_any fun st => wpAny_pure ?_
    split
    · rename_i c _ _ _ _ _
      cases (c == Value.type "enumerate") <;> (wp_walk using wpAny_loadPart' hl, wpAny_pyIter_tuple T; exact ⟨_, rfl, h⟩)
    · wp_walk using wpAny_loadPart' hl, wpAny_pyIter_tuple T
      exact ⟨_, rfl, h⟩
section
variable {prog : Program} {w : World} {A : Around} {E : Value → Shared → Prop} {s : Shared} {l : Addr} {xs : Array Value} {Q : Value → Shared → Prop}
theorem zbC (t : s.heap.IsTuple l xs) (k : ∀ h', IsEnum h' (s.heap.objs.size + 1) s.heap.objs.size 0 .none → h'.IsTupleIter s.heap.objs.size l 0 → (∀ b o, s.heap.get? b = some o → h'.get? b = some o) → Q (.ref (s.heap.objs.size + 1)) { s with heap := h' }) :
    wpAny (model prog w) A (call (.type "enumerate") [.ref l]) Q E s := by
  obtain ⟨o, ho, hc, n, hd⟩ := t
  refine callType_new F.called_enumerate (by decide) (F.typeCall_enumerate_1 _) (F.newCall_enumerate_1 _) (fun obj => F.args_object_init_2 obj _) F.entry_enumerate_new (zc7 l xs o n hc hd) ⟨ho, ?_⟩
  have z : (en1 s.heap l).objs.size = s.heap.objs.size + 1 := Heap.size_push ..
  show _ ∧ _
  rw [z]
  have he : IsEnum ((en1 s.heap l).push { cls := .type "enumerate", data := .fields #[.none, .bool false, .ref s.heap.objs.size, rawInt 0, .none, .none] }) (s.heap.objs.size + 1) s.heap.objs.size 0 .none := by
    have q := Heap.get?_push_size (en1 s.heap l) (o := { cls := .type "enumerate", data := .fields #[.none, .bool false, .ref s.heap.objs.size, rawInt 0, .none, .none] }) rfl
    rw [z] at q
    exact q
  exact ⟨⟨_, he, rfl⟩, k _ he ⟨_, Heap.get?_push_of_some _ (Heap.get?_push_size _ rfl), rfl, rfl⟩ fun b o q => Heap.get?_push_of_some _ (Heap.get?_push_of_some _ q)⟩
end
end L2.Y
namespace L2
open PySem PySem.Spec PyProof.Rows
def zbr : Key → Value → Bool
  | .inl k, v => Value.isInt k v
  | .inr x, v => Value.isStrOf x v
def keyH (w : World) : Key → Int
  | .inl k => hashInt k
  | .inr x => hashStr w x
theorem zP : ∀ {k : Key} {v : Value}, zbr k v = true → (∃ i t, k = Sum.inl i ∧ v = Value.int i t) ∨ (∃ x t, k = Sum.inr x ∧ v = Value.str x t)
  | .inl i, v, h => by
    obtain ⟨t, e⟩ := Value.isInt_shape (k := i) (v := v) h
    exact .inl ⟨i, t, rfl, e⟩
  | .inr x, v, h => by
    obtain ⟨t, e⟩ := Value.isStrOf_shape (x := x) (v := v) h
    exact .inr ⟨x, t, rfl, e⟩
theorem zdx (i : Int) (t : Tok) : zbr (.inl i) (.int i t) = true := by simp [zbr, Value.isInt]
theorem zcx (x : Str) (t : Tok) : zbr (.inr x) (.str x t) = true := by simp [zbr, Value.isStrOf]
theorem zgP (a b : Int) : decide ((Sum.inl a : Key) = Sum.inl b) = (a == b) := by
  by_cases e : a = b
  · subst e; simp
  · have h : ¬ (Sum.inl a : Key) = Sum.inl b := fun q => e (Sum.inl.inj q)
    rw [decide_eq_false h]
    exact (beq_eq_false_iff_ne.mpr e).symm
theorem zgo (a b : Str) : decide ((Sum.inr a : Key) = Sum.inr b) = decide (a = b) := by
  by_cases e : a = b
  · subst e; simp
  · have h : ¬ (Sum.inr a : Key) = Sum.inr b := fun q => e (Sum.inr.inj q)
    rw [decide_eq_false h, decide_eq_false e]
theorem zgl (a : Int) (b : Str) : decide ((Sum.inl a : Key) = Sum.inr b) = false := decide_eq_false (fun q => nomatch q)
theorem zg6 (a : Str) (b : Int) : decide ((Sum.inr a : Key) = Sum.inl b) = false := decide_eq_false (fun q => nomatch q)
def jh (prog : Program) (w : World) : PySem.KeyKind prog w Key where
  is := zbr
  hash := keyH w
  inj := fun v a b ha hb => by
    rcases zP ha with ⟨i, t, rfl, rfl⟩ | ⟨x, t, rfl, rfl⟩
    · rcases zP hb with ⟨j, u, rfl, e⟩ | ⟨y, u, rfl, e⟩
      · injection e with e1 _; rw [e1]
      · exact nomatch e
    · rcases zP hb with ⟨j, u, rfl, e⟩ | ⟨y, u, rfl, e⟩
      · exact nomatch e
      · injection e with e1 _; rw [e1]
  byValue := fun k v h => by
    rcases zP h with ⟨i, t, rfl, rfl⟩ | ⟨x, t, rfl, rfl⟩ <;> rfl
  pyHash := fun hv h => by
    rcases zP hv with ⟨i, t, rfl, rfl⟩ | ⟨x, t, rfl, rfl⟩
    · exact wpAny_pyHash_int h
    · exact wpAny_pyHash_str h
  eqBool := fun hu hv h => by
    rcases zP hu with ⟨i, t, rfl, rfl⟩ | ⟨x, t, rfl, rfl⟩
    · rcases zP hv with ⟨j, u, rfl, rfl⟩ | ⟨y, u, rfl, rfl⟩
      · rw [zgP] at h; exact wpAny_eqBool_int h
      · rw [zgl] at h; exact SeqAt.EqAt.int_str i t y u _ _ _ _ h
    · rcases zP hv with ⟨j, u, rfl, rfl⟩ | ⟨y, u, rfl, rfl⟩
      · rw [zg6] at h; exact SeqAt.EqAt.str_int x t j u _ _ _ _ h
      · rw [zgo] at h; exact wpAny_eqBool_str h
  «strs» := fun k x t v h => by
    rcases zP h with ⟨i, u, rfl, e⟩ | ⟨y, u, rfl, e⟩
    · exact nomatch e
    · injection e with e1 _
      subst e1
      cases v <;> rfl
theorem zao (prog : Program) (w : World) (i : Int) (t : Tok) : (jh prog w).is (.inl i) (.int i t) = true := zdx i t
theorem zae (prog : Program) (w : World) (x : Str) (t : Tok) : (jh prog w).is (.inr x) (.str x t) = true := zcx x t
end L2
namespace L2
open PySem PySem.Spec PyProof.Rows
inductive V where
  | non | bl (b : Bool) | int (i : Int) | str (x : Str) | byt (b : Array UInt8) | flt (b : UInt64) | ref (a : Addr) | ty (n : String)
  deriving DecidableEq
def RelV : V → Value → Prop
  | .non, u => u = Value.none
  | .bl b, u => u = Value.bool b
  | .int i, u => ∃ t, u = Value.int i t
  | .str x, u => ∃ t, u = Value.str x t
  | .byt b, u => ∃ t, u = Value.bytes b t
  | .flt b, u => ∃ t, u = Value.float b t
  | .ref a, u => u = Value.ref a
  | .ty n, u => u = Value.type n
abbrev Vals : List V → List Value → Prop := Paired RelV
theorem Vals.length {xs : List V} {us : List Value} (r : Vals xs us) : xs.length = us.length := Paired.length r
theorem Vals.get : ∀ {xs : List V} {us : List Value} {i : Nat} {x : V}, Vals xs us → xs[i]? = some x → ∃ u, us[i]? = some u ∧ RelV x u
  | _, _, _, _, .nil, e => by simp at e
  | _, _, 0, _, .cons r _, e => by simp at e; subst e; exact ⟨_, rfl, r⟩
  | _, _, i + 1, x, .cons _ t, e => by
    obtain ⟨u, h1, h2⟩ := Vals.get (i := i) (x := x) t (by simpa using e)
    exact ⟨u, by simpa using h1, h2⟩
theorem Vals.set {x : V} {u : Value} (r : RelV x u) : ∀ {xs : List V} {us : List Value} (i : Nat), Vals xs us → Vals (xs.set i x) (us.set i u)
  | _, _, _, .nil => .nil
  | _, _, 0, .cons _ t => .cons r t
  | _, _, i + 1, .cons q t => .cons q (Vals.set r i t)
theorem Vals.append : ∀ {xs ys : List V} {us ws : List Value}, Vals xs us → Vals ys ws → Vals (xs ++ ys) (us ++ ws)
  | _, _, _, _, .nil, s => s
  | _, _, _, _, .cons r t, s => .cons r (Vals.append t s)
theorem Vals.take : ∀ {xs : List V} {us : List Value} (n : Nat), Vals xs us → Vals (xs.take n) (us.take n)
  | _, _, 0, _ => .nil
  | _, _, _ + 1, .nil => .nil
  | _, _, n + 1, .cons r t => .cons r (Vals.take n t)
theorem Vals.drop : ∀ {xs : List V} {us : List Value} (n : Nat), Vals xs us → Vals (xs.drop n) (us.drop n)
  | _, _, 0, r => r
  | _, _, _ + 1, .nil => .nil
  | _, _, n + 1, .cons _ t => Vals.drop n t
def RelO : Option V → Option Value → Prop
  | some v, some u => RelV v u
  | none, none => True
  | _, _ => False
def KV {κ : Type} : List (κ × V) → List (κ × Value) → Prop := Paired fun (p : κ × V) (q : κ × Value) => p.1 = q.1 ∧ RelV p.2 q.2
def kV : Key → V
  | .inl i => .int i
  | .inr x => .str x
inductive HO where
  /-- a list -/
  | lst (xs : List V)
  /-- a tuple (never changes) -/
  | tup (xs : List V)
  /-- a dict whose keys are ints and texts; one whose keys are tuples of ints and texts (the empty one is both) -/
  | dK (kvs : List (Key × V)) | dT (kvs : List (List Key × V))
  /-- a set of ints: its members, its size -/
  | set (S : Int → Bool) (n : Nat)
  /-- an instance of the class at C, its dict at dx, its attributes -/
  | ins (C dx : Addr) (fs : List (Str × V))
  /-- the dict of the instance at x -/
  | own (x : Addr)
  /-- the dict of an exception -/
  | xd (fs : List (Str × V))
  /-- a bound method, f of x -/
  | met (f x : Addr)
  /-- a range object lo, lo + 1, .. below hi -/
  | rng (lo hi : Int)
  /-- a thing that is known to the object (the script; a dict while a loop walks it): read, never written while it is so -/
  | frz (o : Obj) (u : HO)
  /-- a code object's table -/
  | tbl (ps : Array Value)
  /-- any other thing, by what is true of its one object (a def of one's own: SetO a S n := HO.ext fun h => ..) -/
  | ext (φ : Heap → Prop)
abbrev Hp := Addr → Option HO
def upd (H : Hp) (a : Addr) (o : HO) : Hp := fun b => if b = a then some o else H b
theorem zL {H : Hp} {a : Addr} {o : HO} : upd H a o a = some o := by unfold upd; rw [if_pos rfl]
theorem zp {H : Hp} {a b : Addr} {o : HO} (h : b ≠ a) : upd H a o b = H b := by unfold upd; rw [if_neg h]
theorem zgZ {H : Hp} {a b : Addr} {o u : HO} (h : H a = some o) (h' : H b = some u) (d : o ≠ u) : a ≠ b := by
  intro e; subst e; rw [h] at h'; exact d (Option.some.inj h')
theorem zB {H : Hp} {a b : Addr} {o : HO} (h : H a = some o) (h' : H b = none) : a ≠ b := by
  intro e; subst e; rw [h] at h'; cases h'
section
variable (P : Program) (w : World)
def jb (H : Hp) (h : Heap) (a : Addr) : HO → Prop
  | .lst xs => xs.length ≤ sizeLine ∧ ∃ (its : List Value) (n : Nat), Vals xs its ∧ h.get? a = some { cls := .type "list", data := .seq its.toArray n }
  | .tup xs => xs.length ≤ sizeLine ∧ ∃ its : List Value, Vals xs its ∧ IsTup h a its.toArray
  | .dK kvs => kvs.length ≤ sizeLine ∧ (a == sysModules) = false ∧ ∃ vs, KV kvs vs ∧ h.DictOf (jh P w) a vs
  | .dT kvs => kvs.length ≤ sizeLine ∧ (a == sysModules) = false ∧ ∃ xs : List (List Key × Addr × Value),
      Paired (fun (p : List Key × V) (q : List Key × Addr × Value) => p.1 = q.1 ∧ H q.2.1 = some (.tup (p.1.map kV)) ∧ RelV p.2 q.2.2) kvs xs ∧
      ∃ o es ep, h.get? a = some o ∧ o.ExactDict ∧ o.data = .dict es ep ∧ es.toList = xs.map (entryOfKey (tupleKind (jh P w))) ∧ (xs.map (·.1)).Nodup
  | .set S n => h.SetOf (intKind P w) a S n
  | .ins C dx fs => H dx = some (.own a) ∧ fs.length ≤ 1000 ∧ dx ≠ a ∧ h.get? a = some (PySem.W.instObj C dx) ∧
      ∃ mA, h.Ns1 dx mA ∧ (∀ f, RelO (fs.lookup f) (mA f)) ∧ PySem.Within mA (fs.map (·.1))
  | .own _ => ∃ o, h.get? a = some o
  | .xd fs => ∃ mA, h.Ns1 a mA ∧ ∀ f, RelO (fs.lookup f) (mA f)
  | .rng lo hi => ∃ t u v, h.get? a = some { cls := .type "range", data := .fields #[.int lo t, .int hi u, .int 1 v] }
  | .frz o u => h.get? a = some o ∧ jb H h a u
  | .tbl ps => h.get? a = some { cls := .none, data := .fields ps }
  | .met f x => h.get? a = some (PySem.W.methodObj (.ref f) (.ref x))
  | .ext φ => φ h ∧ (∃ o, h.get? a = some o) ∧ ∀ h1 h2 : Heap, φ h1 → (∀ o, h1.get? a = some o → h2.get? a = some o) → φ h2
def HOk (H : Hp) (h : Heap) : Prop := ∀ a o, H a = some o → jb P w H h a o
end
section
variable {P : Program} {w : World} {H H' : Hp} {h h' : Heap} {a : Addr} {o : HO}
theorem jb.lt (x : jb P w H h a o) : a < h.objs.size := by
  cases o with
  | lst xs => obtain ⟨_, _, _, _, e⟩ := x; exact Heap.lt_size e
  | tup xs => obtain ⟨_, _, _, p⟩ := x; exact p.lt
  | dK kvs => obtain ⟨_, _, _, _, o, _, _, e, _⟩ := x; exact Heap.lt_size e
  | dT kvs => obtain ⟨_, _, _, _, o, _, _, e, _⟩ := x; exact Heap.lt_size e
  | set S n => obtain ⟨o, _, _, _, e, _⟩ := x; exact Heap.lt_size e
  | ins C dx fs => obtain ⟨_, _, _, e, _⟩ := x; exact Heap.lt_size e
  | own y => obtain ⟨_, e⟩ := x; exact Heap.lt_size e
  | xd fs => obtain ⟨_, ⟨_, _, _, e, _⟩, _⟩ := x; exact Heap.lt_size e
  | rng lo hi => obtain ⟨_, _, _, e⟩ := x; exact Heap.lt_size e
  | frz ob u => obtain ⟨e, _⟩ := x; exact Heap.lt_size e
  | tbl ps => exact Heap.lt_size (show h.get? a = some _ from x)
  | met f y => exact Heap.lt_size (show h.get? a = some _ from x)
  | ext φ => obtain ⟨_, ⟨_, e⟩, _⟩ := x; exact Heap.lt_size e
theorem Paired.mapP {α β : Type} {F G : α → β → Prop} : ∀ {l₁ : List α} {l₂ : List β}, Paired F l₁ l₂ → (∀ a b, F a b → G a b) → Paired G l₁ l₂
  | _, _, .nil, _ => .nil
  | _, _, .cons r t, f => .cons (f _ _ r) (Paired.mapP t f)
theorem jb.stay (x : jb P w H h a o) (k : ∀ b u, (b = a ∨ H b = some (.own a)) → h.get? b = some u → h'.get? b = some u)
    (ho : ∀ b, H b = some (.own a) → H' b = some (.own a)) (ht : ∀ b xs, H b = some (.tup xs) → H' b = some (.tup xs)) : jb P w H' h' a o := by
  induction o with
  | lst xs => obtain ⟨z, its, n, r, e⟩ := x; exact ⟨z, its, n, r, k _ _ (.inl rfl) e⟩
  | tup xs => obtain ⟨z, its, r, ob, e, c⟩ := x; exact ⟨z, its, r, ob, k _ _ (.inl rfl) e, c⟩
  | dK kvs => obtain ⟨z, y, vs, r, ob, es, ep, e, c⟩ := x; exact ⟨z, y, vs, r, ob, es, ep, k _ _ (.inl rfl) e, c⟩
  | dT kvs =>
    obtain ⟨z, y, xs, r, ob, es, ep, e, c⟩ := x
    exact ⟨z, y, xs, Paired.mapP r fun p q z => ⟨z.1, ht _ _ z.2.1, z.2.2⟩, ob, es, ep, k _ _ (.inl rfl) e, c⟩
  | set S n => obtain ⟨ob, es, ep, t, e, c⟩ := x; exact ⟨ob, es, ep, t, k _ _ (.inl rfl) e, c⟩
  | ins C dx fs =>
    obtain ⟨d, z, ne, e, mA, ⟨od, es, ep, e2, c⟩, r⟩ := x
    exact ⟨ho _ d, z, ne, k _ _ (.inl rfl) e, mA, ⟨od, es, ep, k _ _ (.inr d) e2, c⟩, r⟩
  | own y => obtain ⟨ob, e⟩ := x; exact ⟨ob, k _ _ (.inl rfl) e⟩
  | xd fs => obtain ⟨mA, ⟨od, es, ep, e, c⟩, r⟩ := x; exact ⟨mA, ⟨od, es, ep, k _ _ (.inl rfl) e, c⟩, r⟩
  | rng lo hi => obtain ⟨t, u, v, e⟩ := x; exact ⟨t, u, v, k _ _ (.inl rfl) e⟩
  | frz ob u ih => obtain ⟨e, q⟩ := x; exact ⟨k _ _ (.inl rfl) e, ih q⟩
  | tbl ps =>
    have e : h.get? a = some { cls := .none, data := .fields ps } := x
    show h'.get? a = some { cls := .none, data := .fields ps }
    exact k a _ (.inl rfl) e
  | met f y =>
    have e : h.get? a = some (PySem.W.methodObj (.ref f) (.ref y)) := x
    show h'.get? a = some (PySem.W.methodObj (.ref f) (.ref y))
    exact k a _ (.inl rfl) e
  | ext φ => obtain ⟨p, ⟨o, e⟩, st⟩ := x; exact ⟨st _ _ p fun o q => k _ _ (.inl rfl) q, ⟨o, k _ _ (.inl rfl) e⟩, st⟩
theorem HOk.lt (x : HOk P w H h) (e : H a = some o) : a < h.objs.size := (x a o e).lt
theorem HOk.fresh (x : HOk P w H h) (e : h.objs.size ≤ a) : H a = none := by
  cases q : H a with
  | none => rfl
  | some u => exact absurd (Nat.lt_of_lt_of_le (x.lt q) e) (Nat.lt_irrefl _)
theorem HOk.kept (x : HOk P w H h) (k : ∀ b u, h.get? b = some u → h'.get? b = some u) : HOk P w H h' := fun a o e =>
  (x a o e).stay (fun b u _ q => k b u q) (fun _ q => q) fun _ _ q => q
theorem HOk.laid (x : HOk P w H h) (k : ∀ b u, h.get? b = some u → h'.get? b = some u) (hp : h.objs.size ≤ a) (new : jb P w (upd H a o) h' a o) : HOk P w (upd H a o) h' := fun b u e => by
  have hn := x.fresh hp
  by_cases hb : b = a
  · subst hb; rw [zL] at e; cases e; exact new
  · rw [zp hb] at e
    exact (x b u e).stay (fun c v _ q => k c v q) (fun c q => by rw [zp (zB q hn)]; exact q) fun c xs q => by rw [zp (zB q hn)]; exact q
end
def Rd (H : Hp) (a : Addr) (u : HO) : Prop := H a = some u ∨ ∃ o, H a = some (.frz o u)
theorem Rd.of {H : Hp} {a : Addr} {u : HO} (h : H a = some u) : Rd H a u := .inl h
theorem Rd.ok {P : Program} {w : World} {H : Hp} {h : Heap} {a : Addr} {u : HO} (r : Rd H a u) (x : HOk P w H h) : jb P w H h a u := by
  rcases r with r | ⟨o, r⟩
  · exact x a u r
  · obtain ⟨_, q⟩ := x a _ r
    exact q
def Mut : Option HO → Prop
  | some (.lst _) => True
  | some (.dK _) => True
  | some (.dT _) => True
  | some (.set _ _) => True
  | some (.ins _ _ _) => True
  | some (.ext _) => True
  | _ => False
section
variable {P : Program} {w : World} {H : Hp} {h h' : Heap} {x e : Addr} {o' : HO}
theorem HOk.write (ok : HOk P w H h) (mu : Mut (H x)) (he : e = x ∨ H e = some (.own x)) (k : ∀ b u, b ≠ e → h.get? b = some u → h'.get? b = some u) (heo : ∃ u, h'.get? e = some u)
    (new : jb P w (upd H x o') h' x o') : HOk P w (upd H x o') h' := fun b u q => by
  have nown : ∀ c y, H c = some (.own y) → c ≠ x := fun c y r z => by subst z; rw [r] at mu; exact mu
  have ntup : ∀ c xs, H c = some (.tup xs) → c ≠ x := fun c xs r z => by subst z; rw [r] at mu; exact mu
  by_cases hb : b = x
  · subst hb; rw [zL] at q; cases q; exact new
  · rw [zp hb] at q
    by_cases hbe : b = e
    · have q' : H b = some (.own x) := by
        rcases he with z | z
        · exact absurd (hbe.trans z) hb
        · rw [hbe]; exact z
      rw [q] at q'; cases q'
      obtain ⟨v, hv⟩ := heo
      exact ⟨v, by rw [hbe]; exact hv⟩
    · refine (ok b u q).stay (fun c v hc r => k c v ?_ r) (fun c r => by rw [zp (nown c b r)]; exact r) fun c xs r => by rw [zp (ntup c xs r)]; exact r
      rcases hc with rfl | hc
      · exact hbe
      · rintro rfl
        rcases he with z | z
        · exact nown c b hc z
        · rw [hc] at z; cases z; exact hb rfl
end
structure Un (fs ex : List Addr) (H H' : Hp) (h h' : Heap) : Prop where
  keep : ∀ b o, h.get? b = some o → H b = none → b ∉ fs → b ∉ ex → h'.get? b = some o
  slot : ∀ b o, h.get? b = some o → H b = none → b ∈ fs → b ∉ ex → ∃ sl, h'.get? b = some { o with slots := sl }
  free : ∀ b o, h.get? b = some o → H b = none → b ∉ ex → H' b = none
  there : ∀ b o, h.get? b = some o → b ∉ ex → ∃ o', h'.get? b = some o'
  tups : ∀ b xs, H b = some (.tup xs) → H' b = some (.tup xs)
  frzs : ∀ b o u, H b = some (.frz o u) → H' b = some (.frz o u)
  tbls : ∀ b ps, H b = some (.tbl ps) → ∃ more, H' b = some (.tbl (ps ++ more))
section
variable {fs fs' ex ex' : List Addr} {H H1 H2 : Hp} {h h1 h2 h' : Heap} {a x e : Addr} {o : HO}
theorem Un.any (u : Un fs ex H H1 h h1) {b : Addr} {ob : Obj} (q : h.get? b = some ob) (n : H b = none) (hx : b ∉ ex) : ∃ sl, h1.get? b = some { ob with slots := sl } := by
  by_cases hb : b ∈ fs
  · exact u.slot b ob q n hb hx
  · exact ⟨ob.slots, u.keep b ob q n hb hx⟩
theorem Un.trans (a : Un fs ex H H1 h h1) (b : Un fs ex H1 H2 h1 h2) : Un fs ex H H2 h h2 where
  keep := fun c ob q n hc hx => b.keep c ob (a.keep c ob q n hc hx) (a.free c ob q n hx) hc hx
  slot := fun c ob q n hc hx => by
    obtain ⟨sl, e1⟩ := a.slot c ob q n hc hx
    obtain ⟨sl', e2⟩ := b.slot c _ e1 (a.free c ob q n hx) hc hx
    exact ⟨sl', e2⟩
  free := fun c ob q n hx => by
    obtain ⟨o', e1⟩ := a.there c ob q hx
    exact b.free c o' e1 (a.free c ob q n hx) hx
  there := fun c ob q hx => by
    obtain ⟨o', e1⟩ := a.there c ob q hx
    exact b.there c o' e1 hx
  tups := fun c xs q => b.tups c xs (a.tups c xs q)
  frzs := fun c ob xs q => b.frzs c ob xs (a.frzs c ob xs q)
  tbls := fun c ps q => by
    obtain ⟨m1, e1⟩ := a.tbls c ps q
    obtain ⟨m2, e2⟩ := b.tbls c _ e1
    exact ⟨m1 ++ m2, by rw [e2, Array.append_assoc]⟩
theorem Un.kept (k : ∀ b u, h.get? b = some u → h'.get? b = some u) : Un fs ex H H h h' :=
  ⟨fun b ob q _ _ _ => k b ob q, fun b ob q _ _ _ => ⟨ob.slots, k b ob q⟩, fun _ _ _ n _ => n, fun b ob q _ => ⟨ob, k b ob q⟩, fun _ _ q => q, fun _ _ _ q => q, fun _ ps q => ⟨#[], by rw [q]; simp⟩⟩
theorem Un.refl : Un fs ex H H h h := Un.kept fun _ _ q => q
theorem Un.laid (k : ∀ b u, h.get? b = some u → h'.get? b = some u) (hp : h.objs.size ≤ a) (hn : H a = none) : Un fs ex H (upd H a o) h h' where
  keep := fun b u q _ _ _ => k b u q
  slot := fun b u q _ _ _ => ⟨u.slots, k b u q⟩
  free := fun b u q n _ => by rw [zp (Nat.ne_of_lt (Nat.lt_of_lt_of_le (Heap.lt_size q) hp))]; exact n
  there := fun b u q _ => ⟨u, k b u q⟩
  tups := fun b xs q => by rw [zp (zB q hn)]; exact q
  frzs := fun b u xs q => by rw [zp (zB q hn)]; exact q
  tbls := fun b ps q => ⟨#[], by rw [zp (zB q hn), q]; simp⟩
theorem Un.write (mu : Mut (H x)) (he : e = x ∨ H e = some (.own x)) (k : ∀ b u, b ≠ e → h.get? b = some u → h'.get? b = some u) (heo : ∃ u, h'.get? e = some u) : Un fs ex H (upd H x o) h h' := by
  have hx : ∀ b, H b = none → b ≠ x := fun b n z => by subst z; rw [n] at mu; exact mu
  have hb : ∀ b, H b = none → b ≠ e := fun b n z => by
    subst z
    rcases he with r | r
    · exact hx b n r
    · rw [n] at r; cases r
  have hm : ∀ b u, H b = some u → ¬ Mut (some u) → b ≠ x := fun b u q nm z => by subst z; rw [q] at mu; exact nm mu
  refine ⟨fun b u q n _ _ => k b u (hb b n) q, fun b u q n _ _ => ⟨u.slots, k b u (hb b n) q⟩, fun b u q n _ => by rw [zp (hx b n)]; exact n, fun b u q _ => ?_,
    fun b xs q => by rw [zp (hm b _ q fun z => z)]; exact q, fun b u xs q => by rw [zp (hm b _ q fun z => z)]; exact q, fun b ps q => ⟨#[], by rw [zp (hm b _ q fun z => z), q]; simp⟩⟩
  by_cases hbe : b = e
  · subst hbe; exact heo
  · exact ⟨u, k b u hbe q⟩
theorem Un.mono (u : Un fs ex H H1 h h1) (hs : ∀ b ∈ fs, b ∈ fs') (hx : ∀ b ∈ ex, b ∈ ex') : Un fs' ex' H H1 h h1 :=
  ⟨fun b ob q n hb he => u.keep b ob q n (fun z => hb (hs b z)) fun z => he (hx b z), fun _ _ q n _ he => u.any q n fun z => he (hx _ z), fun b ob q n he => u.free b ob q n fun z => he (hx b z), fun b ob q he => u.there b ob q fun z => he (hx b z), u.tups, u.frzs, u.tbls⟩
end
def trk (h : Heap) (H : Hp) : List Addr := (List.range h.objs.size).filter fun a => (H a).isSome
def hidT (h : Heap) (H : Hp) : Heap := PySem.W.hideAll h (trk h H)
theorem zcJ (h : Heap) (H : Hp) : (hidT h H).objs.size = h.objs.size := PySem.W.hideAll_size _ _
theorem zeL {h : Heap} {H : Hp} {b : Addr} {o : Obj} (e : h.get? b = some o) (n : H b = none) : (hidT h H).get? b = some o :=
  PySem.W.hideAll_get _ e fun hm => by
    have q : (H b).isSome = true := (List.mem_filter.mp hm).2
    rw [n] at q; simp at q
theorem zft {h : Heap} {H : Hp} {b : Addr} {o : Obj} (e : (hidT h H).get? b = some o) : h.get? b = some o ∧ H b = none := by
  have e' : h.get? b = some o := PySem.W.of_hideAll (trk h H) e
  refine ⟨e', ?_⟩
  cases q : H b with
  | none => rfl
  | some x =>
    have hm : b ∈ trk h H := List.mem_filter.mpr ⟨List.mem_range.mpr (Heap.lt_size e'), by simp [q]⟩
    have z : (hidT h H).get? b = none := PySem.W.hideAll_none (trk h H) hm
    rw [z] at e; cases e
def zfz (g h : Heap) (L : Addr) : List (Addr × Obj) := (List.range h.objs.size).filterMap fun a => if a = L ∨ (g.get? a).isSome = true then none else (h.get? a).map fun o => (a, o)
def rest (g h : Heap) (L d : Addr) : List (Addr × Obj) := (zfz g h L).filter fun p => decide (p.1 ≠ d)
end L2
namespace L2
open PySem PySem.Spec PyProof.Rows
structure Mod (K : PySem.W.Frag) (mg : Str → Option Value) (base : Heap) : Prop where
  kin : K.In base
  glob : base.Ns mainGlobals mg
  blt : ∃ mb, base.Ns builtinsNs mb ∧ ∀ x : Str, x ≠ "__name__" → mb x = bootBuiltins x
  nolimit : base.NoLimit
structure Cx where
  prog : Program
  w : World
  K : PySem.W.Frag
  mg : Str → Option Value
  base : Heap
  A : Around
  N : List Str
  s₀ : Shared
  H₀ : Hp
  env : Env
  outer : List Env
  stack : List Env
  ex : List Addr
  fn : Str → Bool
  calm : Bool
  pn : List (Addr × Obj)
  xe : Value → Shared → Prop
def frs (l : List Env) : List Addr := l.filterMap (·.frame)
abbrev Cx.fs (X : Cx) : List Addr := frs X.outer
def Vis (sc : Scope) (x : Str) : Prop := sc.names.lookup x = some .local ∨ sc.names.lookup x = some .cell ∨ sc.names.lookup x = some .free
def Loc (sc : Scope) (x : Str) : Prop := sc.names.lookup x = some .local ∨ sc.names.lookup x = some .cell
def Look (env : Env) (h : Heap) (m : Str → Option Value) (x : Str) (u : Value) : Prop :=
  (env.kindOf x = some .local ∧ m x = some u) ∨ ((env.kindOf x = some .cell ∨ env.kindOf x = some .free) ∧ ∃ c, env.cells.lookup x = some c ∧ h.IsCell c (some u))
structure Cx.Ok (X : Cx) : Prop where
  mod : Mod X.K X.mg X.base
  kind : X.env.scope.kind = .function
  glob : X.env.globals = mainGlobals
  blt : X.env.builtins = builtinsNs
  above : X.s₀.heap.objs.size ≤ X.env.locals
  inj : ∀ x y c, X.env.cells.lookup x = some c → X.env.cells.lookup y = some c → x = y
  has : ∀ x, (X.env.kindOf x = some .cell ∨ X.env.kindOf x = some .free) → ∃ c, X.env.cells.lookup x = some c
  cab : ∀ x c, X.fn x = true → X.env.cells.lookup x = some c → X.s₀.heap.objs.size ≤ c
  hd : X.calm = true → X.A.handled = none
  frames : X.A.frames = some X.stack
  stk : X.stack = X.outer ∨ (X.stack = X.env :: X.outer ∧ X.env.frame = some X.env.locals)
  exf : ∀ b ∈ X.ex, b ≠ X.env.locals ∧ ∀ x c, X.env.cells.lookup x = some c → c ≠ b
  bs : ∀ b o, X.base.get? b = some o → X.s₀.heap.get? b = some o ∧ X.H₀ b = none
  bsz : X.base.objs.size ≤ X.s₀.heap.objs.size
  noex : ∀ b o, X.base.get? b = some o → b ∉ X.ex
  exfs : ∀ b ∈ X.ex, b ∉ X.fs
  funs : X.s₀.heap.FunFrames X.base X.outer
  frf : ∀ b ∈ X.fs, X.H₀ b = none
structure Inv (X : Cx) (pins : List (Addr × Obj)) (σ : List (Option V)) (H : Hp) (s : Shared) : Prop where
  ok : X.Ok
  os : s.os = X.s₀.os
  bare : AllBare s.gens
  base : Un X.fs X.ex X.H₀ H X.s₀.heap s.heap
  loc : ∃ m, s.heap.Ns X.env.locals m ∧ ∀ (i : Nat) (x : Str) (v : V), X.N[i]? = some x → σ[i]? = some (some v) → Vis X.env.scope x → ∃ u, RelV v u ∧ Look X.env s.heap m x u
  cell : ∀ x c, X.env.cells.lookup x = some c → ∃ v, s.heap.IsCell c v
  free : H X.env.locals = none
  freeC : ∀ x c, X.env.cells.lookup x = some c → H c = none
  pin : ∀ p ∈ X.pn ++ pins, s.heap.get? p.1 = some p.2 ∧ H p.1 = none ∧ p.1 ≠ X.env.locals ∧ p.1 ∉ X.fs ∧ ∀ v, p.2.data ≠ .cell v
  hok : HOk X.prog X.w H s.heap
  len : σ.length = X.N.length
section
variable {X : Cx} {pins : List (Addr × Obj)} {σ : List (Option V)} {H H' : Hp} {s : Shared} {h' : Heap}
theorem Cx.Ok.nofr (ok : X.Ok) {b : Addr} {o : Obj} (e : X.base.get? b = some o) : b ∉ X.fs := fun hb => by
  have := (ok.funs.mem hb).1
  rw [e] at this; cases this
theorem Inv.bs (I : Inv X pins σ H s) : ∀ b o, X.base.get? b = some o → s.heap.get? b = some o ∧ H b = none := fun b o e =>
  ⟨I.base.keep b o (I.ok.bs b o e).1 (I.ok.bs b o e).2 (I.ok.nofr e) (I.ok.noex b o e), I.base.free b o (I.ok.bs b o e).1 (I.ok.bs b o e).2 (I.ok.noex b o e)⟩
theorem Inv.bk (I : Inv X pins σ H s) : ∀ b o, X.base.get? b = some o → s.heap.get? b = some o := fun b o e => (I.bs b o e).1
theorem Inv.mod (I : Inv X pins σ H s) : Mod X.K X.mg X.base := I.ok.mod
theorem Inv.kIn (I : Inv X pins σ H s) : X.K.In s.heap := I.ok.mod.kin.keeps I.bk
theorem Inv.nolimit (I : Inv X pins σ H s) : s.heap.NoLimit := I.ok.mod.nolimit.keeps I.bk
theorem Inv.lt (I : Inv X pins σ H s) : X.env.locals < s.heap.objs.size := let ⟨_, hn, _⟩ := I.loc; hn.lt
theorem Inv.sz (I : Inv X pins σ H s) : X.s₀.heap.objs.size ≤ s.heap.objs.size := Nat.le_trans I.ok.above (Nat.le_of_lt I.lt)
theorem Inv.nofs (I : Inv X pins σ H s) {a : Addr} (h : s.heap.objs.size ≤ a) : a ∉ X.fs := fun hb => by
  obtain ⟨_, o, ho, _⟩ := I.ok.funs.mem hb
  exact absurd (Nat.lt_of_lt_of_le (Heap.lt_size ho) (Nat.le_trans I.sz h)) (Nat.lt_irrefl _)
theorem Inv.cne (I : Inv X pins σ H s) : ∀ x c, X.env.cells.lookup x = some c → c ≠ X.env.locals := fun x c e z => by
  obtain ⟨v, o, ho, hd⟩ := I.cell x c e
  obtain ⟨m, ⟨o', es, ep, ho', hd', _⟩, _⟩ := I.loc
  rw [z, ho'] at ho; cases ho; rw [hd'] at hd; cases hd
theorem Inv.funs (I : Inv X pins σ H s) : s.heap.FunFrames X.base X.outer := by
  have all : ∀ (l : List Env), (∀ b ∈ frs l, b ∈ X.fs) → X.s₀.heap.FunFrames X.base l → s.heap.FunFrames X.base l := by
    intro l
    induction l with
    | nil => intro _ _; trivial
    | cons env r ih =>
      intro hs hl
      obtain ⟨hk, ⟨L, o, hf, hn, ho, hd⟩, hr⟩ := hl
      have hL : L ∈ X.fs := hs L (by unfold frs; rw [List.filterMap_cons, hf]; exact List.mem_cons_self)
      obtain ⟨sl, e⟩ := I.base.slot L o ho (I.ok.frf L hL) hL fun z => I.ok.exfs L z hL
      exact ⟨hk, ⟨L, _, hf, hn, e, hd⟩, ih (fun b hb => hs b (by unfold frs; rw [List.filterMap_cons, hf]; exact List.mem_cons_of_mem _ hb)) hr⟩
  exact all X.outer (fun _ hb => hb) I.ok.funs
theorem Inv.stack (I : Inv X pins σ H s) : s.heap.FunFrames X.base X.stack := by
  rcases I.ok.stk with e | ⟨e, hf⟩
  · rw [e]; exact I.funs
  · rw [e]
    obtain ⟨m, hn, _⟩ := I.loc
    refine .cons (by rw [I.ok.kind]; decide) hf hn ?_ I.funs
    exact Heap.get?_none_of_le (Nat.le_trans I.ok.bsz I.ok.above)
theorem Inv.stkSub (I : Inv X pins σ H s) : ∀ b ∈ frs X.stack, b ∈ X.env.locals :: X.fs := fun b hb => by
  rcases I.ok.stk with e | ⟨e, hf⟩
  · rw [e] at hb; exact List.mem_cons_of_mem _ hb
  · rw [e] at hb
    unfold frs at hb
    rw [List.filterMap_cons, hf] at hb
    exact hb
theorem Inv.stkFree (I : Inv X pins σ H s) : ∀ b ∈ frs X.stack, H b = none := fun b hb => by
  rcases List.mem_cons.mp (I.stkSub b hb) with e | hb
  · rw [e]; exact I.free
  · obtain ⟨_, o, ho, _⟩ := I.ok.funs.mem hb
    exact I.base.free b o ho (I.ok.frf b hb) fun z => I.ok.exfs b z hb
theorem Inv.step {g' : Array GenState} {t' : Nat} {d' : Drawn} {ch : List Addr} (I : Inv X pins σ H s)
    (hch : ∀ b ∈ ch, (b ∈ X.ex ∨ X.s₀.heap.objs.size ≤ b) ∧ b ≠ X.env.locals ∧ (∀ x c, X.env.cells.lookup x = some c → c ≠ b) ∧ ∀ p ∈ X.pn ++ pins, p.1 ≠ b)
    (keep : ∀ b o, b ≠ X.env.locals → b ∉ X.fs → b ∉ ch → s.heap.get? b = some o → H b = none → h'.get? b = some o)
    (slot : ∀ b o, b ≠ X.env.locals → b ∈ X.fs → b ∉ ch → s.heap.get? b = some o → H b = none → ∃ sl, h'.get? b = some { o with slots := sl }) (free : ∀ b o, b ∉ ch → s.heap.get? b = some o → H b = none → H' b = none)
    (there : ∀ b o, b ∉ ch → s.heap.get? b = some o → ∃ o', h'.get? b = some o')
    (tups : ∀ b xs, H b = some (.tup xs) → H' b = some (.tup xs)) (frzs : ∀ b o u, H b = some (.frz o u) → H' b = some (.frz o u)) (tbls : ∀ b ps, H b = some (.tbl ps) → ∃ more, H' b = some (.tbl (ps ++ more)))
    (ns : ∀ m, s.heap.Ns X.env.locals m → h'.Ns X.env.locals m) (hok : HOk X.prog X.w H' h') (hg : AllBare g') :
    Inv X pins σ H' { s with heap := h', gens := g', drawn := d', toks := t' } := by
  have neL : ∀ b o, X.s₀.heap.get? b = some o → b ≠ X.env.locals := fun b o e => Nat.ne_of_lt (Nat.lt_of_lt_of_le (Heap.lt_size e) I.ok.above)
  have neC : ∀ b o, X.s₀.heap.get? b = some o → b ∉ X.ex → b ∉ ch := fun b o e hx hb => by
    rcases (hch b hb).1 with z | z
    · exact hx z
    · exact absurd (Nat.lt_of_lt_of_le (Heap.lt_size e) z) (Nat.lt_irrefl _)
  have cellK : ∀ x c, X.env.cells.lookup x = some c → ∀ v, s.heap.IsCell c v → h'.IsCell c v := fun x c e v ⟨o, ho, hd⟩ => by
    have nch : c ∉ ch := fun z => (hch c z).2.2.1 x c e rfl
    by_cases hc : c ∈ X.fs
    · obtain ⟨sl, q⟩ := slot c o (I.cne x c e) hc nch ho (I.freeC x c e)
      exact ⟨_, q, hd⟩
    · exact ⟨o, keep c o (I.cne x c e) hc nch ho (I.freeC x c e), hd⟩
  refine ⟨I.ok, I.os, hg, ⟨fun b o e n hb hx => ?_, fun b o e n hb hx => ?_, fun b o e n hx => ?_, fun b o e hx => ?_, fun b xs e => tups b xs (I.base.tups b xs e), fun b o xs e => frzs b o xs (I.base.frzs b o xs e), fun b ps e => ?_⟩, ?_, fun x c e => ?_, ?_, fun x c e => ?_, fun p hp => ?_, hok, I.len⟩
  · exact keep b o (neL b o e) hb (neC b o e hx) (I.base.keep b o e n hb hx) (I.base.free b o e n hx)
  · obtain ⟨sl, e1⟩ := I.base.slot b o e n hb hx
    obtain ⟨sl', e2⟩ := slot b _ (neL b o e) hb (neC b o e hx) e1 (I.base.free b o e n hx)
    exact ⟨sl', e2⟩
  · obtain ⟨o', e1⟩ := I.base.there b o e hx
    exact free b o' (neC b o e hx) e1 (I.base.free b o e n hx)
  · obtain ⟨o', e1⟩ := I.base.there b o e hx
    exact there b o' (neC b o e hx) e1
  · obtain ⟨m1, e1⟩ := I.base.tbls b ps e
    obtain ⟨m2, e2⟩ := tbls b _ e1
    exact ⟨m1 ++ m2, by rw [e2, Array.append_assoc]⟩
  · obtain ⟨m, hn, hl⟩ := I.loc
    refine ⟨m, ns m hn, fun i x v e1 e2 e3 => ?_⟩
    obtain ⟨u, r, l⟩ := hl i x v e1 e2 e3
    refine ⟨u, r, ?_⟩
    rcases l with l | ⟨k, c, e, z⟩
    · exact .inl l
    · exact .inr ⟨k, c, e, cellK x c e _ z⟩
  · obtain ⟨v, z⟩ := I.cell x c e
    exact ⟨v, cellK x c e v z⟩
  · obtain ⟨m, ⟨o, _, _, ho, _⟩, _⟩ := I.loc
    exact free _ o (fun z => (hch _ z).2.1 rfl) ho I.free
  · obtain ⟨v, o, ho, hd⟩ := I.cell x c e
    exact free c o (fun z => (hch c z).2.2.1 x c e rfl) ho (I.freeC x c e)
  · obtain ⟨e, n, ne, nf, d⟩ := I.pin p hp
    have nch : p.1 ∉ ch := fun z => (hch p.1 z).2.2.2 p hp rfl
    exact ⟨keep p.1 p.2 ne nf nch e n, free p.1 p.2 nch e n, ne, nf, d⟩
theorem Inv.un {t' : Nat} (I : Inv X pins σ H s) (u : Un X.fs [] H H' s.heap h') (hok : HOk X.prog X.w H' h') : Inv X pins σ H' { s with heap := h', toks := t' } := by
  obtain ⟨m, ⟨o, es, ep, ho, r⟩, _⟩ := id I.loc
  obtain ⟨sl, hL⟩ := u.any ho I.free (by simp)
  exact I.step (g' := s.gens) (d' := s.drawn) (ch := []) (fun _ z => nomatch z) (fun b o _ hb _ e n => u.keep b o e n hb (by simp)) (fun b o _ hb _ e n => u.slot b o e n hb (by simp)) (fun b o _ e n => u.free b o e n (by simp)) (fun b o _ e => u.there b o e (by simp)) u.tups u.frzs u.tbls (fun m' hm => by
    obtain ⟨o', es', ep', ho', r'⟩ := hm
    rw [ho] at ho'; cases ho'
    exact ⟨_, es', ep', hL, r'⟩) hok I.bare
theorem Inv.call {g' : Array GenState} {t' : Nat} {d' : Drawn} {ch : List Addr} (I : Inv X pins σ H s) (u : Un (frs X.stack) ch H H' s.heap h') (hok : HOk X.prog X.w H' h') (hg : AllBare g')
    (hch : ∀ b ∈ ch, (b ∈ X.ex ∨ X.s₀.heap.objs.size ≤ b) ∧ b ≠ X.env.locals ∧ (∀ x c, X.env.cells.lookup x = some c → c ≠ b) ∧ ∀ p ∈ X.pn ++ pins, p.1 ≠ b) :
    Inv X pins σ H' { s with heap := h', gens := g', drawn := d', toks := t' } := by
  obtain ⟨m, ⟨o, es, ep, ho, r⟩, _⟩ := id I.loc
  obtain ⟨sl, hL⟩ := u.any ho I.free fun z => (hch _ z).2.1 rfl
  exact I.step (ch := ch) hch (fun b o hL hb hc e n => u.keep b o e n (fun z => (List.mem_cons.mp (I.stkSub b z)).elim hL hb) hc) (fun b o _ _ hc e n => u.any e n hc) (fun b o hc e n => u.free b o e n hc) (fun b o hc e => u.there b o e hc) u.tups u.frzs u.tbls (fun m' hm => by
    obtain ⟨o', es', ep', ho', r'⟩ := hm
    rw [ho] at ho'; cases ho'
    exact ⟨_, es', ep', hL, r'⟩) hok hg
theorem Inv.turned {t' : Nat} {it : Addr} (I : Inv X pins σ H s) (k : ∀ b o, b ≠ it → s.heap.get? b = some o → h'.get? b = some o) (hn : H it = none) (hL : it ≠ X.env.locals)
    (h1 : it ∈ X.ex ∨ X.s₀.heap.objs.size ≤ it) (h2 : ∀ x c, X.env.cells.lookup x = some c → c ≠ it) (h3 : ∀ p ∈ X.pn ++ pins, p.1 ≠ it) : Inv X pins σ H { s with heap := h', toks := t' } := by
  have nit : ∀ b u, H b = some u → b ≠ it := fun b u e z => by rw [z, hn] at e; cases e
  refine I.step (g' := s.gens) (d' := s.drawn) (ch := [it]) (fun b hb => ?_) (fun b o _ _ hc e _ => k b o (fun z => hc (by simp [z])) e) (fun b o _ _ hc e _ => ⟨o.slots, k b o (fun z => hc (by simp [z])) e⟩) (fun _ _ _ _ n => n)
    (fun b o hc e => ⟨o, k b o (fun z => hc (by simp [z])) e⟩) (fun _ _ e => e) (fun _ _ _ e => e) (fun b ps e => ⟨#[], by rw [e]; simp⟩) (fun m hm => ?_) (fun b u e => ?_) I.bare
  · have e : b = it := by simpa using hb
    subst e
    exact ⟨h1, hL, h2, h3⟩
  · obtain ⟨o, es, ep, ho, r⟩ := hm
    exact ⟨o, es, ep, k _ o (Ne.symm hL) ho, r⟩
  · refine (I.hok b u e).stay (fun c v hc q => k c v ?_ q) (fun _ q => q) fun _ _ q => q
    rcases hc with z | z
    · rw [z]; exact nit b u e
    · exact nit c _ z
theorem Inv.tok (I : Inv X pins σ H s) (t : Nat) : Inv X pins σ H { s with toks := t } := I.un (h' := s.heap) (t' := t) Un.refl I.hok
theorem Inv.kept {t' : Nat} (I : Inv X pins σ H s) (k : ∀ b u, s.heap.get? b = some u → h'.get? b = some u) : Inv X pins σ H { s with heap := h', toks := t' } := I.un (Un.kept k) (I.hok.kept k)
theorem Inv.laid {a : Addr} {o : HO} {t' : Nat} (I : Inv X pins σ H s) (k : ∀ b u, s.heap.get? b = some u → h'.get? b = some u) (hp : s.heap.objs.size ≤ a) (new : jb X.prog X.w (upd H a o) h' a o) :
    Inv X pins σ (upd H a o) { s with heap := h', toks := t' } := I.un (Un.laid k hp (I.hok.fresh hp)) (I.hok.laid k hp new)
theorem Inv.write {x e : Addr} {o : HO} {t' : Nat} (I : Inv X pins σ H s) (mu : Mut (H x)) (he : e = x ∨ H e = some (.own x)) (k : ∀ b u, b ≠ e → s.heap.get? b = some u → h'.get? b = some u) (heo : ∃ u, h'.get? e = some u)
    (new : jb X.prog X.w (upd H x o) h' x o) : Inv X pins σ (upd H x o) { s with heap := h', toks := t' } := I.un (Un.write mu he k heo) (I.hok.write mu he k heo new)
theorem Inv.pins_of {pins' : List (Addr × Obj)} (I : Inv X pins σ H s) (h : ∀ p ∈ pins', s.heap.get? p.1 = some p.2 ∧ H p.1 = none ∧ p.1 ≠ X.env.locals ∧ p.1 ∉ X.fs ∧ ∀ v, p.2.data ≠ .cell v) : Inv X pins' σ H s :=
  ⟨I.ok, I.os, I.bare, I.base, I.loc, I.cell, I.free, I.freeC, fun p hp => (List.mem_append.mp hp).elim (fun z => I.pin p (List.mem_append_left _ z)) (h p), I.hok, I.len⟩
theorem zaY {N : List Str} (hN : N.Nodup) {i j : Nat} {x : Str} (a : N[i]? = some x) (b : N[j]? = some x) : i = j := by
  obtain ⟨h1, e1⟩ := List.getElem?_eq_some_iff.mp a
  obtain ⟨h2, e2⟩ := List.getElem?_eq_some_iff.mp b
  exact (List.getElem_inj hN).mp (e1.trans e2.symm)
theorem kx {M : Model} {A : Around} {E : Value → Shared → Prop} {i : Nat} {x : Str} {v : V} {u : Value} {Q : Unit → Shared → Prop} (I : Inv X pins σ H s) (hN : X.N.Nodup) (hi : X.N[i]? = some x) (hx : Loc X.env.scope x) (r : RelV v u)
    (h : ∀ s', Inv X pins (σ.set i (some v)) H s' → (∃ a, Heap.SameBut a s.heap s'.heap ∧ (a = X.env.locals ∨ X.env.cells.lookup x = some a)) → Q () s') (hf : X.fn x = true ∨ X.env.scope.names.lookup x = some .local := by first | exact .inl rfl | exact .inr rfl | assumption) : wpAny M A (storeName X.env x u) Q E s := by
  obtain ⟨m, hn, hl⟩ := id I.loc
  have hcls : (X.env.scope.kind == .class || (X.env.scope.kind == .module && X.env.locals != X.env.globals)) = false := by rw [I.ok.kind]; rfl
  have hiσ : i < σ.length := by rw [I.len]; exact (List.getElem?_eq_some_iff.mp hi).1
  have cne := I.cne
  have tracked : ∀ {a : Addr} {h' : Heap}, (∃ o, s.heap.get? a = some o ∧ H a = none) → Heap.SameBut a s.heap h' → HOk X.prog X.w H h' := fun {a h'} ha hs b ob e => by
    obtain ⟨_, _, hfree⟩ := ha
    refine (I.hok b ob e).stay (fun c w' hc q => (hs.2 c ?_).trans q) (fun _ q => q) fun _ _ q => q
    rintro rfl
    rcases hc with rfl | hc
    · rw [hfree] at e; cases e
    · rw [hfree] at hc; cases hc
  rcases hx with hk | hk
  · refine wpAny_storeName_local hk hn (fun h' hn' hs => ?_) hcls
    obtain ⟨oL, _, _, hoL, _⟩ := id hn
    refine h _ ⟨I.ok, I.os, I.bare, ⟨fun b o e n hb hx => ?_, fun b o e n hb hx => ?_, I.base.free, fun b o e hx => ?_, I.base.tups, I.base.frzs, I.base.tbls⟩, ⟨_, hn', fun j y v' e1 e2 e3 => ?_⟩, fun y c e => ?_, I.free, I.freeC, fun p hp => ?_, tracked ⟨oL, hoL, I.free⟩ hs, by simpa using I.len⟩ ⟨_, hs, .inl rfl⟩
    · exact (hs.2 b (Nat.ne_of_lt (Nat.lt_of_lt_of_le (Heap.lt_size e) I.ok.above))).trans (I.base.keep b o e n hb hx)
    · obtain ⟨sl, e1⟩ := I.base.slot b o e n hb hx
      exact ⟨sl, (hs.2 b (Nat.ne_of_lt (Nat.lt_of_lt_of_le (Heap.lt_size e) I.ok.above))).trans e1⟩
    · obtain ⟨o', e1⟩ := I.base.there b o e hx
      exact ⟨o', (hs.2 b (Nat.ne_of_lt (Nat.lt_of_lt_of_le (Heap.lt_size e) I.ok.above))).trans e1⟩
    · by_cases hj : j = i
      · subst hj
        rw [hi] at e1; cases e1
        rw [List.getElem?_set_self hiσ] at e2
        cases e2
        exact ⟨u, r, .inl ⟨hk, by simp⟩⟩
      · rw [List.getElem?_set_ne (Ne.symm hj)] at e2
        obtain ⟨u', r', q⟩ := hl j y v' e1 e2 e3
        refine ⟨u', r', ?_⟩
        rcases q with ⟨k, e⟩ | ⟨k, c, e, z⟩
        · refine .inl ⟨k, ?_⟩
          have : y ≠ x := fun e => hj (zaY hN e1 (e ▸ hi))
          simp [this, e]
        · exact .inr ⟨k, c, e, z.sameBut hs (cne y c e)⟩
    · obtain ⟨w', z⟩ := I.cell y c e
      exact ⟨w', z.sameBut hs (cne y c e)⟩
    · obtain ⟨e, n, ne, nf, d⟩ := I.pin p hp
      exact ⟨(hs.2 p.1 ne).trans e, n, ne, nf, d⟩
  · have hfn : X.fn x = true := by
      rcases hf with z | z
      · exact z
      · rw [z] at hk; cases hk
    obtain ⟨c, hc⟩ := I.ok.has x (.inl hk)
    obtain ⟨w', z⟩ := I.cell x c hc
    refine wpAny_storeName_cell I.ok.kind hk hc z (fun h' hc' hs => ?_)
    obtain ⟨oc, hoc, hocd⟩ := id z
    refine h { s with heap := h' } ⟨I.ok, I.os, I.bare, ⟨fun b o e n hb hx => ?_, fun b o e n hb hx => ?_, I.base.free, fun b o e hx => ?_, I.base.tups, I.base.frzs, I.base.tbls⟩, ⟨m, hn.sameBut hs (Ne.symm (cne x c hc)), fun j y v' e1 e2 e3 => ?_⟩, fun y c' e => ?_, I.free, I.freeC, fun p hp => ?_, tracked ⟨oc, hoc, I.freeC x c hc⟩ hs, by simpa using I.len⟩ ⟨c, hs, .inr hc⟩
    · exact (hs.2 b (Nat.ne_of_lt (Nat.lt_of_lt_of_le (Heap.lt_size e) (I.ok.cab x c hfn hc)))).trans (I.base.keep b o e n hb hx)
    · obtain ⟨sl, e1⟩ := I.base.slot b o e n hb hx
      exact ⟨sl, (hs.2 b (Nat.ne_of_lt (Nat.lt_of_lt_of_le (Heap.lt_size e) (I.ok.cab x c hfn hc)))).trans e1⟩
    · obtain ⟨o', e1⟩ := I.base.there b o e hx
      exact ⟨o', (hs.2 b (Nat.ne_of_lt (Nat.lt_of_lt_of_le (Heap.lt_size e) (I.ok.cab x c hfn hc)))).trans e1⟩
    · by_cases hj : j = i
      · subst hj
        rw [hi] at e1; cases e1
        rw [List.getElem?_set_self hiσ] at e2
        cases e2
        exact ⟨u, r, .inr ⟨.inl hk, c, hc, hc'⟩⟩
      · rw [List.getElem?_set_ne (Ne.symm hj)] at e2
        obtain ⟨u', r', q⟩ := hl j y v' e1 e2 e3
        refine ⟨u', r', ?_⟩
        rcases q with q | ⟨k, c', e, z'⟩
        · exact .inl q
        · refine .inr ⟨k, c', e, z'.sameBut hs ?_⟩
          rintro rfl
          exact hj (zaY hN e1 (I.ok.inj _ _ _ e hc ▸ hi))
    · by_cases hcc : c' = c
      · subst hcc; exact ⟨_, hc'⟩
      · obtain ⟨w2, z2⟩ := I.cell y c' e
        exact ⟨w2, z2.sameBut hs hcc⟩
    · obtain ⟨e, n, ne, nf, d⟩ := I.pin p hp
      refine ⟨(hs.2 p.1 ?_).trans e, n, ne, nf, d⟩
      intro q
      rw [q, hoc] at e
      have q' : oc = p.2 := Option.some.inj e
      exact d w' (by rw [← q']; exact hocd)
theorem zeC {M : Model} {A : Around} {E : Value → Shared → Prop} {i : Nat} {x : Str} {v : V} {u : Value} {Q : Unit → Shared → Prop} (I : Inv X pins σ H s) (hN : X.N.Nodup) (hi : X.N[i]? = some x) (hx : Loc X.env.scope x) (r : RelV v u)
    (h : ∀ s', Inv X pins (σ.set i (some v)) H s' → Q () s') (hf : X.fn x = true ∨ X.env.scope.names.lookup x = some .local := by first | exact .inl rfl | exact .inr rfl | assumption) : wpAny M A (storeName X.env x u) Q E s :=
  kx I hN hi hx r (fun s' I' _ => h s' I') hf
theorem Inv.call' {s' : Shared} {ch : List Addr} (I : Inv X pins σ H s) (ho : s'.os = s.os) (u : Un (frs X.stack) ch H H' s.heap s'.heap) (hok : HOk X.prog X.w H' s'.heap) (hg : AllBare s'.gens)
    (hch : ∀ b ∈ ch, (b ∈ X.ex ∨ X.s₀.heap.objs.size ≤ b) ∧ b ≠ X.env.locals ∧ (∀ x c, X.env.cells.lookup x = some c → c ≠ b) ∧ ∀ p ∈ X.pn ++ pins, p.1 ≠ b) : Inv X pins σ H' s' := by
  obtain ⟨h', g', d', t', o'⟩ := s'
  have e : o' = s.os := ho
  subst e
  exact I.call (g' := g') (t' := t') (d' := d') u hok hg hch
end
abbrev XK := Value → Option Addr → Hp → Prop
abbrev St := List (Option V)
abbrev VK := V → Hp → Prop
abbrev TE := St → Hp → VK → Prop
abbrev TT := St → Hp → (Bool → Hp → Prop) → Prop
abbrev TA := St → Hp → (List V → Hp → Prop) → Prop
structure Ends where
  nx : St → Hp → Prop
  rt : VK
  bk : St → Hp → Prop := fun _ _ => False
  ct : St → Hp → Prop := fun _ _ => False
abbrev TS := Ends → St → Hp → Prop
def EP (X : Cx) (pins : List (Addr × Obj)) (σ : St) (Q : VK) (u : Value) (s' : Shared) : Prop := ∃ v H', Inv X pins σ H' s' ∧ RelV v u ∧ Q v H'
def TP (X : Cx) (pins : List (Addr × Obj)) (σ : St) (Q : Bool → Hp → Prop) (b : Bool) (s' : Shared) : Prop := ∃ H', Inv X pins σ H' s' ∧ Q b H'
def AP (X : Cx) (pins : List (Addr × Obj)) (σ : St) (Q : List V → Hp → Prop) (us : List Value) (s' : Shared) : Prop := ∃ vs H', Inv X pins σ H' s' ∧ Vals vs us ∧ Q vs H'
def SP (X : Cx) (pins : List (Addr × Obj)) (D : Ends) (f : Flow) (s' : Shared) : Prop :=
  match f with
  | .next => ∃ σ' H', Inv X pins σ' H' s' ∧ D.nx σ' H'
  | .brk => ∃ σ' H', Inv X pins σ' H' s' ∧ D.bk σ' H'
  | .cont => ∃ σ' H', Inv X pins σ' H' s' ∧ D.ct σ' H'
  | .ret u => ∃ v σ' H', Inv X pins σ' H' s' ∧ RelV v u ∧ D.rt v H'
def PE (X : Cx) (e : Expr) (t : TE) : Prop :=
  ∀ (pins : List (Addr × Obj)) (s : Shared) (σ : St) (H : Hp) (Q : VK), Inv X pins σ H s → t σ H Q → wpAny (model X.prog X.w) X.A (eval e X.env) (EP X pins σ Q) X.xe s
def PT (X : Cx) (e : Expr) (t : TT) : Prop :=
  ∀ (pins : List (Addr × Obj)) (s : Shared) (σ : St) (H : Hp) (Q : Bool → Hp → Prop), Inv X pins σ H s → t σ H Q → wpAny (model X.prog X.w) X.A (isTrue e X.env (eval e X.env)) (TP X pins σ Q) X.xe s
def PW (X : Cx) (e : Expr) (t : TT) : Prop :=
  ∀ (whole : Sem Value) (pins : List (Addr × Obj)) (s : Shared) (σ : St) (H : Hp) (Q : Bool → Hp → Prop), Inv X pins σ H s → t σ H Q → wpAny (model X.prog X.w) X.A (isTrue e X.env whole) (TP X pins σ Q) X.xe s
theorem PW.pt {X : Cx} {e : Expr} {t : TT} (h : PW X e t) : PT X e t := h _
def PA (X : Cx) (es : List Expr) (t : TA) : Prop :=
  ∀ (pos : Pos) (pins : List (Addr × Obj)) (s : Shared) (σ : St) (H : Hp) (Q : List V → Hp → Prop), Inv X pins σ H s → t σ H Q → wpAny (model X.prog X.w) X.A (spliced (backTo pos (starEach es X.env))) (AP X pins σ Q) X.xe s
def PS (X : Cx) (st : Stmt) (t : TS) : Prop :=
  ∀ (pins : List (Addr × Obj)) (s : Shared) (σ : St) (H : Hp) (D : Ends), Inv X pins σ H s → t D σ H → wpAny (model X.prog X.w) X.A (exec st X.env) (SP X pins D) X.xe s
def PSs (X : Cx) (st : List Stmt) (t : TS) : Prop :=
  ∀ (pins : List (Addr × Obj)) (s : Shared) (σ : St) (H : Hp) (D : Ends), Inv X pins σ H s → t D σ H → wpAny (model X.prog X.w) X.A (execs st X.env) (SP X pins D) X.xe s
theorem thn {α : Type} {t : Sem α} {Q Q' : α → Shared → Prop} {M : Model} {A : Around} {E : Value → Shared → Prop} {s : Shared} (h : wpAny M A t Q E s) (hQ : ∀ a s, Q a s → Q' a s) : wpAny M A t Q' E s := wpAny_mono h hQ fun _ _ x => x
end L2
namespace L2
open PySem PySem.Spec PyProof.Rows
section
variable {X : Cx}
def tVar (i : Nat) : TE := fun σ H Q => ∃ v, σ[i]? = some (some v) ∧ Q v H
def tC (v : V) : TE := fun _ H Q => Q v H
theorem zgj {i : Nat} {x : Str} {pos : Pos} (hN : X.N[i]? = some x) (hv : Vis X.env.scope x) (hd : (x == ("__debug__" : Str)) = false := by decide) (hcd : (x == ("__classdict__" : Str)) = false := by decide) : PE X (.Name x pos) (tVar i) := by
  intro pins s σ H Q I h
  obtain ⟨v, e, h⟩ := h
  obtain ⟨m, hn, hl⟩ := I.loc
  obtain ⟨u, r, l⟩ := hl i x v hN e hv
  have fin : EP X pins σ Q u s := ⟨v, H, I, r, h⟩
  rcases l with ⟨hk, hm⟩ | ⟨hk, c, hc, hcell⟩
  · exact wpAny_Name (wpAny_loadName_local I.ok.kind hk hn hm fin) hd
  · rcases hk with hk | hk
    · exact wpAny_Name (wpAny_loadName_cell I.ok.kind hk hc hcell fin) hd
    · exact wpAny_Name (wpAny_loadName_free I.ok.kind hk hc hcell fin hcd) hd
theorem zgm {i j pos} : PE X (.Constant (.int i) j pos) (tC (.int i)) := fun _ _ _ H _ I h => wpAny_Constant_int ⟨.int i, H, I.tok _, ⟨_, rfl⟩, h⟩
theorem zht {b j pos} : PE X (.Constant (.bool b) j pos) (tC (.bl b)) := fun _ _ _ H _ I h => Constant_bool ⟨.bl b, H, I, rfl, h⟩
def Gl (X : Cx) (x : Str) : Prop := X.env.kindOf x = some .globalImplicit
theorem zfV {E : Value → Shared → Prop} {pins : List (Addr × Obj)} {s : Shared} {σ : St} {H : Hp} {x : Str} {u : Value} {pos : Pos} {Q : Value → Shared → Prop} (I : Inv X pins σ H s) (hg : Gl X x) (hm : X.mg x = some u) (h : Q u s)
    (hd : (x == ("__debug__" : Str)) = false := by decide) : wpAny (model X.prog X.w) X.A (eval (.Name x pos) X.env) Q E s :=
  Calls.Name_function_global I.ok.kind hg (Calls.loadGlobal_global (by rw [I.ok.glob]; exact I.mod.glob.keeps I.bk) hm h) hd
theorem wg {E : Value → Shared → Prop} {pins : List (Addr × Obj)} {s : Shared} {σ : St} {H : Hp} {x : Str} {u : Value} {pos : Pos} {Q : Value → Shared → Prop} (I : Inv X pins σ H s) (hg : Gl X x) (hm : X.mg x = none) (hv : bootBuiltins x = some u) (h : Q u s)
    (hn : x ≠ "__name__" := by decide) (hd : (x == ("__debug__" : Str)) = false := by decide) : wpAny (model X.prog X.w) X.A (eval (.Name x pos) X.env) Q E s := by
  obtain ⟨mb, h1, h2⟩ := I.mod.blt
  exact Calls.Name_function_global I.ok.kind hg (Calls.loadGlobal_builtin (by rw [I.ok.glob]; exact I.mod.glob.keeps I.bk) hm (by rw [I.ok.blt]; exact h1.keeps I.bk) ((h2 x hn).trans hv) h) hd
theorem zf1 {x : Str} {v : V} {u : Value} {pos : Pos} (hg : Gl X x) (hm : X.mg x = none) (hv : bootBuiltins x = some u) (r : RelV v u) (hn : x ≠ "__name__" := by decide) (hd : (x == ("__debug__" : Str)) = false := by decide) : PE X (.Name x pos) (tC v) :=
  fun _ _ _ H _ I h => wg I hg hm hv ⟨v, H, I, r, h⟩ hn hd
variable {a b : Expr} {ta tb : TE} {pos : Pos}
variable {tA tB' : TT} {rest : List Expr}
def tAnd (t u : TT) : TT := fun σ H Q => t σ H fun c H1 => if c = true then u σ H1 Q else Q false H1
theorem zf0 (ha : PT X a tA) : PW X (.BoolOp .And [a] pos) tA := by
  intro wh pins s σ H Q I h
  refine isTrue_and (thn (ha pins s σ H Q I h) fun c s1 e => ?_)
  cases c with
  | true => exact isTrue_and_nil e
  | false => exact e
theorem zgp (ha : PT X a tA) (hb : PW X (.BoolOp .And (b :: rest) pos) tB') : PW X (.BoolOp .And (a :: b :: rest) pos) (tAnd tA tB') := by
  intro wh pins s σ H Q I h
  refine isTrue_and (thn (ha pins s σ H _ I h) fun c s1 ⟨H1, I1, q1⟩ => ?_)
  cases c with
  | true => exact hb wh pins s1 σ H1 Q I1 q1
  | false => exact ⟨H1, I1, q1⟩
def zhv (ta tb : TE) : TE := fun σ H Q => ta σ H fun x H1 => ∃ c, x = .bl c ∧ if c = true then tb σ H1 Q else Q (.bl false) H1
def zhk (ta : TE) : TE := fun σ H Q => ta σ H fun x H1 => ∃ c, x = .bl c ∧ Q (.bl (!c)) H1
theorem zgX {op} {t : TE} (h : PE X a t) : PE X (.BoolOp op [a] pos) t := fun pins s σ H Q I hw => BoolOp_one (h pins s σ H Q I hw)
theorem zg8 (ha : PE X a ta) (hb : PE X (.BoolOp .And (b :: rest) pos) tb) : PE X (.BoolOp .And (a :: b :: rest) pos) (zhv ta tb) := by
  intro pins s σ H Q I h
  refine BoolOp_and (thn (ha pins s σ H _ I h) fun v s1 ⟨x, H1, I1, r1, q1⟩ => ?_)
  obtain ⟨c, rfl, q1⟩ := q1
  cases r1
  refine wpAny_truthy_bool ?_
  cases c with
  | true => exact hb pins s1 σ H1 Q I1 q1
  | false => exact ⟨.bl false, H1, I1, rfl, q1⟩
theorem zgw (ha : PE X a ta) : PE X (.UnaryOp .Not a pos) (zhk ta) := by
  intro pins s σ H Q I h
  refine UnaryOp_ (thn (ha pins s σ H _ I h) fun v s1 ⟨x, H1, I1, r1, q1⟩ => ?_)
  obtain ⟨c, rfl, q1⟩ := q1
  cases r1
  exact not_of (wpAny_truthy_bool ⟨.bl (!c), H1, I1, rfl, q1⟩)
def tIf (t : TT) (ta tb : TE) : TE := fun σ H Q => t σ H fun c H1 => if c = true then ta σ H1 Q else tb σ H1 Q
theorem zeQ {c : Expr} (hc : PT X c tA) (ha : PE X a ta) (hb : PE X b tb) : PE X (.IfExp c a b pos) (tIf tA ta tb) := by
  intro pins s σ H Q I h
  refine wpAny_IfExp (thn (hc pins s σ H _ I h) fun d s1 ⟨H1, I1, q1⟩ => ?_)
  cases d with
  | true => exact ha pins s1 σ H1 Q I1 q1
  | false => exact hb pins s1 σ H1 Q I1 q1
end
end L2
namespace L2
open PySem PySem.Spec PyProof.Rows
def SqL (K : PySem.W.Frag) (H : Hp) (a : Addr) (xs : List V) : Prop :=
  Rd H a (.lst xs) ∨
    ∃ (o : Obj) (its : Array Value) (n : Nat), K.lookup a = some o ∧ o.cls = .type "list" ∧ o.dict = none ∧ o.data = .seq its n ∧ its.size ≤ sizeLine ∧ Vals xs its.toList
def SqT (K : PySem.W.Frag) (H : Hp) (a : Addr) (xs : List V) : Prop :=
  Rd H a (.tup xs) ∨
    ∃ (o : Obj) (its : Array Value) (n : Nat), K.lookup a = some o ∧ o.cls = .type "tuple" ∧ o.data = .seq its n ∧ its.size ≤ sizeLine ∧ Vals xs its.toList
def absV : Value → Option V
  | .none => some .non
  | .bool b => some (.bl b)
  | .int i _ => some (.int i)
  | .str x _ => some (.str x)
  | .bytes b _ => some (.byt b)
  | .float b _ => some (.flt b)
  | .ref a => some (.ref a)
  | .type n => some (.ty n)
  | _ => none
theorem RelV.abs {x : V} {u : Value} (r : RelV x u) : absV u = some x := by
  cases x with
  | non => cases r; rfl
  | bl _ => cases r; rfl
  | int _ => obtain ⟨t, rfl⟩ := r; rfl
  | str _ => obtain ⟨t, rfl⟩ := r; rfl
  | byt _ => obtain ⟨t, rfl⟩ := r; rfl
  | flt _ => obtain ⟨t, rfl⟩ := r; rfl
  | ref _ => cases r; rfl
  | ty _ => cases r; rfl
theorem RelV.inj {x y : V} {u : Value} (r : RelV x u) (q : RelV y u) : x = y := Option.some.inj (r.abs.symm.trans q.abs)
theorem Vals.inj : ∀ {xs ys : List V} {us : List Value}, Vals xs us → Vals ys us → xs = ys
  | _, _, _, .nil, .nil => rfl
  | _, _, _, .cons r t, .cons r' t' => by rw [r.inj r', Vals.inj t t']
section
variable {X : Cx} {pins : List (Addr × Obj)} {σ : St} {H : Hp} {s : Shared} {a : Addr} {xs ys : List V}
theorem SqL.of {K : PySem.W.Frag} (h : H a = some (.lst xs)) : SqL K H a xs := .inl (.inl h)
theorem SqT.of {K : PySem.W.Frag} (h : H a = some (.tup xs)) : SqT K H a xs := .inl (.inl h)
theorem Inv.list (I : Inv X pins σ H s) (h : SqL X.K H a xs) : ∃ its : List Value, Vals xs its ∧ PlainL s.heap a its.toArray ∧ xs.length ≤ sizeLine := by
  rcases h with h | ⟨o, its, n, hk, hc, hd, hs, hz, r⟩
  · obtain ⟨z, its, n, r, e⟩ := h.ok I.hok
    exact ⟨its, r, ⟨_, n, e, rfl, rfl, rfl⟩, z⟩
  · refine ⟨its.toList, r, ⟨o, n, I.kIn a o hk, hc, hd, by simpa using hs⟩, ?_⟩
    have e := r.length
    simp only [Array.length_toList] at e
    omega
theorem Inv.tuple (I : Inv X pins σ H s) (h : SqT X.K H a xs) : ∃ its : List Value, Vals xs its ∧ IsTup s.heap a its.toArray ∧ xs.length ≤ sizeLine := by
  rcases h with h | ⟨o, its, n, hk, hc, hs, hz, r⟩
  · obtain ⟨z, its, r, p⟩ := h.ok I.hok
    exact ⟨its, r, p, z⟩
  · refine ⟨its.toList, r, ⟨o, I.kIn a o hk, hc, n, by simpa using hs⟩, ?_⟩
    have e := r.length
    simp only [Array.length_toList] at e
    omega
theorem Inv.list_inj (I : Inv X pins σ H s) (h : SqL X.K H a xs) (h' : SqL X.K H a ys) : xs = ys := by
  obtain ⟨its, r, ⟨o, n, e, _, _, d⟩, _⟩ := I.list h
  obtain ⟨its', r', ⟨o', n', e', _, _, d'⟩, _⟩ := I.list h'
  rw [e] at e'; cases e'
  rw [d] at d'
  injection d' with d1 _
  have : its = its' := by simpa using congrArg Array.toList d1
  subst this
  exact r.inj r'
theorem Inv.tuple_inj (I : Inv X pins σ H s) (h : SqT X.K H a xs) (h' : SqT X.K H a ys) : xs = ys := by
  obtain ⟨its, r, ⟨o, e, _, n, d⟩, _⟩ := I.tuple h
  obtain ⟨its', r', ⟨o', e', _, n', d'⟩, _⟩ := I.tuple h'
  rw [e] at e'; cases e'
  rw [d] at d'
  injection d' with d1 _
  have : its = its' := by simpa using congrArg Array.toList d1
  subst this
  exact r.inj r'
end
abbrev Cx.wish (X : Cx) (E : Value → Shared → Prop) : Cx := { X with xe := E }
abbrev Cx.nox (X : Cx) : Cx := X.wish fun _ _ => False
theorem Cx.Ok.wish {X : Cx} (ok : X.Ok) (E : Value → Shared → Prop) : (X.wish E).Ok :=
  ⟨ok.mod, ok.kind, ok.glob, ok.blt, ok.above, ok.inj, ok.has, ok.cab, ok.hd, ok.frames, ok.stk, ok.exf, ok.bs, ok.bsz, ok.noex, ok.exfs, ok.funs, ok.frf⟩
theorem Cx.Ok.unwish {X : Cx} {E : Value → Shared → Prop} (ok : (X.wish E).Ok) : X.Ok :=
  ⟨ok.mod, ok.kind, ok.glob, ok.blt, ok.above, ok.inj, ok.has, ok.cab, ok.hd, ok.frames, ok.stk, ok.exf, ok.bs, ok.bsz, ok.noex, ok.exfs, ok.funs, ok.frf⟩
section
variable {X : Cx} {pins : List (Addr × Obj)} {σ : St} {H : Hp} {s : Shared} {E : Value → Shared → Prop}
theorem Inv.wish (I : Inv X pins σ H s) (E : Value → Shared → Prop) : Inv (X.wish E) pins σ H s := ⟨I.ok.wish E, I.os, I.bare, I.base, I.loc, I.cell, I.free, I.freeC, I.pin, I.hok, I.len⟩
theorem Inv.unwish (I : Inv (X.wish E) pins σ H s) : Inv X pins σ H s := ⟨I.ok.unwish, I.os, I.bare, I.base, I.loc, I.cell, I.free, I.freeC, I.pin, I.hok, I.len⟩
theorem SP.unwish {D : Ends} {f : Flow} {s' : Shared} (h : SP (X.wish E) pins D f s') : SP X pins D f s' := by
  cases f with
  | next => obtain ⟨σ', H', I, q⟩ := h; exact ⟨σ', H', I.unwish, q⟩
  | brk => obtain ⟨σ', H', I, q⟩ := h; exact ⟨σ', H', I.unwish, q⟩
  | cont => obtain ⟨σ', H', I, q⟩ := h; exact ⟨σ', H', I.unwish, q⟩
  | ret u => obtain ⟨v, σ', H', I, r, q⟩ := h; exact ⟨v, σ', H', I.unwish, r, q⟩
theorem PE.nox {e : Expr} {t : TE} (h : PE X.nox e t) : PE X e t := fun pins s σ H Q I hw =>
  wpAny_mono (h pins s σ H Q (I.wish _) hw) (fun _ _ ⟨v, H', I', r, q⟩ => ⟨v, H', I'.unwish, r, q⟩) fun _ _ z => False.elim z
theorem PT.nox {e : Expr} {t : TT} (h : PT X.nox e t) : PT X e t := fun pins s σ H Q I hw =>
  wpAny_mono (h pins s σ H Q (I.wish _) hw) (fun _ _ ⟨H', I', q⟩ => ⟨H', I'.unwish, q⟩) fun _ _ z => False.elim z
theorem PSs.nox {st : List Stmt} {t : TS} (h : PSs X.nox st t) : PSs X st t := fun pins s σ H D I hw =>
  wpAny_mono (h pins s σ H D (I.wish _) hw) (fun _ _ q => q.unwish) fun _ _ z => False.elim z
end
section
variable {X : Cx} {st : Stmt} {rest : List Stmt} {t u : TS} {e : Expr} {te : TE} {pos : Pos}
def zhF : TS := fun D σ H => D.nx σ H
def tSeq (t u : TS) : TS := fun D σ H => t { D with nx := u D } σ H
theorem zfE : PSs X [] zhF := fun _ _ σ H _ I h => wpAny_execs_nil ⟨σ, H, I, h⟩
theorem zef (h1 : PS X st t) (h2 : PSs X rest u) : PSs X (st :: rest) (tSeq t u) := by
  intro pins s σ H D I h
  refine wpAny_execs_cons (thn (h1 pins s σ H { D with nx := u D } I h) fun f s1 q => ?_)
  cases f with
  | next =>
    obtain ⟨σ', H', I', q⟩ := q
    exact h2 pins s1 σ' H' D I' q
  | ret v => exact q
  | brk => exact q
  | cont => exact q
theorem zfP (h1 : PS X st t) : PSs X [st] t := by
  intro pins s σ H D I h
  refine wpAny_execs_cons (thn (h1 pins s σ H D I h) fun f s1 q => ?_)
  cases f with
  | next => exact wpAny_execs_nil q
  | ret v => exact q
  | brk => exact q
  | cont => exact q
theorem Inv.quiet {pins : List (Addr × Obj)} {σ : St} {H : Hp} {s : Shared} (I : Inv X pins σ H s) : interactive X.env = false := by simp [interactive, I.ok.kind]
def zhs (te : TE) : TS := fun D σ H => te σ H fun _ H1 => D.nx σ H1
theorem zfp (he : PE X e te) (hs : swapsWith e none pos.line X.env = pure false := by rfl) : PS X (.Expr e pos) (zhs te) := by
  intro pins s σ H D I h
  exact wpAny_Expr_any (thn (he pins s σ H _ I h) fun v s1 ⟨x, H1, I1, r1, q1⟩ => ⟨σ, H1, I1, q1⟩) I.quiet hs
def tRet (te : TE) : TS := fun D σ H => te σ H D.rt
theorem zgB (he : PE X e te) : PS X (.Return (some e) pos) (tRet te) := by
  intro pins s σ H D I h
  exact wpAny_Return_some (thn (he pins s σ H _ I h) fun v s1 ⟨x, H1, I1, r1, q1⟩ => ⟨x, σ, H1, I1, r1, q1⟩)
def tIfS (c : TT) (t u : TS) : TS := fun D σ H => c σ H fun b H1 => if b = true then t D σ H1 else u D σ H1
theorem zhh {c : Expr} {a b : List Stmt} {tc : TT} (hc : PT X c tc) (ha : PSs X a t) (hb : PSs X b u) : PS X (.If c a b pos) (tIfS tc t u) := by
  intro pins s σ H D I h
  refine wpAny_If (thn (hc pins s σ H _ I h) fun d s1 ⟨H1, I1, q1⟩ => ?_)
  cases d with
  | true => exact ha pins s1 σ H1 D I1 q1
  | false => exact hb pins s1 σ H1 D I1 q1
end
abbrev TG := V → St → Hp → (St → Hp → Prop) → Prop
abbrev TGs := List V → St → Hp → (St → Hp → Prop) → Prop
def PG (X : Cx) (target : Expr) (t : TG) : Prop :=
  ∀ (pins : List (Addr × Obj)) (s : Shared) (σ : St) (H : Hp) (v : V) (u : Value) (Q : St → Hp → Prop), Inv X pins σ H s → RelV v u → t v σ H Q →
    wpAny (model X.prog X.w) X.A (assign target X.env u) (fun _ s' => ∃ σ' H', Inv X pins σ' H' s' ∧ Q σ' H') X.xe s
def PGs (X : Cx) (ts : List Expr) (t : TGs) : Prop :=
  ∀ (pins : List (Addr × Obj)) (s : Shared) (σ : St) (H : Hp) (vs : List V) (us : List Value) (Q : St → Hp → Prop), Inv X pins σ H s → Vals vs us → t vs σ H Q →
    wpAny (model X.prog X.w) X.A (assignInOrder ((assignEach ts X.env).map (·.2)) us) (fun _ s' => ∃ σ' H', Inv X pins σ' H' s' ∧ Q σ' H') X.xe s
abbrev TSet := V → V → V → Hp → (Hp → Prop) → Prop
def PSet (X : Cx) (t : TSet) : Prop :=
  ∀ (pins : List (Addr × Obj)) (s : Shared) (σ : St) (H : Hp) (o i v : V) (ov iv u : Value) (Q : Hp → Prop), Inv X pins σ H s → RelV o ov → RelV i iv → RelV v u → t o i v H Q →
    wpAny (model X.prog X.w) X.A (setItem ov iv u) (fun _ s' => ∃ H', Inv X pins σ H' s' ∧ Q H') X.xe s
section
variable {X : Cx} {pos : Pos}
def kR (i : Nat) : TG := fun v σ H Q => Q (σ.set i (some v)) H
theorem zX {i : Nat} {x : Str} (hN : X.N.Nodup) (hi : X.N[i]? = some x) (hx : Loc X.env.scope x) (hf : X.fn x = true ∨ X.env.scope.names.lookup x = some .local := by first | exact .inl rfl | exact .inr rfl | assumption) : PG X (.Name x pos) (kR i) := by
  intro pins s σ H v u Q I r h
  exact wpAny_assign_Name (zeC I hN hi hx r (fun s' I' => ⟨_, H, I', h⟩) hf)
def gNil : TGs := fun vs σ H Q => vs = [] ∧ Q σ H
def zc (t : TG) (u : TGs) : TGs := fun vs σ H Q => ∃ v r, vs = v :: r ∧ t v σ H fun σ' H' => u r σ' H' Q
theorem zfG : PGs X [] gNil := by
  intro pins s σ H vs us Q I r h
  obtain ⟨e, h⟩ := h
  subst e
  cases r
  exact assignInOrder_nil ⟨σ, H, I, h⟩
theorem zdQ {e : Expr} {es : List Expr} {t : TG} {u : TGs} (h1 : PG X e t) (h2 : PGs X es u)
    (hs : (assignEach (e :: es) X.env).map (·.2) = assign e X.env :: (assignEach es X.env).map (·.2) := by rfl) : PGs X (e :: es) (zc t u) := by
  intro pins s σ H vs us Q I r h
  obtain ⟨v, vr, e1, h⟩ := h
  subst e1
  cases r with
  | cons r rr =>
    rw [hs]
    refine assignInOrder_cons (thn (h1 pins s σ H _ _ _ I r h) fun _ s1 ⟨σ1, H1, I1, q1⟩ => ?_)
    exact h2 pins s1 σ1 H1 _ _ Q I1 rr q1
def gTup (K : PySem.W.Frag) (n : Nat) (t : TGs) : TG := fun v σ H Q => ∃ a xs, v = .ref a ∧ SqT K H a xs ∧ xs.length = n ∧ t xs σ H Q
theorem zhb {es : List Expr} {k : Nat} {t : TGs} {n : Nat} (hc : X.calm = true) (h : PGs X es t)
    (hn : (assignEach es X.env).length = n := by rfl) (hst : (assignEach es X.env).findIdx? (·.1) = none := by rfl) : PG X (.Tuple es k pos) (gTup X.K n t) := by
  intro pins s σ H v u Q I r hw
  obtain ⟨a, xs, e1, hq, hl, hw⟩ := hw
  subst e1
  cases r
  obtain ⟨its, rv, ht, hz⟩ := I.tuple hq
  refine assign_Tuple_tuple (I.ok.hd hc) ht (by simp [hn, ← hl, rv.length]) hst fun h' hx => ?_
  have I1 : Inv X pins σ H { s with heap := h' } := I.kept (t' := s.toks) fun b o e => hx b o (Nat.ne_of_lt (Heap.lt_size e)) e
  exact h pins _ σ H xs _ Q I1 (by simpa using rv) hw
def gSub (to ti : TE) (t : TSet) : TG := fun v σ H Q => to σ H fun o H1 => ti σ H1 fun i H2 => t o i v H2 fun H3 => Q σ H3
theorem zg1 {o i : Expr} {to ti : TE} {t : TSet} (ho : PE X o to) (hi : PE X i ti) (hs : PSet X t)
    (ha : ∀ v, assign (.Subscript o i pos) X.env v = (do
      let ov ← holding [v] (eval o X.env)
      let iv ← holding [v, ov] (eval i X.env)
      standAt pos
      holding [v, ov, iv] (setItem ov iv v)
      release [v, ov, iv] []) := by intro _; rfl) : PG X (.Subscript o i pos) (gSub to ti t) := by
  intro pins s σ H v u Q I r h
  rw [ha]
  refine wpAny_bind (wpAny_holding (thn (ho pins s σ H _ I h) fun ov s1 ⟨x, H1, I1, r1, q1⟩ => ?_))
  refine wpAny_bind (wpAny_holding (thn (hi pins s1 σ H1 _ I1 q1) fun iv s2 ⟨y, H2, I2, r2, q2⟩ => ?_))
  refine wpAny_bind (wpAny_standAt (wpAny_bind (wpAny_holding (thn (hs pins s2 σ H2 x y v ov iv u _ I2 r1 r2 r q2) fun _ s3 ⟨H3, I3, q3⟩ => ?_))))
  exact wpAny_release ⟨σ, H3, I3, q3⟩
def tAsg (te : TE) (g : TG) : TS := fun D σ H => te σ H fun x H1 => g x σ H1 D.nx
theorem zaz {tg e : Expr} {te : TE} {g : TG} (he : PE X e te) (hg : PG X tg g) (hs : swapsWithSole [tg] e pos.line X.env = pure false := by rfl) (hw : swappedStores [tg] e X.env = pure none := by rfl)
    (h1 : (assignEach [tg] X.env).map (·.2) = [assign tg X.env] := by rfl) : PS X (.Assign [tg] e pos) (tAsg te g) := by
  intro pins s σ H D I h
  refine wpAny_Assign_stores (thn (he pins s σ H _ I h) fun v s1 ⟨x, H1, I1, r1, q1⟩ => ?_) hs hw
  rw [h1]
  exact thn (hg pins s1 σ H1 x v _ I1 r1 q1) fun _ s2 q => q
end
section
variable {X : Cx} {pos : Pos}
end
structure It where
  go : Nat → Hp → Prop
  yld : Nat → Hp → V → Hp → Prop
  stop : Nat → Hp → Prop
def FpOk (X : Cx) (pins : List (Addr × Obj)) (H : Hp) (b : Addr) : Prop :=
  H b = none ∧ b ≠ X.env.locals ∧ b ∉ X.fs ∧ (b ∈ X.ex ∨ X.s₀.heap.objs.size ≤ b) ∧ (∀ x c, X.env.cells.lookup x = some c → c ≠ b) ∧ ∀ p ∈ X.pn ++ pins, p.1 ≠ b
theorem Inv.fpOk {X : Cx} {pins : List (Addr × Obj)} {σ : St} {H H' : Hp} {s : Shared} {b : Addr} (I : Inv X pins σ H s) (hb : s.heap.objs.size ≤ b) (hn : H' b = none) : FpOk X pins H' b := by
  refine ⟨hn, Nat.ne_of_gt (Nat.lt_of_lt_of_le I.lt hb), I.nofs hb, .inr (Nat.le_trans I.sz hb), fun x c e z => ?_, fun p hp z => ?_⟩
  · obtain ⟨v, q⟩ := I.cell x c e
    exact absurd (Nat.lt_of_lt_of_le q.lt (by rw [z]; exact hb)) (Nat.lt_irrefl _)
  · exact absurd (Nat.lt_of_lt_of_le (Heap.lt_size (I.pin p hp).1) (by rw [z]; exact hb)) (Nat.lt_irrefl _)
structure Turn (P : Program) (w : World) (K : PySem.W.Frag) (tg : Expr) (J : It) (fp : List Addr) (it : Addr) (tn : Nat → Heap → Prop) : Prop where
  mem : it ∈ fp
  obj : ∀ i h, tn i h → ∀ b ∈ fp, ∃ o, h.get? b = some o ∧ ∀ v, o.data ≠ .cell v
  keep : ∀ i h h', tn i h → (∀ b ∈ fp, ∀ o, h.get? b = some o → h'.get? b = some o) → tn i h'
  item : ∀ (X : Cx), X.prog = P → X.w = w → X.K = K → X.calm = true → ∀ (i : Nat) (pins : List (Addr × Obj)) (s : Shared) (σ : St) (H : Hp) (E : Value → Shared → Prop), Inv X pins σ H s → (∀ b ∈ fp, FpOk X pins H b) → tn i s.heap → J.go i H →
    wpAny (model P w) X.A (pyNext (.ref it)) (fun r s1 => ∃ u, r = some u ∧
      wpAny (model P w) X.A (letOwnedTupleGo tg (.ref it) u) (fun _ s2 => ∃ x H', Inv X pins σ H' s2 ∧ RelV x u ∧ J.yld i H x H' ∧ tn (i + 1) s2.heap ∧ ∀ b ∈ fp, H' b = none) E s1) E s
  done : ∀ (X : Cx), X.prog = P → X.w = w → X.K = K → X.calm = true → ∀ (i : Nat) (pins : List (Addr × Obj)) (s : Shared) (σ : St) (H : Hp) (E : Value → Shared → Prop), Inv X pins σ H s → (∀ b ∈ fp, FpOk X pins H b) → tn i s.heap → J.stop i H →
    wpAny (model P w) X.A (pyNext (.ref it)) (fun r s1 => r = none ∧ Inv X pins σ H s1) E s
  self : ∀ (A : Around) (i : Nat) (s : Shared) (Q : Value → Shared → Prop) (E : Value → Shared → Prop), tn i s.heap → Q (.ref it) s → wpAny (model P w) A (pyIter (.ref it)) Q E s
abbrev TI := St → Hp → (It → Hp → Prop) → Prop
def PIE (X : Cx) (pins : List (Addr × Obj)) (σ : St) (tg : Expr) (R : It → Hp → Prop) (itv : Value) (s2 : Shared) : Prop :=
  ∃ (it : Addr) (fp : List Addr) (tn : Nat → Heap → Prop) (J : It) (H' : Hp), itv = .ref it ∧ Inv X pins σ H' s2 ∧ Turn X.prog X.w X.K tg J fp it tn ∧ tn 0 s2.heap ∧ (∀ b ∈ fp, FpOk X pins H' b) ∧ R J H'
def PI (X : Cx) (tg iter : Expr) (wi : TI) : Prop :=
  ∀ (pins : List (Addr × Obj)) (s : Shared) (σ : St) (H : Hp) (R : It → Hp → Prop), Inv X pins σ H s → wi σ H R →
    wpAny (model X.prog X.w) X.A (eval iter X.env) (fun v s1 => wpAny (model X.prog X.w) X.A (pyIter v) (PIE X pins σ tg R) X.xe s1) X.xe s
theorem zd7 {M : Model} {A : Around} {E : Value → Shared → Prop} {s : Shared} {tg : Expr} {it : Addr} {u : Value} {o : Obj} {n : String} {vs : Array Value} {Q : Unit → Shared → Prop} (ho : s.heap.get? it = some o) (hc : o.cls = .type n) (hd : o.data = .fields vs)
    (hn : ["enumerate", "zip", "dict_itemiterator", "dict_reverseitemiterator", "odict_iterator", "itertools.zip_longest", "itertools.pairwise"].contains n = false) (hQ : Q () s) : wpAny M A (letOwnedTupleGo tg (.ref it) u) Q E s := by
  unfold letOwnedTupleGo
  cases tg <;> first
    | exact wpAny_pure hQ
    | (cases u <;> first
        | exact wpAny_pure hQ
        | (refine wpAny_bind (wpAny_load ho ?_)
           rw [hc, hd]
           show wpAny M A (if (["enumerate", "zip", "dict_itemiterator", "dict_reverseitemiterator", "odict_iterator", "itertools.zip_longest", "itertools.pairwise"].contains n && vs[0]? == some (rawInt _)) = true then _ else _) Q E s
           rw [if_neg (by intro h; rw [hn, Bool.false_and] at h; cases h)]
           exact wpAny_pure hQ))
def Itl (K : PySem.W.Frag) (a : Addr) : It :=
  ⟨fun i H => ∃ xs x, SqL K H a xs ∧ xs[i]? = some x, fun i H x H' => H' = H ∧ ∀ xs, SqL K H a xs → xs[i]? = some x, fun i H => ∃ xs, SqL K H a xs ∧ xs.length ≤ i⟩
def Itt (K : PySem.W.Frag) (a : Addr) : It :=
  ⟨fun i H => ∃ xs x, SqT K H a xs ∧ xs[i]? = some x, fun i H x H' => H' = H ∧ ∀ xs, SqT K H a xs → xs[i]? = some x, fun i H => ∃ xs, SqT K H a xs ∧ xs.length ≤ i⟩
def Itr (lo : Int) (n : Nat) : It := ⟨fun i _ => i < n, fun i H x H' => H' = H ∧ x = .int (lo + i), fun i _ => n ≤ i⟩
theorem zb3 {P : Program} {w : World} {K : PySem.W.Frag} {tg : Expr} (a it : Addr) : Turn P w K tg (Itl K a) [it] it (fun i h => h.IsListIter it a i) where
  mem := by simp
  obj := fun i h st b hb => by
    have e : b = it := by simpa using hb
    subst e
    obtain ⟨o, e, c, d⟩ := st
    exact ⟨o, e, fun v z => by rw [d] at z; cases z⟩
  keep := fun i h h' st k => st.at fun o e => k it (by simp) o e
  item := by
    intro X hP hw hK hc i pins s σ H E I hf st hg
    subst hP hw hK
    obtain ⟨xs, x, hq, hx⟩ := hg
    obtain ⟨its, rv, p, hz⟩ := I.list hq
    obtain ⟨u, hu, ru⟩ := rv.get hx
    obtain ⟨f0, f1, f2, f3, f4, f5⟩ := hf it (by simp)
    refine wpAny_pyNext_list_item st p.isList (x := u) (by simpa using hu) fun h' st' sb => ?_
    have I1 : Inv X pins σ H { s with heap := h' } := I.turned (t' := s.toks) (fun b o hb e => (sb.2 b hb).trans e) f0 f1 f3 f4 f5
    obtain ⟨o, e, c, d⟩ := id st'
    exact ⟨u, rfl, zd7 (s := { s with heap := h' }) e c d (by decide) ⟨x, H, I1, ru, ⟨rfl, fun ys hy => by rw [I.list_inj hy hq]; exact hx⟩, st', fun b hb => (hf b hb).1⟩⟩
  done := by
    intro X hP hw hK hc i pins s σ H E I hf st hg
    subst hP hw hK
    obtain ⟨xs, hq, hx⟩ := hg
    obtain ⟨its, rv, p, hz⟩ := I.list hq
    obtain ⟨f0, f1, f2, f3, f4, f5⟩ := hf it (by simp)
    have hl := rv.length
    exact wpAny_pyNext_list_end (I.ok.hd hc) st p.isList (by simp; omega) fun h' eb => ⟨rfl, I.turned (t' := s.toks) (fun b o hb e => eb b o hb e) f0 f1 f3 f4 f5⟩
  self := fun _ _ _ _ _ st h => wpAny_pyIter_listiter st h
theorem zbo {P : Program} {w : World} {K : PySem.W.Frag} {tg : Expr} (a it : Addr) : Turn P w K tg (Itt K a) [it] it (fun i h => h.IsTupleIter it a i) where
  mem := by simp
  obj := fun i h st b hb => by
    have e : b = it := by simpa using hb
    subst e
    obtain ⟨o, e, c, d⟩ := st
    exact ⟨o, e, fun v z => by rw [d] at z; cases z⟩
  keep := fun i h h' st k => st.at fun o e => k it (by simp) o e
  item := by
    intro X hP hw hK hc i pins s σ H E I hf st hg
    subst hP hw hK
    obtain ⟨xs, x, hq, hx⟩ := hg
    obtain ⟨its, rv, p, hz⟩ := I.tuple hq
    obtain ⟨u, hu, ru⟩ := rv.get hx
    obtain ⟨f0, f1, f2, f3, f4, f5⟩ := hf it (by simp)
    refine wpAny_pyNext_tuple_item st (show s.heap.IsTuple a its.toArray from p) (x := u) (by simpa using hu) fun h' st' sb => ?_
    have I1 : Inv X pins σ H { s with heap := h' } := I.turned (t' := s.toks) (fun b o hb e => (sb.2 b hb).trans e) f0 f1 f3 f4 f5
    obtain ⟨o, e, c, d⟩ := id st'
    exact ⟨u, rfl, zd7 (s := { s with heap := h' }) e c d (by decide) ⟨x, H, I1, ru, ⟨rfl, fun ys hy => by rw [I.tuple_inj hy hq]; exact hx⟩, st', fun b hb => (hf b hb).1⟩⟩
  done := by
    intro X hP hw hK hc i pins s σ H E I hf st hg
    subst hP hw hK
    obtain ⟨xs, hq, hx⟩ := hg
    obtain ⟨its, rv, p, hz⟩ := I.tuple hq
    obtain ⟨f0, f1, f2, f3, f4, f5⟩ := hf it (by simp)
    have hl := rv.length
    exact wpAny_pyNext_tuple_end (I.ok.hd hc) st (show s.heap.IsTuple a its.toArray from p) (by simp; omega) fun h' eb => ⟨rfl, I.turned (t' := s.toks) (fun b o hb e => eb b o hb e) f0 f1 f3 f4 f5⟩
  self := fun _ _ _ _ _ st h => wpAny_pyIter_tupleiter st h
theorem zbj {P : Program} {w : World} {K : PySem.W.Frag} {tg : Expr} (it : Addr) (lo : Int) (n : Nat) : Turn P w K tg (Itr lo n) [it] it (fun i h => IsRangeIter h it (lo + (i : Nat) * 1) ((n : Int) - (i : Nat)) 1) where
  mem := by simp
  obj := fun i h st b hb => by
    have e : b = it := by simpa using hb
    subst e
    exact ⟨_, st, fun v z => by
      have z' : Data.fields _ = Data.cell v := z
      cases z'⟩
  keep := fun i h h' st k => k it (by simp) _ st
  item := by
    intro X hP hw hK hc i pins s σ H E I hf st hg
    subst hP hw hK
    obtain ⟨f0, f1, f2, f3, f4, f5⟩ := hf it (by simp)
    have W := Walks.range (prog := X.prog) (w := X.w) (I.ok.hd hc) it lo 1 n
    refine W.item i s _ _ hg st fun v h' tk hv st' kk => ?_
    obtain ⟨t, rfl⟩ := hv
    have I1 : Inv X pins σ H { s with heap := h', toks := tk } := I.turned (fun b o hb e => kk b o (by simpa using hb) e) f0 f1 f3 f4 f5
    refine ⟨_, rfl, zd7 (s := { s with heap := h', toks := tk }) (n := "range_iterator") st' rfl rfl (by decide) ⟨.int (lo + i), H, I1, ⟨t, ?_⟩, ⟨rfl, rfl⟩, st', fun b hb => (hf b hb).1⟩⟩
    rw [Int.mul_one]
  done := by
    intro X hP hw hK hc i pins s σ H E I hf st hg
    subst hP hw hK
    obtain ⟨f0, f1, f2, f3, f4, f5⟩ := hf it (by simp)
    exact wpAny_pyNext_range_end (I.ok.hd hc) st (by have : n ≤ i := hg; omega) fun h' eb => ⟨rfl, I.turned (t' := s.toks) (fun b o hb e => eb b o hb e) f0 f1 f3 f4 f5⟩
  self := fun _ _ _ _ _ st h => wpAny_pyIter_rangeiter st h
end L2
namespace L2
open PySem PySem.Spec PyProof.Rows
section
variable {X : Cx} {tg : Expr}
theorem zaL {pins : List (Addr × Obj)} {σ : St} {H : Hp} {s : Shared} {R : It → Hp → Prop} {E : Value → Shared → Prop} {lo hi : Int} {t u v : Tok} {tk : Nat} (I : Inv X pins σ H s) (h1 : -(2 ^ 62) ≤ lo) (h2 : lo < 2 ^ 62) (h3 : -(2 ^ 62) ≤ hi) (h4 : hi < 2 ^ 62)
    (q : R (Itr lo (hi - lo).toNat) H) : wpAny (model X.prog X.w) X.A (pyIter (.ref s.heap.objs.size)) (PIE X pins σ tg R) E { s with heap := s.heap.push { cls := .type "range", data := .fields #[.int lo t, .int hi u, .int 1 v] }, toks := tk } := by
  refine wpAny_pyIter_range (IsRange.new ..) (small_one h1 h2 h3 h4) ?_
  have I1 : Inv X pins σ H { s with heap := s.heap.push { cls := .type "range", data := .fields #[.int lo t, .int hi u, .int 1 v] }, toks := tk } := I.kept fun b o e => Heap.get?_push_of_some _ e
  refine ⟨(s.heap.push { cls := .type "range", data := .fields #[.int lo t, .int hi u, .int 1 v] }).objs.size, [(s.heap.push { cls := .type "range", data := .fields #[.int lo t, .int hi u, .int 1 v] }).objs.size], _, _, H, rfl,
    I1.kept (t' := tk) fun b o e => Heap.get?_push_of_some _ e, zbj _ lo (hi - lo).toNat, ?_, fun b hb => ?_, q⟩
  · have e1 : lo + ((0 : Nat) : Int) * 1 = lo := by simp
    have e2 : (((hi - lo).toNat : Nat) : Int) - ((0 : Nat) : Int) = Builtin.Range.rangeSize lo hi 1 := by rw [rangeSize_one]; split <;> omega
    show IsRangeIter _ _ (lo + ((0 : Nat) : Int) * 1) ((((hi - lo).toNat : Nat) : Int) - ((0 : Nat) : Int)) 1
    rw [e1, e2]
    exact Heap.get?_push_size _ rfl
  · have e : b = (s.heap.push { cls := .type "range", data := .fields #[.int lo t, .int hi u, .int 1 v] }).objs.size := by simpa using hb
    subst e
    exact I1.fpOk (Nat.le_refl _) (I1.hok.fresh (Nat.le_refl _))
def zhi (ta : TA) : TI := fun σ H R => ta σ H fun vs H1 => ∃ j : Int, vs = [.int j] ∧ -(2 ^ 62) ≤ j ∧ j < 2 ^ 62 ∧ R (Itr 0 j.toNat) H1
def zhz (ta : TA) : TI := fun σ H R => ta σ H fun vs H1 => ∃ i j : Int, vs = [.int i, .int j] ∧ (-(2 ^ 62) ≤ i ∧ i < 2 ^ 62 ∧ -(2 ^ 62) ≤ j ∧ j < 2 ^ 62) ∧ R (Itr i (j - i).toNat) H1
theorem zcR {a : Expr} {ta : TA} {p pos : Pos} (hg : Gl X "range") (hm : X.mg "range" = none) (ha : PA X [a] ta) (hs : starEach [a] X.env = [(false, eval a X.env)] := by rfl) : PI X tg (.Call (.Name "range" p) [a] [] pos) (zhi ta) := by
  intro pins s σ H R I h
  refine Call_ (wg I hg hm boot_range (PyProof.Rows.callWith_type1 (thn (ha pos pins s σ H _ I h) fun us s1 ⟨vs, H1, I1, r1, q1⟩ => ?_) hs rfl))
  obtain ⟨j, e, q1, q2, q⟩ := q1
  subst e
  cases r1 with
  | cons r rr =>
    cases rr
    obtain ⟨t, rfl⟩ := r
    exact call_range_1 (zaL I1 (by omega) (by omega) q1 q2 (by simpa using q))
theorem zcA {a b : Expr} {ta : TA} {p pos : Pos} (hg : Gl X "range") (hm : X.mg "range" = none) (ha : PA X [a, b] ta) (hs : starEach [a, b] X.env = [(false, eval a X.env), (false, eval b X.env)] := by rfl) (hs2 : starEach [b] X.env = [(false, eval b X.env)] := by rfl) :
    PI X tg (.Call (.Name "range" p) [a, b] [] pos) (zhz ta) := by
  intro pins s σ H R I h
  refine Call_ (wg I hg hm boot_range (PyProof.Rows.callWith_type1 (thn (ha pos pins s σ H _ I h) fun us s1 ⟨vs, H1, I1, r1, q1⟩ => ?_) (by rw [hs, hs2]) (by rw [hs2]; rfl)))
  obtain ⟨i, j, e, ⟨q1, q2, q3, q4⟩, q⟩ := q1
  subst e
  cases r1 with
  | cons r rr =>
    cases rr with
    | cons r' rr =>
      cases rr
      obtain ⟨t, rfl⟩ := r
      obtain ⟨t', rfl⟩ := r'
      exact call_range_2 (zaL I1 q1 q2 q3 q4 q)
def tFor (wi : TI) (g : TG) (tb : TS) : TS := fun D σ H => wi σ H fun J H1 => ∃ W : Nat → Nat → St → Hp → Prop, (∃ m, W 0 m σ H1) ∧ ∀ i m σ H, W i m σ H →
  (J.stop i H ∧ D.nx σ H) ∨ (J.go i H ∧ ∃ N : St → Hp → Prop, (∀ σ' H', N σ' H' → ∃ m', m' < m ∧ W (i + 1) m' σ' H') ∧ ∀ x H', J.yld i H x H' → g x σ H' fun σ2 H2 => tb { D with nx := N, ct := N, bk := D.nx } σ2 H2)
def kJ (fp : List Addr) (h : Heap) : List (Addr × Obj) := fp.filterMap fun b => (h.get? b).map fun o => (b, o)
theorem qW {fp : List Addr} {h : Heap} {b : Addr} {o : Obj} (hb : b ∈ fp) (e : h.get? b = some o) : (b, o) ∈ kJ fp h := List.mem_filterMap.mpr ⟨b, hb, by rw [e]; rfl⟩
theorem zbF {fp : List Addr} {h : Heap} {p : Addr × Obj} (hp : p ∈ kJ fp h) : p.1 ∈ fp ∧ h.get? p.1 = some p.2 := by
  obtain ⟨b, hb, e⟩ := List.mem_filterMap.mp hp
  cases q : h.get? b with
  | none => rw [q] at e; cases e
  | some o =>
    rw [q] at e
    have e' : (b, o) = p := Option.some.inj e
    subst e'
    exact ⟨hb, q⟩
theorem Inv.pinned {pins : List (Addr × Obj)} {σ : St} {H : Hp} {s : Shared} {fp : List Addr} (I : Inv X pins σ H s) (hf : ∀ b ∈ fp, FpOk X pins H b) (ho : ∀ b ∈ fp, ∃ o, s.heap.get? b = some o ∧ ∀ v, o.data ≠ .cell v) : Inv X (pins ++ kJ fp s.heap) σ H s :=
  I.pins_of fun p hp => (List.mem_append.mp hp).elim (fun z => I.pin p (List.mem_append_right _ z)) fun z => by
    obtain ⟨hb, e⟩ := zbF z
    obtain ⟨f0, f1, f2, _⟩ := hf p.1 hb
    obtain ⟨o, e', d⟩ := ho p.1 hb
    rw [e] at e'; cases e'
    exact ⟨e, f0, f1, f2, d⟩
theorem Inv.unpinned {pins pl : List (Addr × Obj)} {σ : St} {H : Hp} {s : Shared} (I : Inv X (pins ++ pl) σ H s) : Inv X pins σ H s := I.pins_of fun p hp => I.pin p (List.mem_append_right _ (List.mem_append_left _ hp))
theorem zhd {iter : Expr} {body : List Stmt} {wi : TI} {g : TG} {tb : TS} {pos : Pos} (hp : PassesOwn (model X.prog X.w) X.A X.env X.xe) (hc : X.calm = true) (hi : PI X tg iter wi) (hg : PG X tg g) (hb : PSs X body tb)
    (hs : ∀ x, foldedSetIterable iter X.env x = pure x := by intro _; rfl) : PS X (.For tg iter body [] pos) (tFor wi g tb) := by
  intro pins s σ H D I h
  refine wpAny_For (thn (hi pins s σ H _ I h) fun v s1 h1 => thn h1 fun itv s2 h2 => ?_) hs
  obtain ⟨it, fp, tn, J, H2, e, I2, T, st2, f2, W, ⟨m0, w0⟩, turn⟩ := h2
  subst e
  -- what stays true of the iterator's objects through the loop
  have stat : ∀ {H' : Hp}, (∀ b ∈ fp, H' b = none) → ∀ b ∈ fp, FpOk X pins H' b := fun hn b hb => ⟨hn b hb, (f2 b hb).2⟩
  refine codeAny_forLoop_any (fun n s' => ∃ i σ' H', Inv X pins σ' H' s' ∧ tn i s'.heap ∧ (∀ b ∈ fp, H' b = none) ∧ W i n σ' H') ?_ m0 ⟨0, σ, H2, I2, st2, fun b hb => (f2 b hb).1, w0⟩
  rintro n s3 ⟨i, σ3, H3, I3, st3, fr3, w3⟩
  rcases turn i n σ3 H3 w3 with ⟨stop, qn⟩ | ⟨go, N, hN, step⟩
  · refine wpAny_passesOwn hp (thn (T.done X rfl rfl rfl hc i pins s3 σ3 H3 X.xe I3 (stat fr3) st3 stop) fun r s4 ⟨hr, I4⟩ => ?_)
    subst hr
    exact wpAny_execs_nil ⟨σ3, H3, I4, qn⟩
  · refine wpAny_passesOwn hp (thn (T.item X rfl rfl rfl hc i pins s3 σ3 H3 X.xe I3 (stat fr3) st3 go) fun r s4 ⟨u, hr, h4⟩ => ?_)
    subst hr
    refine wpAny_passesOwn hp (thn h4 fun _ s5 ⟨x, H5, I5, r5, y5, st5, fr5⟩ => ?_)
    have I5' := I5.pinned (stat fr5) (T.obj _ _ st5)
    refine wpAny_passesOwn hp (thn (hg _ s5 σ3 H5 x u _ I5' r5 (step x H5 y5)) fun _ s6 ⟨σ6, H6, I6, q6⟩ => ?_)
    refine wpAny_passesOwn hp (thn (hb _ s6 σ6 H6 _ I6 q6) fun f s7 q7 => ?_)
    have again : ∀ {σ7 : St} {H7 : Hp}, Inv X (pins ++ kJ fp s5.heap) σ7 H7 s7 → N σ7 H7 → ∃ m, m < n ∧ ∃ i σ' H', Inv X pins σ' H' s7 ∧ tn i s7.heap ∧ (∀ b ∈ fp, H' b = none) ∧ W i m σ' H' := fun {σ7 H7} I7 n7 => by
      obtain ⟨m', hm, w7⟩ := hN σ7 H7 n7
      refine ⟨m', hm, i + 1, σ7, H7, I7.unpinned, T.keep _ _ _ st5 fun b hb o e => (I7.pin (b, o) (List.mem_append_right _ (List.mem_append_right _ (qW hb e)))).1, fun b hb => ?_, w7⟩
      obtain ⟨o, e, d⟩ := T.obj _ _ st5 b hb
      exact (I7.pin (b, o) (List.mem_append_right _ (List.mem_append_right _ (qW hb e)))).2.1
    cases f with
    | next => obtain ⟨σ7, H7, I7, n7⟩ := q7; exact again I7 n7
    | cont => obtain ⟨σ7, H7, I7, n7⟩ := q7; exact again I7 n7
    | brk => obtain ⟨σ7, H7, I7, q7⟩ := q7; exact ⟨σ7, H7, I7.unpinned, q7⟩
    | ret v => obtain ⟨x7, σ7, H7, I7, r7, q7⟩ := q7; exact ⟨x7, σ7, H7, I7.unpinned, r7, q7⟩
end
end L2
namespace L2
open PySem PySem.Spec PyProof.Rows
abbrev R2 := V → V → Hp → VK → Prop
def OpR (X : Cx) (f : Value → Value → Sem Value) (r : R2) : Prop :=
  ∀ (pins : List (Addr × Obj)) (s : Shared) (σ : St) (H : Hp) (x y : V) (v u : Value) (Q : VK), Inv X pins σ H s → RelV x v → RelV y u → r x y H Q →
    wpAny (model X.prog X.w) X.A (f v u) (EP X pins σ Q) X.xe s
def UnR (X : Cx) (f : Value → Sem Value) (r : V → Hp → VK → Prop) : Prop :=
  ∀ (pins : List (Addr × Obj)) (s : Shared) (σ : St) (H : Hp) (x : V) (v : Value) (Q : VK), Inv X pins σ H s → RelV x v → r x H Q →
    wpAny (model X.prog X.w) X.A (f v) (EP X pins σ Q) X.xe s
def xg (X : Cx) (f : Value) (r : List V → Hp → VK → Prop) : Prop :=
  ∀ (pins : List (Addr × Obj)) (s : Shared) (σ : St) (H : Hp) (xs : List V) (us : List Value) (Q : VK), Inv X pins σ H s → Vals xs us → r xs H Q →
    wpAny (model X.prog X.w) X.A (call f us) (EP X pins σ Q) X.xe s
def TruR (X : Cx) (r : V → Hp → (Bool → Hp → Prop) → Prop) : Prop :=
  ∀ (pins : List (Addr × Obj)) (s : Shared) (σ : St) (H : Hp) (x : V) (v : Value) (Q : Bool → Hp → Prop), Inv X pins σ H s → RelV x v → r x H Q →
    wpAny (model X.prog X.w) X.A (truthy v) (TP X pins σ Q) X.xe s
def tOp (r : R2) (ta tb : TE) : TE := fun σ H Q => ta σ H fun x H1 => tb σ H1 fun y H2 => r x y H2 Q
def tUn (r : V → Hp → VK → Prop) (ta : TE) : TE := fun σ H Q => ta σ H fun x H1 => r x H1 Q
def rI (C : Int → Int → Prop) (g : Int → Int → V) : R2 := fun x y H Q => ∃ i j, x = .int i ∧ y = .int j ∧ C i j ∧ Q (g i j) H
def rI0 (g : Int → Int → V) : R2 := fun x y H Q => ∃ i j, x = .int i ∧ y = .int j ∧ Q (g i j) H
section
variable {X : Cx} {a b c : Expr} {ta tb tc : TE} {pos : Pos}
theorem binT (ha : PE X a ta) (hb : PE X b tb) {pins : List (Addr × Obj)} {s : Shared} {σ : St} {H : Hp} {R : V → V → Hp → Prop} (I : Inv X pins σ H s)
    (h : ta σ H fun x H1 => tb σ H1 fun y H2 => R x y H2) {Q : Value → Shared → Prop} {f : Value → Value → Sem Value}
    (hf : ∀ v u s2 x y H2, Inv X pins σ H2 s2 → RelV x v → RelV y u → R x y H2 → wpAny (model X.prog X.w) X.A (f v u) Q X.xe s2) :
    wpAny (model X.prog X.w) X.A (eval a X.env) (fun v s₁ => wpAny (model X.prog X.w) X.A (eval b X.env) (fun u s₂ => wpAny (model X.prog X.w) X.A (f v u) Q X.xe s₂) X.xe s₁) X.xe s := by
  refine thn (ha pins s σ H _ I h) fun v s1 ⟨x, H1, I1, r1, q1⟩ => ?_
  refine thn (hb pins s1 σ H1 _ I1 q1) fun u s2 ⟨y, H2, I2, r2, q2⟩ => ?_
  exact hf v u s2 x y H2 I2 r1 r2 q2
theorem zhq {op : Operator} {r : R2} (ho : OpR X (binaryOp op) r) (ha : PE X a ta) (hb : PE X b tb) : PE X (.BinOp a op b pos) (tOp r ta tb) := by
  intro pins s σ H Q I h
  exact wpAny_BinOp (binT ha hb I h fun v u s2 x y H2 I2 rx ry q => ho pins s2 σ H2 x y v u Q I2 rx ry q)
theorem zhE {op : UnaryOp} {r : V → Hp → VK → Prop} (ho : UnR X (unaryOp op) r) (ha : PE X a ta) : PE X (.UnaryOp op a pos) (tUn r ta) := by
  intro pins s σ H Q I h
  exact UnaryOp_ (thn (ha pins s σ H _ I h) fun v s1 ⟨x, H1, I1, r1, q1⟩ => ho pins s1 σ H1 x v Q I1 r1 q1)
theorem opI {f : Value → Value → Sem Value} {C : Int → Int → Prop} {g : Int → Int → Int}
    (rule : ∀ (i j : Int) (t u : Tok) (s : Shared) (Q : Value → Shared → Prop) (E : Value → Shared → Prop), C i j → Q (.int (g i j) s.toks) { s with toks := s.toks + 1 } → wpAny (model X.prog X.w) X.A (f (.int i t) (.int j u)) Q E s) :
    OpR X f (rI C fun i j => .int (g i j)) := by
  intro pins s σ H x y v u Q I rx ry h
  obtain ⟨i, j, rfl, rfl, hc, q⟩ := h
  obtain ⟨t, rfl⟩ := rx
  obtain ⟨t', rfl⟩ := ry
  exact rule i j t t' s _ _ hc ⟨.int (g i j), H, I.tok _, ⟨_, rfl⟩, q⟩
theorem opI0 {f : Value → Value → Sem Value} {g : Int → Int → Int}
    (rule : ∀ (i j : Int) (t u : Tok) (s : Shared) (Q : Value → Shared → Prop) (E : Value → Shared → Prop), Q (.int (g i j) s.toks) { s with toks := s.toks + 1 } → wpAny (model X.prog X.w) X.A (f (.int i t) (.int j u)) Q E s) :
    OpR X f (rI0 fun i j => .int (g i j)) := by
  intro pins s σ H x y v u Q I rx ry h
  obtain ⟨i, j, rfl, rfl, q⟩ := h
  obtain ⟨t, rfl⟩ := rx
  obtain ⟨t', rfl⟩ := ry
  exact rule i j t t' s _ _ ⟨.int (g i j), H, I.tok _, ⟨_, rfl⟩, q⟩
theorem opB0 {f : Value → Value → Sem Value} {g : Int → Int → Bool}
    (rule : ∀ (i j : Int) (t u : Tok) (s : Shared) (Q : Value → Shared → Prop) (E : Value → Shared → Prop), Q (.bool (g i j)) s → wpAny (model X.prog X.w) X.A (f (.int i t) (.int j u)) Q E s) :
    OpR X f (rI0 fun i j => .bl (g i j)) := by
  intro pins s σ H x y v u Q I rx ry h
  obtain ⟨i, j, rfl, rfl, q⟩ := h
  obtain ⟨t, rfl⟩ := rx
  obtain ⟨t', rfl⟩ := ry
  exact rule i j t t' s _ _ ⟨.bl (g i j), H, I, rfl, q⟩
def CDiv (i j : Int) : Prop := 0 < j ∧ j < 1073741824
theorem CMul.ok {i j : Int} (h : CMul i j) : IntMulOk i j := by
  rcases h with ⟨h1, h2⟩ | ⟨h1, h2⟩
  · exact .of_left (intBits_le_64 h1 h2)
  · exact .of_right (intBits_le_64 h1 h2)
theorem zgu : OpR X (binaryOp .Add) (rI0 fun i j => .int (i + j)) := opI0 fun _ _ _ _ _ _ _ q => add_int q
theorem zgY : OpR X (binaryOp .Sub) (rI0 fun i j => .int (i - j)) := opI0 fun _ _ _ _ _ _ _ q => sub_int q
theorem zgN : OpR X (binaryOp .Mult) (rI CMul fun i j => .int (i * j)) := opI fun _ _ _ _ _ _ _ hc q => mul_int q hc.ok
theorem zga : OpR X (binaryOp .FloorDiv) (rI CDiv fun i j => .int (i / j)) := opI fun i j _ _ _ _ _ hc q => by
  have h1 : (0 : Int) < j := hc.1
  have h2 : j < 1073741824 := hc.2
  exact floordiv_int (by omega) (by rw [Int.fdiv_eq_ediv_of_nonneg i (by omega)]; exact q) (.inl (PyProof.noPylong_small (by omega)))
theorem zg9 : OpR X (binaryOp .Mod) (rI (fun _ j => 0 < j) fun i j => .int (i % j)) := opI fun i j _ _ _ _ _ hc q => by
  have h1 : (0 : Int) < j := hc
  exact mod_int' (by omega) (by rw [Int.fmod_eq_emod_of_nonneg i (by omega)]; exact q)
end
section
variable {X : Cx} {a b c : Expr} {ta tb tc : TE} {pos : Pos}
theorem zhK : OpR X (compareOp .Lt) (rI0 fun i j => .bl (decide (i < j))) := opB0 fun _ _ _ _ _ _ _ q => lt_int q
theorem OpR.or {f : Value → Value → Sem Value} {r r' : R2} (h : OpR X f r) (h' : OpR X f r') : OpR X f (fun x y H Q => r x y H Q ∨ r' x y H Q) := by
  intro pins s σ H x y v u Q I rx ry q
  rcases q with q | q
  · exact h pins s σ H x y v u Q I rx ry q
  · exact h' pins s σ H x y v u Q I rx ry q
theorem qg (b : Expr) {op : CmpOp} (h : op ≠ .In := by decide) (h2 : op ≠ .NotIn := by decide) : behindInMarks op b = false := by
  have e1 : (op == CmpOp.In) = false := by cases op <;> first | rfl | exact absurd rfl h
  have e2 : (op == CmpOp.NotIn) = false := by cases op <;> first | rfl | exact absurd rfl h2
  cases b <;> simp [behindInMarks, e1, e2]
theorem zf5 {op : CmpOp} {r : R2} (ho : OpR X (compareOp op) r) (ha : PE X a ta) (hb : PE X b tb) (hm : behindInMarks op b = false) : PE X (.Compare a [op] [b] pos) (tOp r ta tb) := by
  intro pins s σ H Q I h
  exact wpAny_Compare1 (binT ha hb I h fun v u s2 x y H2 I2 rx ry q => ho pins s2 σ H2 x y v u Q I2 rx ry q) hm
def zhw (t : TE) : TT := fun σ H Q => t σ H fun x H' => ∃ k, x = .bl k ∧ Q k H'
theorem zgf {op : CmpOp} {r : R2} (ho : OpR X (compareOp op) r) (ha : PE X a ta) (hb : PE X b tb) (hm : behindInMarks op b = false) : PT X (.Compare a [op] [b] pos) (zhw (tOp r ta tb)) := by
  intro pins s σ H Q I h
  refine wpAny_isTrue_Compare1 (thn (ha pins s σ H _ I h) fun v s1 ⟨x, H1, I1, r1, q1⟩ => thn (hb pins s1 σ H1 _ I1 q1) fun u s2 ⟨y, H2, I2, r2, q2⟩ =>
    thn (ho pins s2 σ H2 x y v u _ I2 r1 r2 q2) fun c s3 ⟨z, H3, I3, r3, k, e, q3⟩ => ?_) hm
  subst e
  cases r3
  exact wpAny_truthy_bool ⟨H3, I3, q3⟩
def TruV (K : PySem.W.Frag) (x : V) (H : Hp) (k : Bool) : Prop :=
  match x with
  | .non => k = false
  | .bl b => k = b
  | .int i => k = (i != 0)
  | .str y => y.length ≤ sizeLine ∧ k = ((y.length : Int) != 0)
  | .byt y => y.size ≤ sizeLine ∧ k = ((y.size : Int) != 0)
  | .ref p => (∃ xs, SqL K H p xs ∧ k = !xs.isEmpty) ∨ (∃ xs, SqT K H p xs ∧ k = !xs.isEmpty) ∨ ∃ kvs, H p = some (.dK kvs) ∧ k = !kvs.isEmpty
  | _ => False
theorem zbe {κ : Type} {kvs : List (κ × V)} {vs : List (κ × Value)} (r : KV kvs vs) : (!vs.isEmpty) = !kvs.isEmpty := by
  cases r <;> rfl
theorem yL {xs : List V} {its : List Value} (r : Vals xs its) : (!its.toArray.isEmpty) = !xs.isEmpty := by
  cases r <;> simp
theorem wU : (sizeLine : Nat) < 2 ^ 63 := by rw [sizeLine_eq]; decide
theorem zgH : TruR X (fun x H Q => ∃ k, TruV X.K x H k ∧ Q k H) := by
  intro pins s σ H x v Q I rx h
  obtain ⟨k, e, q⟩ := h
  have hl := wU
  have hs : sizeLine = 16777216 := sizeLine_eq
  cases x with
  | non =>
    cases rx
    have e' : k = false := e
    subst e'
    exact truthy_none ⟨H, I, q⟩
  | bl b =>
    cases rx
    have e' : k = b := e
    subst e'
    exact wpAny_truthy_bool ⟨H, I, q⟩
  | int i =>
    obtain ⟨t, rfl⟩ := rx
    have e' : k = (i != 0) := e
    subst e'
    exact PySem.P.truthy_int ⟨H, I, q⟩
  | str y =>
    obtain ⟨t, rfl⟩ := rx
    obtain ⟨hy, e'⟩ : y.length ≤ sizeLine ∧ k = ((y.length : Int) != 0) := e
    subst e'
    exact PySem.P.truthy_str (by omega) ⟨H, I.tok _, q⟩
  | byt y =>
    obtain ⟨t, rfl⟩ := rx
    obtain ⟨hy, e'⟩ : y.size ≤ sizeLine ∧ k = ((y.size : Int) != 0) := e
    subst e'
    exact PySem.W.truthy_bytes (by omega) ⟨H, I.tok _, q⟩
  | ref p =>
    cases rx
    have e' : (∃ xs, SqL X.K H p xs ∧ k = !xs.isEmpty) ∨ (∃ xs, SqT X.K H p xs ∧ k = !xs.isEmpty) ∨ ∃ kvs, H p = some (.dK kvs) ∧ k = !kvs.isEmpty := e
    rcases e' with ⟨xs, hx, e'⟩ | ⟨xs, hx, e'⟩ | ⟨kvs, hx, e'⟩
    · subst e'
      obtain ⟨its, r, pl, hz⟩ := I.list hx
      have hlen := r.length
      exact wpAny_truthy_list pl.isList (by simp only [List.size_toArray]; omega) ⟨H, I.tok _, by rw [yL r]; exact q⟩
    · subst e'
      obtain ⟨its, r, pl, hz⟩ := I.tuple hx
      have hlen := r.length
      exact truthy_tuple pl (by simp only [List.size_toArray]; omega) ⟨H, I.tok _, by rw [yL r]; exact q⟩
    · subst e'
      obtain ⟨hz, hS, vs, r, m⟩ : kvs.length ≤ sizeLine ∧ (p == sysModules) = false ∧ ∃ vs, KV kvs vs ∧ s.heap.DictOf (jh X.prog X.w) p vs := I.hok p _ hx
      have hlen : kvs.length = vs.length := Paired.length r
      exact wpAny_truthy_dict hS m (by omega) ⟨H, I.tok _, by rw [zbe r]; exact q⟩
  | _ => exact (show False from e).elim
theorem zeN (ha : PE X a ta) (he : ∀ whole, isTrue a X.env whole = (do let v ← whole; standAt a.pos; holding [v] (truthy v))) :
    PT X a (fun σ H Q => ta σ H fun x H' => ∃ k, TruV X.K x H' k ∧ Q k H') := by
  intro pins s σ H Q I h
  exact isTrue_plain (thn (ha pins s σ H _ I h) fun v s1 ⟨x, H1, I1, r1, q1⟩ => zgH pins s1 σ H1 x v Q I1 r1 q1) (he _)
theorem zbg : OpR X (binaryOp .Add) (fun x y H Q => ∃ i j, x = .str i ∧ y = .str j ∧ i.length + j.length ≤ sizeLine ∧ Q (.str (i ++ j)) H) := by
  intro pins s σ H x y v u Q I rx ry h
  obtain ⟨i, j, rfl, rfl, hz, q⟩ := h
  obtain ⟨t, rfl⟩ := rx
  obtain ⟨t', rfl⟩ := ry
  exact add_str (fun t' tk => ⟨.str (i ++ j), H, I.tok _, ⟨_, rfl⟩, q⟩) hz
theorem vals1 {x : V} {us : List Value} (r : Vals [x] us) : ∃ u, us = [u] ∧ RelV x u := by
  cases r with
  | cons r1 r2 => cases r2; exact ⟨_, rfl, r1⟩
theorem vals2 {x y : V} {us : List Value} (r : Vals [x, y] us) : ∃ u w', us = [u, w'] ∧ RelV x u ∧ RelV y w' := by
  cases r with
  | cons r1 r2 =>
    cases r2 with
    | cons r3 r4 => cases r4; exact ⟨_, _, rfl, r1, r3⟩
theorem zcz (hc : X.calm = true) : xg X (.builtin "max") (fun xs H Q => ∃ i j, xs = [.int i, .int j] ∧ Q (.int (if j > i then j else i)) H) := by
  intro pins s σ H xs us Q I r h
  obtain ⟨i, j, rfl, q⟩ := h
  obtain ⟨u, w', rfl, ⟨t, rfl⟩, ⟨t', rfl⟩⟩ := vals2 r
  refine max_two_ints (I.ok.hd hc) fun h' tk k => ⟨_, H, I.kept k, ?_, q⟩
  by_cases hj : j > i
  · rw [if_pos hj, if_pos hj]; exact ⟨_, rfl⟩
  · rw [if_neg hj, if_neg hj]; exact ⟨_, rfl⟩
theorem zcC (hc : X.calm = true) : xg X (.builtin "min") (fun xs H Q => ∃ i j, xs = [.int i, .int j] ∧ Q (.int (if j < i then j else i)) H) := by
  intro pins s σ H xs us Q I r h
  obtain ⟨i, j, rfl, q⟩ := h
  obtain ⟨u, w', rfl, ⟨t, rfl⟩, ⟨t', rfl⟩⟩ := vals2 r
  refine min_two_ints (I.ok.hd hc) fun h' tk k => ⟨_, H, I.kept k, ?_, q⟩
  by_cases hj : j < i
  · rw [if_pos hj, if_pos hj]; exact ⟨_, rfl⟩
  · rw [if_neg hj, if_neg hj]; exact ⟨_, rfl⟩
theorem kN : xg X (.type "int") (fun xs H Q => (∃ i, xs = [.int i] ∧ Q (.int i) H) ∨ ∃ k, xs = [.bl k] ∧ Q (.int (if k then 1 else 0)) H) := by
  intro pins s σ H xs us Q I r h
  rcases h with ⟨i, rfl, q⟩ | ⟨k, rfl, q⟩
  · obtain ⟨u, rfl, t, rfl⟩ := vals1 r
    exact call_int_int ⟨.int i, H, I, ⟨_, rfl⟩, q⟩
  · obtain ⟨u, rfl, r1⟩ := vals1 r
    cases r1
    exact call_int_bool ⟨.int (if k then 1 else 0), H, I.tok _, ⟨_, rfl⟩, q⟩
end
end L2
namespace L2
open PySem PySem.Spec PyProof.Rows
structure ObjM (h : Heap) (x dx C : Addr) (mA : Str → Option Value) : Prop where
  obj : h.get? x = some (PySem.W.instObj C dx)
  ns : h.Ns1 dx mA
  ne : dx ≠ x
theorem zcM {h : Heap} {dx : Addr} {mA : Str → Option Value} (n : h.Ns1 dx mA) : ∃ od, h.get? dx = some od ∧ ∀ name, PySem.W.lookIn name od = some (mA name) := by
  obtain ⟨o, es, ep, ho, hd, hk, _, hm⟩ := n
  refine ⟨o, ho, fun name => ?_⟩
  have e := hm name
  unfold nsFind findBy at e
  rw [← Array.find?_toList] at e
  unfold PySem.W.lookIn
  rw [hd]
  dsimp only
  split
  · rename_i y q
    rw [q] at e
    exact congrArg some e
  · rename_i q
    rw [q] at e
    have a : es.toList.any (·.refKey) = false := by
      rw [List.any_eq_false]
      intro y hy
      obtain ⟨z, t, hkey⟩ := hk y (Array.mem_toList_iff.mp hy)
      simp [DictEntry.refKey, hkey]
    have a' : ¬ es.toList.any (·.refKey) = true := by rw [a]; exact Bool.false_ne_true
    rw [if_neg a']
    exact congrArg some e
theorem ObjM.look {h : Heap} {x dx C : Addr} {mA : Str → Option Value} (I : ObjM h x dx C mA) : ∃ od, PySem.W.InstAt h x (PySem.W.instObj C dx) C (some od) ∧ ∀ name, PySem.W.lookIn name od = some (mA name) :=
  let ⟨od, ho, hl⟩ := zcM I.ns
  ⟨od, ⟨I.obj, rfl, rfl, ho⟩, hl⟩
section
variable {prog : Program} {w : World} {A : Around} {E : Value → Shared → Prop} {s : Shared} {K : PySem.W.Frag} {x dx C f : Addr} {mA : Str → Option Value} {name : Str} {v : Value}
end
theorem RelO.some_of {v : V} {o : Option Value} (r : RelO (some v) o) : ∃ u, o = some u ∧ RelV v u := by
  cases o with
  | none => exact (show False from r).elim
  | some u => exact ⟨u, rfl, r⟩
section
variable {P : Program} {w : World} {H H' : Hp} {h h' : Heap} {a C dx : Addr} {fs fs' : List (Str × V)}
theorem zfM (hok : HOk P w H h) (e : H a = some (.ins C dx fs)) : ∃ mA, ObjM h a dx C mA ∧ (∀ f, RelO (fs.lookup f) (mA f)) ∧ PySem.Within mA (fs.map (·.1)) ∧ fs.length ≤ 1000 ∧ H dx = some (.own a) := by
  obtain ⟨d, z, ne, ob, mA, n, r, q⟩ := (show jb P w H h a (.ins C dx fs) from hok a _ e)
  exact ⟨mA, ⟨ob, n, ne⟩, r, q, z, d⟩
end
structure Cls (K : PySem.W.Frag) (C : Addr) : Prop where
  pg : PySem.W.plainGet K C Str.empty = true
  hd : PySem.W.hasDictIn K C = true
  po : PySem.W.plainOver K C = true
  sa : PySem.W.findIn K (.ref C) "__setattr__" = some (some (.builtin "object.__setattr__"))
theorem Cls.get {K : PySem.W.Frag} {C : Addr} (c : Cls K C) (f : Str) : PySem.W.plainGet K C f = true := c.pg
structure Con (K : PySem.W.Frag) (C : Addr) (f : Str) (v : V) (u : Value) : Prop where
  at_ : PySem.W.findIn K (.ref C) f = some (some u)
  rel : RelV v u
  get : PySem.W.specialIn K u "__get__" = some none
  cp : PySem.W.copiedNames.contains f = false
structure Meth (K : PySem.W.Frag) (C : Addr) (m : Str) (f : Addr) : Prop where
  at_ : PySem.W.findIn K (.ref C) m = some (some (.ref f))
  fn : PySem.W.isFn K (.ref f) = true
  kp : PySem.W.keepIn K (.ref f) = true
section
variable {X : Cx} {pins : List (Addr × Obj)} {σ : St} {H : Hp} {s : Shared} {a C dx : Addr} {fs : List (Str × V)} {f : Str} {v : V} {A : Around} {E : Value → Shared → Prop}
theorem Inv.made (I : Inv X pins σ H s) : Inv X pins σ (upd (upd H s.heap.objs.size (.own (s.heap.objs.size + 1))) (s.heap.objs.size + 1) (.ins C s.heap.objs.size []))
    { s with heap := (s.heap.push PySem.W.emptyDict).push (PySem.W.instObj C s.heap.objs.size) } := by
  have e1 : (s.heap.push PySem.W.emptyDict).get? s.heap.objs.size = some PySem.W.emptyDict := Heap.get?_push_size s.heap rfl
  have e2 : ((s.heap.push PySem.W.emptyDict).push (PySem.W.instObj C s.heap.objs.size)).get? (s.heap.objs.size + 1) = some (PySem.W.instObj C s.heap.objs.size) := by
    have := Heap.get?_push_size (s.heap.push PySem.W.emptyDict) (o := PySem.W.instObj C s.heap.objs.size) rfl
    rwa [Heap.size_push] at this
  have e3 : (s.heap.push PySem.W.emptyDict).Ns s.heap.objs.size (fun _ => none) := ⟨PySem.W.emptyDict, #[], _, e1, rfl, (fun e he => absurd he (by simp)), fun _ => rfl⟩
  have I1 := I.laid (a := s.heap.objs.size) (o := .own (s.heap.objs.size + 1)) (h' := s.heap.push PySem.W.emptyDict) (t' := s.toks) (fun b u q => Heap.get?_push_of_some _ q) (Nat.le_refl _) ⟨_, e1⟩
  refine I1.laid (a := s.heap.objs.size + 1) (o := .ins C s.heap.objs.size []) (t' := s.toks) (fun b u q => Heap.get?_push_of_some _ q) (Nat.le_of_eq (Heap.size_push _ _)) ?_
  have ne : s.heap.objs.size ≠ s.heap.objs.size + 1 := Nat.ne_of_lt (Nat.lt_succ_self _)
  refine ⟨by rw [zp ne, zL], Nat.zero_le _, ne, e2, fun _ => none, (Heap.Ns1.of_empty e3).at fun o q => Heap.get?_push_of_some _ q, fun _ => True.intro, fun y hy => absurd rfl hy⟩
end
section
variable {X : Cx} {o e value : Expr} {f : Str} {pos pos' tpos : Pos} {ta tv : TE}
end
section
variable {X : Cx} {pins : List (Addr × Obj)} {σ : St} {H : Hp} {s : Shared} {A : Around} {E : Value → Shared → Prop} {Q : Value → Shared → Prop} {c : Value} {b : Bool}
inductive TyOf (K : PySem.W.Frag) (H : Hp) : V → Value → Prop where
  | non : TyOf K H .non (.type "NoneType")
  | bl (x : Bool) : TyOf K H (.bl x) (.type "bool")
  | int (i : Int) : TyOf K H (.int i) (.type "int")
  | str (x : Str) : TyOf K H (.str x) (.type "str")
  | flt (x : UInt64) : TyOf K H (.flt x) (.type "float")
  | lst {a : Addr} {xs : List V} (e : H a = some (.lst xs)) : TyOf K H (.ref a) (.type "list")
  | frz {a : Addr} {o : Obj} {xs : List V} (e : H a = some (.frz o (.lst xs))) : TyOf K H (.ref a) (.type "list")
  | tup {a : Addr} {xs : List V} (e : H a = some (.tup xs)) : TyOf K H (.ref a) (.type "tuple")
  | dK {a : Addr} {kvs : List (Key × V)} (e : H a = some (.dK kvs)) : TyOf K H (.ref a) (.type "dict")
  | dT {a : Addr} {kvs : List (List Key × V)} (e : H a = some (.dT kvs)) : TyOf K H (.ref a) (.type "dict")
  | ins {a C dx : Addr} {fs : List (Str × V)} (e : H a = some (.ins C dx fs)) (cl : Cls K C) (ha : PySem.W.findIn K (.ref C) "__class__" = some (some (.builtin "object.__class__")))
      (hn : PySem.W.specialIn K (.builtin "object.__class__") "__get__" = some (some (.builtin "getset_descriptor.__get__"))) (htk : PySem.W.takesIn K (.builtin "object.__class__") = some true)
      (hm : PySem.W.mroIn K C (.type "object") = some true) : TyOf K H (.ref a) (.ref C)
theorem qr {x : V} {u t : Value} (I : Inv X pins σ H s) (rx : RelV x u) (ty : TyOf X.K H x t) (e : PySem.W.kitOne X.K t c = some b) (h : ∀ tk, Q (.bool b) { s with toks := tk }) :
    wpAny (model X.prog X.w) A (call (.builtin "isinstance") [u, c]) Q E s := by
  cases ty with
  | non => cases (show u = Value.none from rx); exact PySem.W.kia_one PySem.W.kitx_none I.kIn True.intro e (fun z => nomatch z) h
  | bl y => cases (show u = Value.bool y from rx); exact PySem.W.kia_one PySem.W.kitx_bool I.kIn True.intro e (fun z => nomatch z) h
  | int i => obtain ⟨t, q⟩ := (show ∃ t, u = Value.int i t from rx); cases q; exact PySem.W.kia_one PySem.W.kitx_int I.kIn True.intro e (fun z => nomatch z) h
  | str y => obtain ⟨t, q⟩ := (show ∃ t, u = Value.str y t from rx); cases q; exact PySem.W.kia_one PySem.W.kitx_str I.kIn True.intro e (fun z => nomatch z) h
  | flt y => obtain ⟨t, q⟩ := (show ∃ t, u = Value.float y t from rx); cases q; exact PySem.W.kia_one PySem.W.kitx_float I.kIn True.intro e (fun z => nomatch z) h
  | @lst a xs ea =>
    cases (show u = Value.ref a from rx)
    obtain ⟨_, _, n, _, h1⟩ := (show jb X.prog X.w H s.heap a (.lst xs) from I.hok a _ ea)
    exact PySem.W.kia_one PySem.W.kitx_list I.kIn ⟨_, h1, rfl⟩ e (fun z => nomatch z) h
  | @frz a ob xs ea =>
    cases (show u = Value.ref a from rx)
    obtain ⟨_, _, _, n, _, h1⟩ := (show jb X.prog X.w H s.heap a (.frz ob (.lst xs)) from I.hok a _ ea)
    exact PySem.W.kia_one PySem.W.kitx_list I.kIn ⟨_, h1, rfl⟩ e (fun z => nomatch z) h
  | @tup a xs ea =>
    cases (show u = Value.ref a from rx)
    obtain ⟨_, _, _, p⟩ := (show jb X.prog X.w H s.heap a (.tup xs) from I.hok a _ ea)
    obtain ⟨o, h1, h2, _⟩ := p
    exact PySem.W.kia_one PySem.W.kitx_tuple I.kIn ⟨o, h1, h2⟩ e (fun z => nomatch z) h
  | @dK a kvs ea =>
    cases (show u = Value.ref a from rx)
    obtain ⟨_, _, vs, _, p⟩ := (show jb X.prog X.w H s.heap a (.dK kvs) from I.hok a _ ea)
    obtain ⟨o, es, ep, h1, h2, _⟩ := p
    exact PySem.W.kia_one PySem.W.kitx_dict I.kIn ⟨o, h1, h2.1⟩ e (fun z => nomatch z) h
  | @dT a kvs ea =>
    cases (show u = Value.ref a from rx)
    obtain ⟨_, _, xs, _, o, es, ep, h1, h2, _⟩ := (show jb X.prog X.w H s.heap a (.dT kvs) from I.hok a _ ea)
    exact PySem.W.kia_one PySem.W.kitx_dict I.kIn ⟨o, h1, h2.1⟩ e (fun z => nomatch z) h
  | @ins a C dx fs ea cl ha hn htk hm =>
    cases (show u = Value.ref a from rx)
    obtain ⟨mA, O, _⟩ := zfM I.hok ea
    obtain ⟨od, J, _⟩ := O.look
    exact PySem.W.kia_one (PySem.W.kitx_own (cl.get _) cl.hd ha hn htk hm) I.kIn J e (fun z => nomatch z) h
end
end L2
namespace L2
open PySem PySem.Spec PyProof.Rows
structure Room (k : Nat) (A : Around) : Prop where
  hd : A.handled = none
  dp : A.depth + 3 * k + 5 < recursionLimit
  un : A.units + 16 * k + 200 < cLine
theorem Room.mono {j k : Nat} {A : Around} (r : Room k A) (h : j ≤ k) : Room j A := ⟨r.hd, by have := r.dp; omega, by have := r.un; omega⟩
theorem Room.deeper {k : Nat} {A : Around} (r : Room (k + 1) A) (env : Env) : Room k (A.deeper env) :=
  ⟨r.hd, by have := r.dp; show A.depth + 1 + 3 * k + 5 < _; omega, by have := r.un; show A.units + 3 + 16 * k + 200 < _; omega⟩
theorem Room.in1 {k : Nat} {A : Around} (r : Room (k + 1) A) : Room k A.in1 :=
  ⟨r.hd, by have := r.dp; show A.depth + 3 * k + 5 < _; omega, by have := r.un; show A.units + 1 + 16 * k + 200 < _; omega⟩
theorem Room.depth {k : Nat} {A : Around} (r : Room k A) : A.depth < recursionLimit := by have := r.dp; omega
theorem Room.units {k : Nat} {A : Around} (r : Room k A) : A.units + 64 < cLine := by have := r.un; omega
def tNil : TA := fun _ H Q => Q [] H
def zhG (ta : TE) (tr : TA) : TA := fun σ H Q => ta σ H fun x H1 => tr σ H1 fun xs H2 => Q (x :: xs) H2
section
variable {X : Cx} {e : Expr} {es : List Expr} {te : TE} {t : TA} {pos : Pos}
theorem zat : PA X [] tNil := fun _ _ _ _ H Q I h => Calls.spliced_nil ⟨[], H, I, .nil, h⟩
theorem yr (ha : PE X e te) (hr : PA X es t) (hs : starEach (e :: es) X.env = (false, eval e X.env) :: starEach es X.env := by rfl) : PA X (e :: es) (zhG te t) := by
  intro pos pins s σ H Q I h
  rw [hs]
  show wpAny _ _ (spliced ((false, eval e X.env) :: backTo pos (starEach es X.env))) _ _ s
  refine Calls.spliced_cons (thn (ha pins s σ H _ I h) fun u s1 ⟨x, H1, I1, r1, q1⟩ => ?_)
  exact thn (hr pos pins s1 σ H1 _ I1 q1) fun us s2 ⟨xs, H2, I2, r2, q2⟩ => ⟨x :: xs, H2, I2, .cons r1 r2, q2⟩
def tTup (t : TA) : TE := fun σ H Q => t σ H fun xs H1 => xs.length ≤ sizeLine ∧ ∀ p, H1 p = none → Q (.ref p) (upd H1 p (.tup xs))
def tLst (t : TA) : TE := fun σ H Q => t σ H fun xs H1 => xs.length ≤ sizeLine ∧ ∀ p, H1 p = none → Q (.ref p) (upd H1 p (.lst xs))
theorem zgI {x1} (h : PA X es t) : PE X (.Tuple es x1 pos) (tTup t) := by
  intro pins s σ H Q I hq
  refine wpAny_Tuple_spliced (thn (h pos pins s σ H _ I hq) fun us s1 ⟨xs, H1, I1, r, z, q⟩ => ⟨by rw [← r.length]; exact z, ?_⟩)
  have hf : H1 s1.heap.objs.size = none := I1.hok.fresh (Nat.le_refl _)
  refine ⟨.ref s1.heap.objs.size, upd H1 s1.heap.objs.size (.tup xs), I1.laid (t' := s1.toks) (fun b u e => Heap.get?_push_of_some _ e) (Nat.le_refl _) ?_, rfl, q _ hf⟩
  exact ⟨z, us, r, ⟨_, Heap.get?_push_size _ rfl, rfl, _, rfl⟩⟩
theorem zgx (h : PA X es t) : PE X (.List es pos) (tLst t) := by
  intro pins s σ H Q I hq
  refine wpAny_List_spliced (thn (h pos pins s σ H _ I hq) fun us s1 ⟨xs, H1, I1, r, z, q⟩ => ⟨by rw [← r.length]; exact z, ?_⟩)
  have hf : H1 s1.heap.objs.size = none := I1.hok.fresh (Nat.le_refl _)
  refine ⟨.ref s1.heap.objs.size, upd H1 s1.heap.objs.size (.lst xs), I1.laid (t' := s1.toks) (fun b u e => Heap.get?_push_of_some _ e) (Nat.le_refl _) ?_, rfl, q _ hf⟩
  exact ⟨z, us, 0, r, Heap.get?_push_size _ rfl⟩
end
abbrev Sp := List V → Hp → VK → XK → Prop
abbrev CXT := List Env → Hp → Shared → XK → Value → Shared → Prop
structure Env0 (P : Program) (w : World) (K : PySem.W.Frag) (mg : Str → Option Value) (base : Heap) (A : Around) (outer : List Env) (s : Shared) (H : Hp) : Prop where
  frames : A.frames = some outer
  mod : Mod K mg base
  bs : ∀ b o, base.get? b = some o → s.heap.get? b = some o ∧ H b = none
  bsz : base.objs.size ≤ s.heap.objs.size
  funs : s.heap.FunFrames base outer
  frf : ∀ b ∈ frs outer, H b = none
  hok : HOk P w H s.heap
  bare : AllBare s.gens
def CE (outer : List Env) (P : Program) (w : World) (H : Hp) (s : Shared) (Q : VK) (u : Value) (s' : Shared) : Prop :=
  ∃ v H', s'.os = s.os ∧ AllBare s'.gens ∧ Un (frs outer) [] H H' s.heap s'.heap ∧ HOk P w H' s'.heap ∧ RelV v u ∧ Q v H'
def CR (CX : CXT) (outer : List Env) (P : Program) (w : World) (H : Hp) (s : Shared) (Q : VK) (E : XK) (r : Result) (s' : Shared) : Prop :=
  match r with
  | .ok (.ret u) => CE outer P w H s Q u s'
  | .ok _ => False
  | .error e => CX outer H s E e s'
structure FnOk (P : Program) (w : World) (K : PySem.W.Frag) (mg : Str → Option Value) (base : Heap) (CX : CXT) (k : Nat) (f : Addr) (fd : FuncData) (ps : List Str) (sp : Sp) : Prop where
  len : ∀ vs H Q E, sp vs H Q E → vs.length = ps.length
  run : ∀ (A : Around) (outer : List Env) (s : Shared) (H : Hp) (args : Args) (us : List Value) (vs : List V) (Q : VK) (E : XK), Room k A → Env0 P w K mg base A outer s H → BindsTo s fd args (ps.zip us) → Vals vs us → sp vs H Q E →
    codeAny (model P w) A (.call (.ref f) args) (CR CX outer P w H s Q E) s
theorem FnOk.mono {P : Program} {w : World} {K : PySem.W.Frag} {mg : Str → Option Value} {base : Heap} {CX : CXT} {j k : Nat} {f : Addr} {fd : FuncData} {ps : List Str} {sp : Sp} (F : FnOk P w K mg base CX j f fd ps sp) (h : j ≤ k) :
    FnOk P w K mg base CX k f fd ps sp := ⟨F.len, fun A outer s H args us vs Q E hr => F.run A outer s H args us vs Q E (hr.mono h)⟩
theorem FnOk.imp {P : Program} {w : World} {K : PySem.W.Frag} {mg : Str → Option Value} {base : Heap} {CX : CXT} {k : Nat} {f : Addr} {fd : FuncData} {ps : List Str} {sp sp' : Sp} (F : FnOk P w K mg base CX k f fd ps sp)
    (h : ∀ vs H Q E, sp' vs H Q E → sp vs H Q E) : FnOk P w K mg base CX k f fd ps sp' :=
  ⟨fun vs H Q E q => F.len vs H Q E (h _ _ _ _ q), fun A outer s H args us vs Q E hr he hb hv hs => F.run A outer s H args us vs Q E hr he hb hv (h _ _ _ _ hs)⟩
theorem Env0.in1 {P : Program} {w : World} {K : PySem.W.Frag} {mg : Str → Option Value} {base : Heap} {A : Around} {outer : List Env} {s : Shared} {H : Hp} (e : Env0 P w K mg base A outer s H) :
    Env0 P w K mg base A.in1 outer s H := ⟨e.frames, e.mod, e.bs, e.bsz, e.funs, e.frf, e.hok, e.bare⟩
section
variable {X : Cx} {pins : List (Addr × Obj)} {σ : St} {H : Hp} {s s' : Shared}
theorem Inv.env0 (I : Inv X pins σ H s) : Env0 X.prog X.w X.K X.mg X.base X.A X.stack s H :=
  ⟨I.ok.frames, I.ok.mod, I.bs, Nat.le_trans I.ok.bsz I.sz, I.stack, I.stkFree, I.hok, I.bare⟩
theorem Inv.after {Q : VK} {u : Value} (I : Inv X pins σ H s) (h : CE X.stack X.prog X.w H s Q u s') : EP X pins σ Q u s' := by
  obtain ⟨v, H', os, bare, un, hok, r, q⟩ := h
  obtain ⟨hh, g, d, t, os'⟩ := s'
  obtain rfl : os' = s.os := os
  exact ⟨v, H', I.call (h' := hh) (g' := g) (d' := d) (t' := t) (ch := []) un hok bare (fun b z => absurd z (by simp)), r, q⟩
end
def zhp (sp : Sp) (dvs : List V) (E : XK) (t : TA) : TE := fun σ H Q => t σ H fun vs H1 => sp (vs ++ dvs) H1 Q E
def Binds (K : PySem.W.Frag) (fd : FuncData) (ps : List Str) (ds : List Value) : Prop :=
  ∀ (s : Shared) (us : List Value), K.In s.heap → (us ++ ds).length = ps.length → BindsTo s fd ⟨us, []⟩ (ps.zip (us ++ ds))
theorem Binds.all {K : PySem.W.Frag} {fd : FuncData} {ps : List Str} (h : ∀ us : List Value, us.length = ps.length → bindArgs fd ⟨us, []⟩ = pure (ps.zip us)) : Binds K fd ps [] := fun s us _ hl => by
  rw [List.append_nil] at hl ⊢
  exact .of_eq (h us hl)
def zda (CX : CXT) (X : Cx) (E : XK) : Prop := ∀ (pins : List (Addr × Obj)) (σ : St) (H : Hp) (s : Shared) (e : Value) (s' : Shared), Inv X pins σ H s → CX X.stack H s E e s' → X.xe e s'
section
variable {X : Cx} {CX : CXT} {k : Nat} {f C : Addr} {fd : FuncData} {ps : List Str} {sp : Sp} {dvs : List V} {ds : List Value} {E : XK} {x m : Str} {p pos apos : Pos} {e o : Expr} {es : List Expr} {ta : TE} {t : TA}
theorem zgR {pins : List (Addr × Obj)} {σ : St} {H : Hp} {s : Shared} {Q : VK} {us : List Value} {vs : List V} (F : FnOk X.prog X.w X.K X.mg X.base CX k f fd ps sp) (hr : Room k X.A) (hb : Binds X.K fd ps ds) (hd : Vals dvs ds) (hx : zda CX X E)
    (I : Inv X pins σ H s) (r : Vals vs us) (h : sp (vs ++ dvs) H Q E) : wpAny (model X.prog X.w) X.A (call (.ref f) us) (EP X pins σ Q) X.xe s := by
  have r2 : Vals (vs ++ dvs) (us ++ ds) := r.append hd
  have hl : (us ++ ds).length = ps.length := by rw [← r2.length]; exact F.len _ _ _ _ h
  refine wpAny_call (codeAny_mono (F.run X.A X.stack s H ⟨us, []⟩ (us ++ ds) (vs ++ dvs) Q E hr I.env0 (hb s us I.kIn hl) r2 h) fun r s' hq => ?_)
  cases r with
  | error e => exact hx pins σ H s e s' I hq
  | ok fl =>
    cases fl with
    | ret u => exact I.after hq
    | next => exact False.elim hq
    | brk => exact False.elim hq
    | cont => exact False.elim hq
theorem zfs (F : FnOk X.prog X.w X.K X.mg X.base CX k f fd ps sp) (hr : Room k X.A) (hg : Gl X x) (hm : X.mg x = some (.ref f)) (hk : PySem.W.keepIn X.K (.ref f) = true) (hb : Binds X.K fd ps ds) (hd : Vals dvs ds) (hx : zda CX X E)
    (ha : PA X (e :: es) t) (hdb : (x == ("__debug__" : Str)) = false := by decide) (he : starEach (e :: es) X.env = (false, eval e X.env) :: starEach es X.env := by rfl) (hpl : (backTo pos (starEach es X.env)).any (·.1) = false := by rfl) :
    PE X (.Call (.Name x p) (e :: es) [] pos) (zhp sp dvs E t) := by
  intro pins s σ H Q I h
  refine wpAny_Call_Name_kw (zfV I hg hm ?_ hdb)
  refine PySem.W.callWith_K (h₀ := X.base) I.ok.mod.kin hk (thn (ha pos pins s σ H _ I h) fun us s1 ⟨vs, H1, I1, r, q⟩ => ⟨I1.kIn, ?_⟩) he hpl
  exact zgR F hr hb hd hx I1 r q
structure Mk (K : PySem.W.Frag) (C f : Addr) : Prop where
  makes : PySem.W.makesIn K C = true
  init : PySem.W.findIn K (.ref C) "__init__" = some (some (.ref f))
  fn : PySem.W.isFn K (.ref f) = true
  kp : PySem.W.keepIn K (.ref C) = true
end
section
variable {X : Cx} {CX : CXT} {k : Nat} {f C : Addr} {fd : FuncData} {ps ks : List Str} {sp : Sp} {E : XK} {x m : Str} {p pos apos kpos : Pos} {e o : Expr} {es : List Expr} {kws : List Keyword} {te ta : TE} {t tk : TA} {nm : Option Str}
structure KBinds (K : PySem.W.Frag) (fd : FuncData) (ps ks : List Str) (g : List Value → List Value → List Value) (gV : List V → List V → List V) : Prop where
  to : ∀ (s : Shared) (us ws : List Value), K.In s.heap → (g us ws).length = ps.length → BindsTo s fd ⟨us, ks.zip ws⟩ (ps.zip (g us ws))
  rel : ∀ {vs : List V} {us : List Value} {zs : List V} {ws : List Value}, Vals vs us → Vals zs ws → Vals (gV vs zs) (g us ws)
variable {g : List Value → List Value → List Value} {gV : List V → List V → List V}
end
structure FnScope (N P : List Str) (sc : Scope) : Prop where
  kind : sc.kind = .function
  co : sc.isCoroutine = false
  gen : sc.isGenerator = false
  nd : N.Nodup
  pre : N.take P.length = P
  par : ∀ x ∈ P, sc.names.lookup x = some .local ∨ sc.names.lookup x = some .cell
  nofree : ∀ y ∈ sc.names, y.2 ≠ .free
theorem kB {kindOf : Str → Option NameKind} {x : Str} : ∀ {binds : List (Str × Value)} {m : Str → Option Value}, (∀ v, (x, v) ∉ binds) → bindL kindOf binds m x = m x
  | [], _, _ => rfl
  | (n, v) :: r, m, h => by
    unfold bindL
    rw [kB fun w hw => h w (List.mem_cons_of_mem _ hw)]
    split
    · have : x ≠ n := by rintro rfl; exact h v List.mem_cons_self
      simp [this]
    · rfl
theorem kF {kindOf : Str → Option NameKind} {x : Str} : ∀ {binds : List (Str × Value)} {m : Str → Option Value}, (∀ v, (x, v) ∉ binds) → bindC kindOf binds m x = m x
  | [], _, _ => rfl
  | (n, v) :: r, m, h => by
    unfold bindC
    rw [kF fun w hw => h w (List.mem_cons_of_mem _ hw)]
    split
    · rfl
    · have : x ≠ n := by rintro rfl; exact h v List.mem_cons_self
      simp [this]
theorem vV {kindOf : Str → Option NameKind} {x : Str} {v : Value} : ∀ {P : List Str} {vs : List Value} {i : Nat} {m : Str → Option Value}, P.Nodup → P[i]? = some x → vs[i]? = some v → kindOf x = some .local →
    bindL kindOf (P.zip vs) m x = some v
  | [], _, _, _, _, h, _, _ => by simp at h
  | _ :: _, [], _, _, _, _, h, _ => by simp at h
  | p :: P, w :: vs, 0, m, nd, h1, h2, hk => by
    simp at h1 h2; subst h1; subst h2
    show bindL kindOf ((p, w) :: P.zip vs) m p = _
    unfold bindL
    rw [kB fun v hv => (List.nodup_cons.mp nd).1 (List.of_mem_zip hv).1, if_pos hk]
    simp
  | p :: P, w :: vs, i + 1, m, nd, h1, h2, hk => by
    show bindL kindOf ((p, w) :: P.zip vs) m x = _
    unfold bindL
    exact vV (i := i) (List.nodup_cons.mp nd).2 (by simpa using h1) (by simpa using h2) hk
theorem kg {kindOf : Str → Option NameKind} {x : Str} {v : Value} : ∀ {P : List Str} {vs : List Value} {i : Nat} {m : Str → Option Value}, P.Nodup → P[i]? = some x → vs[i]? = some v → kindOf x ≠ some .local →
    bindC kindOf (P.zip vs) m x = some v
  | [], _, _, _, _, h, _, _ => by simp at h
  | _ :: _, [], _, _, _, _, h, _ => by simp at h
  | p :: P, w :: vs, 0, m, nd, h1, h2, hk => by
    simp at h1 h2; subst h1; subst h2
    show bindC kindOf ((p, w) :: P.zip vs) m p = _
    unfold bindC
    rw [kF fun v hv => (List.nodup_cons.mp nd).1 (List.of_mem_zip hv).1, if_neg hk]
    simp
  | p :: P, w :: vs, i + 1, m, nd, h1, h2, hk => by
    show bindC kindOf ((p, w) :: P.zip vs) m x = _
    unfold bindC
    exact kg (i := i) (List.nodup_cons.mp nd).2 (by simpa using h1) (by simpa using h2) hk
def start (N : List Str) (vs : List V) : St := vs.map some ++ List.replicate (N.length - vs.length) none
def cxOf (CX : CXT) (P : Program) (w : World) (K : PySem.W.Frag) (mg : Str → Option Value) (base : Heap) (N : List Str) (qual : Str) (scope : Scope) (f : Addr) (cd : Value) (A : Around) (outer : List Env) (s : Shared) (H : Hp) (E : XK) : Cx where
  prog := P
  w := w
  K := K
  mg := mg
  base := base
  A := A.deeper (envOfC qual scope s.heap.objs.size f cd)
  N := N
  s₀ := s
  H₀ := H
  env := envOfC qual scope s.heap.objs.size f cd
  outer := outer
  stack := envOfC qual scope s.heap.objs.size f cd :: outer
  ex := []
  calm := true
  fn := fun _ => true
  pn := []
  xe := fun e s' => wpAny (model P w) (A.deeper (envOfC qual scope s.heap.objs.size f cd)) (leaving (envOfC qual scope s.heap.objs.size f cd) e) (fun _ s'' => CX outer H s E e s'') (fun e' s'' => CX outer H s E e' s'') s'
theorem za1 {sc : Scope} {n : Nat} {x : Str} (h : sc.names.lookup x = some .cell) : ∃ c, (cellsFrom n sc.names []).lookup x = some c := by
  have q := PySem.W.cellsFrom_some sc.names n [] (.inl h)
  exact Option.isSome_iff_exists.mp q
theorem zdi {CX : CXT} {P : Program} {w : World} {K : PySem.W.Frag} {mg : Str → Option Value} {base : Heap} {N ps : List Str} {qual : Str} {scope : Scope} {f : Addr} {cd : Value} {A : Around} {outer : List Env} {s s1 : Shared} {H : Hp} {E : XK} {us : List Value} {vs : List V}
    (S : FnScope N ps scope) (hd : A.handled = none) (e0 : Env0 P w K mg base A outer s H) (hl : vs.length = ps.length) (r : Vals vs us)
    (x : InCallC s s.heap.objs.size (bindL (envOfC qual scope s.heap.objs.size f cd).kindOf (ps.zip us) fun _ => none) (cellsFrom (s.heap.objs.size + 1) scope.names []) (bindC (envOfC qual scope s.heap.objs.size f cd).kindOf (ps.zip us) fun _ => none) s1) :
    Inv (cxOf CX P w K mg base N qual scope f cd A outer s H E) [] (start N vs) H s1 := by
  have hpl : ps.length ≤ N.length := by have := congrArg List.length S.pre; rw [List.length_take] at this; omega
  obtain ⟨h1, tk, rfl, hk⟩ := x.done
  have noA : ∀ b : Addr, b ∉ (cxOf CX P w K mg base N qual scope f cd A outer s H E).ex := fun b z => absurd (show b ∈ ([] : List Addr) from z) (by simp)
  refine ⟨⟨e0.mod, S.kind, rfl, rfl, Nat.le_refl _, fun y z c h1 h2 => ?_, fun y hy => ?_, fun y c _ h => ?_, fun _ => hd, Around.frames_deeper e0.frames, .inr ⟨rfl, rfl⟩, fun b z => absurd z (noA b), e0.bs, e0.bsz, fun b _ _ => noA b, fun b z => absurd z (noA b), e0.funs, e0.frf⟩,
    rfl, e0.bare, Un.kept hk, ⟨_, x.toInCall.ns, fun i y v h1 h2 h3 => ?_⟩, fun y c h => ⟨_, x.cell y c h⟩, e0.hok.fresh (Nat.le_refl _), fun y c h => ?_, fun p hp => absurd (show p ∈ ([] : List (Addr × Obj)) from hp) (by simp), e0.hok.kept hk, ?_⟩
  · exact name_of_addr x.apart (PySem.mem_of_lookup h1) (PySem.mem_of_lookup h2)
  · have hy : scope.names.lookup y = some .cell ∨ scope.names.lookup y = some .free := hy
    rcases hy with hy | hy
    · exact za1 hy
    · exact absurd rfl (S.nofree _ (PySem.mem_of_lookup hy))
  · exact Nat.le_of_lt (x.above y c (PySem.mem_of_lookup h))
  · have hi : i < vs.length := by
      unfold start at h2
      by_cases hi : i < vs.length
      · exact hi
      · rw [List.getElem?_append_right (by simpa using hi)] at h2
        rw [List.getElem?_replicate] at h2
        split at h2 <;> cases h2
    have ha : vs[i]? = some v := by
      unfold start at h2
      rw [List.getElem?_append_left (by simpa using hi), List.getElem?_map] at h2
      cases e : vs[i]? with
      | none => rw [e] at h2; cases h2
      | some a => rw [e] at h2; cases h2; rfl
    obtain ⟨u, hu, rv⟩ := r.get ha
    have hp : ps[i]? = some y := by
      rw [← S.pre, List.getElem?_take_of_lt (by omega)]; exact h1
    have ndP : ps.Nodup := by rw [← S.pre]; exact S.nd.sublist (List.take_sublist _ _)
    refine ⟨u, rv, ?_⟩
    rcases S.par y (List.mem_of_getElem? hp) with k | k
    · exact .inl ⟨k, vV ndP hp hu k⟩
    · obtain ⟨c, e⟩ := za1 (n := s.heap.objs.size + 1) k
      refine .inr ⟨.inl k, c, e, ?_⟩
      have q := x.cell y c e
      rw [kg ndP hp hu (by show scope.names.lookup y ≠ _; rw [k]; decide)] at q
      exact q
  · exact e0.hok.fresh (Nat.le_of_lt (x.above y c (PySem.mem_of_lookup h)))
  · unfold start
    show _ = N.length
    rw [List.length_append, List.length_map, List.length_replicate]
    omega
theorem zhu {CX : CXT} {P : Program} {w : World} {K : PySem.W.Frag} {mg : Str → Option Value} {base : Heap} {k : Nat} {f : Addr} {name qual : Str} {params : Arguments} {body : List Stmt} {scope : Scope} {dV kV doc pm cdv ct oc : Value} {an od : Option Addr}
    {osl : Array (Option Value)} {N ps : List Str} {sp : Sp} (lk : K.lookup f = some ⟨oc, od, .func (PySem.W.fnOf name qual params body scope dV kV doc pm an cdv ct), osl⟩) (hcd : PySem.W.codeIn K cdv qual = true) (S : FnScope N ps scope)
    (len : ∀ vs H Q E, sp vs H Q E → vs.length = ps.length)
    (hbody : ∀ (A : Around) (outer : List Env) (s : Shared) (H : Hp) (vs : List V) (Q : VK) (E : XK), Room k (A.deeper (envOfC qual scope s.heap.objs.size f cdv)) → sp vs H Q E →
      ∃ t, PSs (cxOf CX P w K mg base N qual scope f cdv A outer s H E) body t ∧ t { nx := fun _ H' => Q .non H', rt := Q } (start N vs) H) :
    FnOk P w K mg base CX (k + 1) f (PySem.W.fnOf name qual params body scope dV kV doc pm an cdv ct) ps sp := by
  refine ⟨len, fun A outer s H args us vs Q E hr e0 hb r hsp => ?_⟩
  have hl := len _ _ _ _ hsp
  have KX : K.In s.heap := e0.mod.kin.keeps fun b o e => (e0.bs b o e).1
  have lim : s.heap.NoLimit := e0.mod.nolimit.keeps fun b o e => (e0.bs b o e).1
  have hkind : ∀ y ∈ ps.zip us, scope.names.lookup y.1 = some .local ∨ (scope.names.lookup y.1 = some .cell ∧ ((cellsFrom (s.heap.objs.size + 1) scope.names []).lookup y.1).isSome = true) := fun ⟨n, v⟩ hy => by
    rcases S.par n (List.of_mem_zip hy).1 with q | q
    · exact .inl q
    · exact .inr ⟨q, PySem.W.cellsFrom_some _ _ _ (.inl q)⟩
  refine codeAny_call_function hr.depth (KX _ _ lk) rfl S.co S.gen rfl (PySem.W.codeRec_of KX hcd) (hb _ _ _ _ ?_)
  refine wpAny_newFunctionEnv_cells S.kind hkind fun env he s1 x => ?_
  subst he
  refine ⟨lim.keeps x.toInCall.keep, codeAny_func ?_⟩
  obtain ⟨t, ht, hq⟩ := hbody A outer s H vs Q E (hr.deeper _) hsp
  have I : Inv (cxOf CX P w K mg base N qual scope f cdv A outer s H E) [] (start N vs) H s1 := zdi S hr.hd e0 hl r x
  refine wpAny_mono (ht [] s1 (start N vs) H _ I hq) (fun fl s' hs => ?_) fun e s' hs => hs
  have fin : ∀ {σ' : St} {H' : Hp} {v : V} {u : Value}, Inv (cxOf CX P w K mg base N qual scope f cdv A outer s H E) [] σ' H' s' → RelV v u → Q v H' → CE outer P w H s Q u s' :=
    fun {σ' H' v u} J rv q => ⟨v, H', J.os, J.bare, J.base, J.hok, rv, q⟩
  cases fl with
  | ret u =>
    obtain ⟨v, σ', H', J, rv, q⟩ := hs
    exact fin J rv q
  | next =>
    obtain ⟨σ', H', J, q⟩ := hs
    exact fin (v := V.non) (u := Value.none) J rfl q
  | brk =>
    obtain ⟨_, _, _, q⟩ := hs
    exact False.elim q
  | cont =>
    obtain ⟨_, _, _, q⟩ := hs
    exact False.elim q
end L2
namespace L2
open PySem PySem.Spec PyProof.Rows
section
variable {X : Cx} {x : Str} {p pos : Pos} {e : Expr} {es : List Expr} {t : TA} {id T : String} {r : List V → Hp → VK → Prop}
def tCB (r : List V → Hp → VK → Prop) (t : TA) : TE := fun σ H Q => t σ H fun vs H1 => r vs H1 Q
theorem wr (hc : xg X (.builtin id) r) (hg : Gl X x) (hm : X.mg x = none) (hv : bootBuiltins x = some (.builtin id)) (ha : PA X (e :: es) t) (hn : x ≠ "__name__" := by decide) (hdb : (x == ("__debug__" : Str)) = false := by decide)
    (he : starEach (e :: es) X.env = (false, eval e X.env) :: starEach es X.env := by rfl) (hpl : (backTo pos (starEach es X.env)).any (·.1) = false := by rfl) : PE X (.Call (.Name x p) (e :: es) [] pos) (tCB r t) := by
  intro pins s σ H Q I h
  refine wpAny_Call_Name_kw (wg I hg hm hv ?_ hn hdb)
  exact PyProof.Rows.callWith_builtin1 (thn (ha pos pins s σ H _ I h) fun us s1 ⟨vs, H1, I1, r1, q1⟩ => hc pins s1 σ H1 vs us Q I1 r1 q1) he hpl
theorem zbH (hc : xg X (.type T) r) (hg : Gl X x) (hm : X.mg x = none) (hv : bootBuiltins x = some (.type T)) (ha : PA X (e :: es) t) (hn : x ≠ "__name__" := by decide) (hdb : (x == ("__debug__" : Str)) = false := by decide)
    (he : starEach (e :: es) X.env = (false, eval e X.env) :: starEach es X.env := by rfl) (hpl : (backTo pos (starEach es X.env)).any (·.1) = false := by rfl) : PE X (.Call (.Name x p) (e :: es) [] pos) (tCB r t) := by
  intro pins s σ H Q I h
  refine wpAny_Call_Name_kw (wg I hg hm hv ?_ hn hdb)
  exact PyProof.Rows.callWith_type1 (thn (ha pos pins s σ H _ I h) fun us s1 ⟨vs, H1, I1, r1, q1⟩ => hc pins s1 σ H1 vs us Q I1 r1 q1) he hpl
end
end L2
namespace HT
open PySem PyProof.Rows
theorem lexLt_cons (x y : Int) (xs ys : List Int) : lexLt (x :: xs) (y :: ys) = if x = y then lexLt xs ys else decide (x < y) := rfl
theorem vo : lexLt [] [] = false := rfl
theorem yx (y : Int) (ys : List Int) : lexLt [] (y :: ys) = true := rfl
theorem yD (x : Int) (xs : List Int) : lexLt (x :: xs) [] = false := rfl
theorem zes (A : Around) (s : Shared) (a : Int) (t : Tok) (c : Int) (u : Tok) : ∃ e, SeqAt.EqAt A s (.int a t) (.int c u) e ∧ (e = true ↔ a = c) :=
  ⟨(a == c), SeqAt.EqAt.int_int a t c u, by simp⟩
theorem zel (A : Around) (s : Shared) (a : Int) (t : Tok) (c : Int) (u : Tok) (prog : Program) (w : World) (E : Value → Shared → Prop) (Q : Value → Shared → Prop) (h : Q (.bool (decide (a < c))) s) :
    wpAny (model prog w) A (richCompare .Lt (.int a t) (.int c u)) Q E s :=
  (PyProof.Rows.lt_int h : wpAny (model prog w) A (compareOp .Lt (.int a t) (.int c u)) Q E s)
section
open PySem.SeqAt
open PySem.AutoSeq1 (wpAny_loadPart')
open PySem.MeetsSeq PySem.MeetsSeq2 PySem.MeetsSeq3
theorem vk (l b : Addr) (items items2 : Array Value) (n n2 : Nat) (dd dd2 : Option Addr) (sl sl2 : Array (Option Value)) (ns ms : List Int) (hi : IntsAre items.toList ns) (hj : IntsAre items2.toList ms) :
    Meets (Builtin.«tuple.__lt__» ⟨[.ref l, .ref b], []⟩)
      (fun _ R s => s.heap.get? l = some { cls := .type "tuple", dict := dd, data := .seq items n, slots := sl } ∧ s.heap.get? b = some { cls := .type "tuple", dict := dd2, data := .seq items2 n2, slots := sl2 } ∧
        R (.ok (.ret (.bool (lexLt ns ms)))) s) :=
  .of_wp fun prog w A R s h => by
    obtain ⟨hp, g, d, tk, os⟩ := s; obtain ⟨hl, hb, h⟩ := h
    have f2 := AutoSeq1.sub_tuple_tuple
    have z1 : items.size = ns.length := by rw [← hi.length]; simp
    have z2 : items2.size = ms.length := by rw [← hj.length]; simp
    wp_walk using wpAny_loadPart' hl, wpAny_loadPart' hb, wpAny_forIn_list _ (fun rest b s' => b.1 = none ∧ s' = ⟨hp, g, d, tk, os⟩ ∧ ∃ (vs ws : List Value) (ns' ms' : List Int), rest = vs.zip ws ∧
      IntsAre vs ns' ∧ IntsAre ws ms' ∧ ns'.length + items2.size = ms'.length + items.size ∧ R (.ok (.ret (.bool (lexLt ns' ms')))) ⟨hp, g, d, tk, os⟩) _
    case turn =>
      rintro ⟨y, x⟩ rest b s' ⟨hb', rfl, vs, ws, ns', ms', hz, hvi, hwi, hlen, hR⟩
      cases hvi with
      | nil => rw [List.zip_nil_left] at hz; cases hz
      | cons a t hvi' =>
        cases hwi with
        | nil => rw [List.zip_nil_right] at hz; cases hz
        | cons c u hwi' =>
          rw [List.zip_cons_cons] at hz
          injection hz with hyx hrest
          injection hyx with hy hx
          subst hy hx
          rw [lexLt_cons] at hR
          simp only [List.length_cons] at hlen
          obtain ⟨e, he, hiff⟩ := zes A.in1 ⟨hp, g, d, tk, os⟩ a t c u
          refine wpAny_bind (he prog w _ _ ?_)
          cases e with
          | true =>
            rw [if_pos (hiff.mp rfl)] at hR
            wp_walk
            exact ⟨rfl, rfl, _, _, _, _, hrest, hvi', hwi', by omega, hR⟩
          | false =>
            rw [if_neg (fun q => absurd (hiff.mpr q) Bool.false_ne_true)] at hR
            have hri := zel A.in1 ⟨hp, g, d, tk, os⟩ a t c u prog w
            wp_walk using hri
            exact ⟨_, rfl, by simpa using hR⟩
    case fin =>
      rintro ⟨b1, b2⟩ s' ⟨hb', rfl, vs, ws, ns', ms', hz, hvi, hwi, hlen, hR⟩
      simp only at hb'
      subst hb'
      have hv : lexLt ns' ms' = decide (items.size < items2.size) := by
        cases hvi with
        | nil =>
          cases hwi with
          | nil =>
            simp only [List.length_nil] at hlen
            rw [vo]
            exact (decide_eq_false (by omega)).symm
          | cons c u hw =>
            simp only [List.length_nil, List.length_cons] at hlen
            rw [yx]
            exact (decide_eq_true (by omega)).symm
        | cons a t hv =>
          cases hwi with
          | nil =>
            simp only [List.length_nil, List.length_cons] at hlen
            rw [yD]
            exact (decide_eq_false (by omega)).symm
          | cons c u hw =>
            rw [List.zip_cons_cons] at hz
            cases hz
      rw [hv] at hR
      wp_walk
      exact ⟨_, rfl, by simpa [Builtin.Tuple.tupleCompareSizes] using hR⟩
    case h =>
      exact ⟨rfl, rfl, items.toList, items2.toList, ns, ms, rfl, hi, hj, by omega, h⟩
end
section
variable {prog : Program} {w : World} {A : Around} {E : Value → Shared → Prop} {s : Shared}
theorem lt_tupInts {l b : Addr} {items items2 : Array Value} {ns ms : List Int} {Q : Value → Shared → Prop} (hl : IsTup s.heap l items) (hb : IsTup s.heap b items2) (hi : IntsAre items.toList ns) (hj : IntsAre items2.toList ms)
    (hu : A.units < cLine) (h : Q (.bool (lexLt ns ms)) s) : wpAny (model prog w) A (compareOp .Lt (.ref l) (.ref b)) Q E s := by
  obtain ⟨⟨cls, dd, data, sl⟩, ho, hc, n, hd⟩ := id hl
  obtain ⟨⟨cls2, dd2, data2, sl2⟩, ho2, hc2, n2, hd2⟩ := id hb
  simp only at hc hd hc2 hd2
  subst hc hd hc2 hd2
  exact richCompare_meets_room (op := .Lt) ⟨_, ho, rfl⟩ ⟨_, ho2, rfl⟩ PySem.F.slot_tuple_lt PySem.F.entry_tuple_lt (PySem.F.args_tuple_lt_2 _ _) (vk l b items items2 n n2 dd dd2 sl sl2 ns ms hi hj)
    ⟨ho, ho2, show Value.bool (lexLt ns ms) ≠ Value.notImplemented ∧ Q (.bool (lexLt ns ms)) s from ⟨(fun x => nomatch x), h⟩⟩ hu
theorem cat_tup {t b : Addr} {vs ws : List Value} {Q : Value → Shared → Prop} (ht : IsTup s.heap t vs.toArray) (hb : IsTup s.heap b ws.toArray) (hv : vs ≠ [])
    (h1 : ws = [] → Q (.ref t) s) (h2 : ws ≠ [] → Q (.ref s.heap.objs.size) { s with heap := s.heap.push { cls := .type "tuple", data := .seq (vs ++ ws).toArray } })
    (hsz : vs.length + ws.length ≤ sizeLine) : wpAny (model prog w) A (binaryOp .Add (.ref t) (.ref b)) Q E s := by
  obtain ⟨⟨cls, dd, data, sl⟩, ho, hc, n, hd⟩ := id ht
  obtain ⟨⟨cls2, dd2, data2, sl2⟩, ho2, hc2, n2, hd2⟩ := id hb
  simp only at hc hd hc2 hd2
  subst hc hd hc2 hd2
  have e : vs.toArray ++ ws.toArray = (vs ++ ws).toArray := by simp
  by_cases hw : ws = []
  · exact concat_meets ⟨_, ho, rfl⟩ ⟨_, ho2, rfl⟩ noFill_tuple_add seq_tuple_add PySem.F.slot_tuple_add PySem.F.entry_tuple_add (PySem.F.args_tuple_add_2 _ _)
      (tuple_addW1 t b vs.toArray ws.toArray n n2 dd dd2 sl sl2 (by simpa using hv) (by simp [hw])) ⟨ho, ho2, h1 hw⟩
  · refine concat_meets ⟨_, ho, rfl⟩ ⟨_, ho2, rfl⟩ noFill_tuple_add seq_tuple_add PySem.F.slot_tuple_add PySem.F.entry_tuple_add (PySem.F.args_tuple_add_2 _ _)
      (tuple_addW2 t b vs.toArray ws.toArray n n2 dd dd2 sl sl2 (by simpa using hv) (by simpa using hw) (by rw [List.size_toArray, List.size_toArray]; exact hsz)) ⟨ho, ho2, ?_⟩
    rw [e]
    exact h2 hw
theorem zg4 (n d : Nat) (hd : d ≤ n) (o : Option Int) : sIx n d o ≤ n := by
  cases o with
  | none => exact hd
  | some v =>
    show (if v < 0 then (v + (n : Int)).toNat else min v.toNat n) ≤ n
    by_cases hv : v < 0
    · rw [if_pos hv]; omega
    · rw [if_neg hv]; exact Nat.min_le_right _ _
theorem zc0 (v : Int) (n d : Nat) : (if v < 0 then max (v + (n : Int)) 0 else min v (n : Int)) = ((sIx n d (some v) : Nat) : Int) := by
  show (if v < 0 then max (v + (n : Int)) 0 else min v (n : Int)) = (((if v < 0 then (v + (n : Int)).toNat else min v.toNat n) : Nat) : Int)
  by_cases hv : v < 0
  · simp only [if_pos hv]; omega
  · simp only [if_neg hv]; omega
theorem zbA (lo hi : Option Int) (n : Nat) : Builtin.Slice.sliceAdjust lo hi 1 (n : Int) = (((sIx n 0 lo : Nat) : Int), ((sIx n n hi : Nat) : Int)) := by
  have h1 : ¬ ((1 : Int) < 0) := by omega
  unfold Builtin.Slice.sliceAdjust
  simp only [h1, if_false]
  refine Prod.ext ?_ ?_
  · cases lo with
    | none => rfl
    | some v => exact zc0 v n 0
  · cases hi with
    | none => rfl
    | some v => exact zc0 v n n
theorem zbs (i j : Nat) : Builtin.Slice.slicePlaces (i : Int) (j : Int) 1 = j - i := by
  unfold Builtin.Slice.slicePlaces
  have h1 : (1 : Int) > 0 := by omega
  simp only [h1, if_true, Int.ediv_one]
  split <;> omega
theorem yR {v : Value} {o : Option Int} {Q : Option Int → Shared → Prop} (p : IsPart v o) (h : Q o s) : wpAny (model prog w) A (Builtin.Slice.slicePartIndex v) Q E s := by
  cases p with
  | none => exact slicePart_none h
  | int i t => exact slicePart_int h
theorem sliceApplied_gen {sl : Addr} {vl vu : Value} {lo hi : Option Int} {n : Nat} {Q : Int × Int × Nat → Shared → Prop} (hs : s.heap.IsSliceOf sl vl vu .none) (pl : IsPart vl lo) (pu : IsPart vu hi)
    (h : Q (((sIx n 0 lo : Nat) : Int), 1, sIx n n hi - sIx n 0 lo) s) : wpAny (model prog w) A (Builtin.Slice.sliceApplied (.ref sl) (pure (n : Int))) Q E s := by
  obtain ⟨os, hos, hcs, hds⟩ := id hs
  unfold Builtin.Slice.sliceApplied Builtin.Slice.sliceFields
  refine wpAny_bind (wpAny_bind (wpAny_field hos hds (x := vl) rfl (wpAny_bind (wpAny_field hos hds (x := vu) rfl (wpAny_bind (wpAny_field hos hds (x := .none) rfl (wpAny_pure ?_)))))))
  refine wpAny_bind (slicePart_none ?_)
  show wpAny _ _ (if ((1 : Int) == 0) = true then _ else _) _ _ s
  rw [if_neg (by decide)]
  refine wpAny_bind (yR pl (wpAny_bind (yR pu (wpAny_bind (wpAny_pure ?_)))))
  show wpAny _ _ (match Builtin.Slice.sliceAdjust lo hi 1 (n : Int) with | (lo, hi) => pure (lo, (1 : Int), Builtin.Slice.slicePlaces lo hi 1)) _ _ s
  rw [zbA lo hi n]
  show wpAny _ _ (pure (((sIx n 0 lo : Nat) : Int), (1 : Int), Builtin.Slice.slicePlaces ((sIx n 0 lo : Nat) : Int) ((sIx n n hi : Nat) : Int) 1)) _ _ s
  rw [zbs]
  exact wpAny_pure h
theorem zez (xs : Array Value) (i k : Nat) : ((List.range k).filterMap fun (m : Nat) => xs[((i : Int) + (m : Int) * 1).toNat]?).toArray = ((xs.toList.drop i).take k).toArray := by
  have e : (fun (m : Nat) => xs[((i : Int) + (m : Int) * 1).toNat]?) = fun m => xs[i + m]? := by
    funext m
    have : ((i : Int) + (m : Int) * 1).toNat = i + m := by omega
    rw [this]
  rw [e]
  have := pick_run xs i k
  rw [List.filterMap_map] at this
  have e2 : ((fun x => xs[x]?) ∘ fun x => i + x) = fun m => xs[i + m]? := rfl
  rw [e2] at this
  rw [this]
theorem getItem_tuple_cut {t sl : Addr} {items : Array Value} {vl vu : Value} {lo hi : Option Int} {Q : Value → Shared → Prop} (ht : IsTup s.heap t items) (hs : s.heap.IsSliceOf sl vl vu .none) (pl : IsPart vl lo) (pu : IsPart vu hi)
    (hw : ¬ (sIx items.size 0 lo = 0 ∧ sIx items.size items.size hi = items.size))
    (h : Q (.ref s.heap.objs.size) { s with heap := s.heap.push { cls := .type "tuple", data := .seq ((items.toList.drop (sIx items.size 0 lo)).take (sIx items.size items.size hi - sIx items.size 0 lo)).toArray } })
    (hsz : items.size ≤ sizeLine) : wpAny (model prog w) A (getItem (.ref t) (.ref sl)) Q E s := by
  have htake : sizeOk (.seq ((items.toList.drop (sIx items.size 0 lo)).take (sIx items.size items.size hi - sIx items.size 0 lo)).toArray) := by
    show ((items.toList.drop (sIx items.size 0 lo)).take (sIx items.size items.size hi - sIx items.size 0 lo)).toArray.size ≤ sizeLine
    rw [List.size_toArray, List.length_take, List.length_drop, Array.length_toList]
    omega
  have hj : sIx items.size items.size hi ≤ items.size := zg4 _ _ (Nat.le_refl _) hi
  obtain ⟨os, hos, hcs, hds⟩ := id hs
  have hTs : s.TypeIs (.ref sl) "slice" := ⟨os, hos, hcs⟩
  unfold getItem
  try with_reducible refine wpAny_holding ?_
  first | refine wpAny_bind (wpAny_pure ?_) | skip
  refine wpAny_bind (wpAny_sequenceKey ht.typeIs (by decide) ?_)
  refine wpAny_bind (wpAny_callSpecial?_slot (name := Str.ofString "__getitem__") ht.typeIs PyProof.Rows.slot_tuple_getitem
    (wpAny_call_entry PyProof.Rows.slot_tuple_getitem ht.typeIs entry_tuple_getitem ?_ (args_tuple_getitem _ _)))
  show wpAny _ _ (Builtin.Tuple.tupleItemsOf (.ref t) >>= _) _ _ s
  refine wpAny_bind (tupleItemsOf_ ht ?_)
  refine wpAny_bind (wpAny_typeOf hTs ?_)
  rw [if_pos (by decide)]
  refine wpAny_bind (sliceApplied_gen hs pl pu ?_)
  have hno : ¬ ((((sIx items.size 0 lo : Nat) : Int) == 0 && (1 : Int) == 1 && (sIx items.size items.size hi - sIx items.size 0 lo) == items.size) = true) := by
    intro q
    rw [Bool.and_eq_true, Bool.and_eq_true] at q
    have q1 : ((sIx items.size 0 lo : Nat) : Int) = 0 := eq_of_beq q.1.1
    have q2 : sIx items.size items.size hi - sIx items.size 0 lo = items.size := eq_of_beq q.2
    exact hw ⟨by omega, by omega⟩
  show wpAny _ _ (if (((sIx items.size 0 lo : Nat) : Int) == 0 && (1 : Int) == 1 && (sIx items.size items.size hi - sIx items.size 0 lo) == items.size) = true then _ else _) _ _ s
  rw [if_neg hno, zez]
  first
    | exact wpAny_bind (m := Builtin.Tuple.tupleExact _) (wpAny_newObj_type (wpAny_pure ⟨_, rfl, wpAny_pure h⟩) htake)
    | exact wpAny_bind (m := Builtin.Tuple.tupleExact _) (wpAny_newObj_type (wpAny_bind (wpAny_pure (wpAny_pure ⟨_, rfl, wpAny_pure h⟩))) htake)
    | exact wpAny_bind (wpAny_bind (m := Builtin.Tuple.tupleExact _) (wpAny_newObj_type (wpAny_pure (wpAny_pure ⟨_, rfl, wpAny_pure h⟩)) htake))
    | exact wpAny_bind (wpAny_bind (m := Builtin.Tuple.tupleExact _) (wpAny_newObj_type (wpAny_pure ⟨_, rfl, wpAny_pure h⟩) htake))
end
end HT
namespace L2
open PySem PySem.Spec PyProof.Rows
abbrev TO := St → Hp → (Option Int → Hp → Prop) → Prop
def PO (X : Cx) (e : Option Expr) (t : TO) : Prop :=
  ∀ (pins : List (Addr × Obj)) (s : Shared) (σ : St) (H : Hp) (Q : Option Int → Hp → Prop), Inv X pins σ H s → t σ H Q →
    wpAny (model X.prog X.w) X.A (evalPart e X.env) (fun u s' => ∃ o H', Inv X pins σ H' s' ∧ IsPart u o ∧ Q o H') X.xe s
def zfo : TO := fun _ H Q => Q none H
def zhj (t : TE) : TO := fun σ H Q => t σ H fun x H1 => ∃ i, x = .int i ∧ Q (some i) H1
theorem intsAre_of {ns : List Int} : ∀ {us : List Value}, Vals (ns.map V.int) us → IntsAre us ns := by
  induction ns with
  | nil => intro us r; rw [List.map_nil] at r; cases r; exact .nil
  | cons n ns ih =>
    intro us r
    rw [List.map_cons] at r
    cases r with
    | cons r1 r2 =>
      obtain ⟨t, e⟩ := r1
      subst e
      exact .cons n t (ih r2)
section
variable {X : Cx} {e : Expr} {te : TE} {lo hi : Option Expr} {tl th : TO} {pos p2 : Pos}
theorem zfI : PO X none zfo := by
  intro pins s σ H Q I h
  rw [evalPart_none]
  exact wpAny_pure ⟨none, H, I, .none, h⟩
theorem zfm (h : PE X e te) : PO X (some e) (zhj te) := by
  intro pins s σ H Q I hw
  rw [evalPart_some]
  refine thn (h pins s σ H _ I hw) fun u s1 ⟨x, H1, I1, r1, q1⟩ => ?_
  obtain ⟨i, rfl, q⟩ := q1
  obtain ⟨t, rfl⟩ := r1
  exact ⟨some i, H1, I1, .int i t, q⟩
def SlR (X : Cx) (r : V → Option Int → Option Int → Hp → VK → Prop) : Prop :=
  ∀ (pins : List (Addr × Obj)) (s : Shared) (σ : St) (H : Hp) (x : V) (v vl vu : Value) (lo hi : Option Int) (sl : Addr) (Q : VK), Inv X pins σ H s → RelV x v → s.heap.IsSliceOf sl vl vu .none → IsPart vl lo → IsPart vu hi → r x lo hi H Q →
    ∃ T id, typeLookup (.type T) "__getitem__" = pure (some (.builtin id)) ∧ s.TypeIs v T ∧ wpAny (model X.prog X.w) X.A (getItem v (.ref sl)) (EP X pins σ Q) X.xe s
theorem SlR.or {r r' : V → Option Int → Option Int → Hp → VK → Prop} (h : SlR X r) (h' : SlR X r') : SlR X (fun x lo hi H Q => r x lo hi H Q ∨ r' x lo hi H Q) := by
  intro pins s σ H x v vl vu lo hi sl Q I rx hs pl pu q
  rcases q with q | q
  · exact h pins s σ H x v vl vu lo hi sl Q I rx hs pl pu q
  · exact h' pins s σ H x v vl vu lo hi sl Q I rx hs pl pu q
def tSl (r : V → Option Int → Option Int → Hp → VK → Prop) (te : TE) (tl th : TO) : TE := fun σ H Q => te σ H fun x H1 => tl σ H1 fun l H2 => th σ H2 fun u H3 => r x l u H3 Q
theorem zeb {r : V → Option Int → Option Int → Hp → VK → Prop} (hr : SlR X r) (he : PE X e te) (hl : PO X lo tl) (hu : PO X hi th) : PE X (.Subscript e (.Slice lo hi none p2) pos) (tSl r te tl th) := by
  intro pins s σ H Q I h
  refine Subscript_ (thn (he pins s σ H _ I h) fun v s1 ⟨x, H1, I1, r1, q1⟩ => ?_)
  refine wpAny_Slice (thn (hl pins s1 σ H1 _ I1 q1) fun vl s2 ⟨l, H2, I2, pl, q2⟩ => thn (hu pins s2 σ H2 _ I2 q2) fun vu s3 ⟨u, H3, I3, pu, q3⟩ => ?_)
  rw [evalPart_none]
  refine wpAny_pure ?_
  have I4 : Inv X pins σ H3 { s3 with heap := s3.heap.push { cls := .type "slice", data := .fields #[vl, vu, .none] } } := I3.kept (t' := s3.toks) fun b ob q => Heap.get?_push_of_some _ q
  obtain ⟨T, id, hT, ht, hg⟩ := hr pins { s3 with heap := s3.heap.push { cls := .type "slice", data := .fields #[vl, vu, .none] } } σ H3 x v vl vu l u s3.heap.objs.size Q I4 r1 (Heap.IsSliceOf.new ..) pl pu q3
  show wpAny (model X.prog X.w) X.A (subscriptTail e (.Slice lo hi none p2) v (.ref s3.heap.objs.size)) (EP X pins σ Q) X.xe { s3 with heap := s3.heap.push { cls := .type "slice", data := .fields #[vl, vu, .none] } }
  exact tail_any (ops := [.ref s3.heap.objs.size, v]) ht hT hg (by with_unfolding_all rfl)
def cutV (xs : List V) (lo hi : Option Int) : List V := (xs.drop (HT.sIx xs.length 0 lo)).take (HT.sIx xs.length xs.length hi - HT.sIx xs.length 0 lo)
theorem wV (xs : List V) (lo hi : Option Int) : (cutV xs lo hi).length ≤ xs.length := by
  unfold cutV
  rw [List.length_take, List.length_drop]
  omega
def rSlT (K : PySem.W.Frag) : V → Option Int → Option Int → Hp → VK → Prop := fun x lo hi H Q => ∃ a xs, x = .ref a ∧ SqT K H a xs ∧
  ¬ (HT.sIx xs.length 0 lo = 0 ∧ HT.sIx xs.length xs.length hi = xs.length) ∧ ∀ p, H p = none → Q (.ref p) (upd H p (.tup (cutV xs lo hi)))
theorem zgK : SlR X (rSlT X.K) := by
  intro pins s σ H x v vl vu lo hi sl Q I rx hs pl pu h
  obtain ⟨a, xs, rfl, hx, hw, q⟩ := h
  cases rx
  obtain ⟨its, r, ht, hz⟩ := I.tuple hx
  have hlen : its.toArray.size = xs.length := by rw [List.size_toArray]; exact r.length.symm
  refine ⟨"tuple", _, PyProof.Rows.slot_tuple_getitem.lookup, ht.typeIs, ?_⟩
  refine HT.getItem_tuple_cut ht hs pl pu (by rw [hlen]; exact hw) ?_ (by rw [hlen]; exact hz)
  rw [hlen]
  refine ⟨.ref s.heap.objs.size, _, I.laid (t' := s.toks) (o := .tup (cutV xs lo hi)) (fun b ob q => Heap.get?_push_of_some _ q) (Nat.le_refl _) ?_, rfl, q _ (I.hok.fresh (Nat.le_refl _))⟩
  exact ⟨Nat.le_trans (wV xs lo hi) hz, _, (r.drop (HT.sIx xs.length 0 lo)).take (HT.sIx xs.length xs.length hi - HT.sIx xs.length 0 lo), IsTup.new _ _⟩
def rLtT (K : PySem.W.Frag) : R2 := fun x y H Q => ∃ a b ns ms, x = .ref a ∧ y = .ref b ∧ SqT K H a (ns.map V.int) ∧ SqT K H b (ms.map V.int) ∧ Q (.bl (HT.lexLt ns ms)) H
theorem zgC (hu : X.A.units < cLine) : OpR X (compareOp .Lt) (rLtT X.K) := by
  intro pins s σ H x y v u Q I rx ry h
  obtain ⟨a, b, ns, ms, rfl, rfl, ha, hb, q⟩ := h
  cases rx
  cases ry
  obtain ⟨its, r1, p1, _⟩ := I.tuple ha
  obtain ⟨its2, r2, p2, _⟩ := I.tuple hb
  have i1 : IntsAre its.toArray.toList ns := intsAre_of r1
  have i2 : IntsAre its2.toArray.toList ms := intsAre_of r2
  exact HT.lt_tupInts p1 p2 i1 i2 hu ⟨.bl (HT.lexLt ns ms), H, I, rfl, q⟩
theorem Vals.nil_iff {xs : List V} {us : List Value} (r : Vals xs us) : us = [] ↔ xs = [] := by
  cases r with
  | nil => simp
  | cons _ _ => simp
end
end L2
namespace L2
open PySem PySem.Spec PyProof.Rows
theorem zcV {n : Nat} {i : Int} {j : Nat} (h : ixN n i = some j) : seqIndex? i n = some j ∧ j < n ∧ -(n : Int) ≤ i ∧ i < n := by
  unfold ixN at h
  by_cases h0 : 0 ≤ i
  · rw [if_pos h0] at h
    by_cases h1 : i < n
    · rw [if_pos h1] at h
      have e : i.toNat = j := Option.some.inj h
      exact ⟨by rw [seqIndex_of h0 h1, e], by omega, by omega, h1⟩
    · rw [if_neg h1] at h; cases h
  · rw [if_neg h0] at h
    by_cases h1 : -(n : Int) ≤ i
    · rw [if_pos h1] at h
      have e : (i + n).toNat = j := Option.some.inj h
      exact ⟨by rw [seqIndex_neg (by omega) h1, e], by omega, h1, by omega⟩
    · rw [if_neg h1] at h; cases h
theorem xr {α : Type} {xs : List α} {i : Int} {v : α} (h : atI xs i = some v) : ∃ j, seqIndex? i xs.length = some j ∧ xs[j]? = some v ∧ j < xs.length ∧ -(xs.length : Int) ≤ i ∧ i < xs.length := by
  unfold atI at h
  cases e : ixN xs.length i with
  | none => rw [e] at h; cases h
  | some j =>
    rw [e] at h
    obtain ⟨h1, h2, h3, h4⟩ := zcV e
    exact ⟨j, h1, h, h2, h3, h4⟩
theorem xT {α : Type} {xs : List α} {j : Nat} {v : α} (h : xs[j]? = some v) : atI xs (j : Int) = some v := by
  have hj : j < xs.length := (List.getElem?_eq_some_iff.mp h).1
  have e : ixN xs.length (j : Int) = some j := by
    unfold ixN
    rw [if_pos (by omega), if_pos (by omega)]; simp
  unfold atI; rw [e]; exact h
def zan (b : Expr) : Prop := ∀ o i, subscripted b false o i = operate [o, i] (getItem o i)
def IxR (X : Cx) (r : R2) : Prop :=
  ∀ (value slice : Expr) (pins : List (Addr × Obj)) (s : Shared) (σ : St) (H : Hp) (x y : V) (v u : Value) (Q : VK), Inv X pins σ H s → RelV x v → RelV y u → r x y H Q →
    subscripted slice false v u = operate [v, u] (getItem v u) → wpAny (model X.prog X.w) X.A (subscriptTail value slice v u) (EP X pins σ Q) X.xe s
def MtR (X : Cx) (id : String) (r : V → List V → Hp → VK → Prop) : Prop :=
  ∀ (pins : List (Addr × Obj)) (s : Shared) (σ : St) (H : Hp) (x : V) (xs : List V) (v : Value) (us : List Value) (Q : VK), Inv X pins σ H s → RelV x v → Vals xs us → r x xs H Q →
    wpAny (model X.prog X.w) X.A (call (.builtin id) (v :: us)) (EP X pins σ Q) X.xe s
section
variable {X : Cx} {a b : Expr} {ta tb : TE} {pos : Pos}
theorem IxR.or {r r' : R2} (h : IxR X r) (h' : IxR X r') : IxR X (fun x y H Q => r x y H Q ∨ r' x y H Q) := by
  intro value slice pins s σ H x y v u Q I rx ry q hs
  rcases q with q | q
  · exact h value slice pins s σ H x y v u Q I rx ry q hs
  · exact h' value slice pins s σ H x y v u Q I rx ry q hs
theorem MtR.or {id : String} {r r' : V → List V → Hp → VK → Prop} (h : MtR X id r) (h' : MtR X id r') : MtR X id (fun x xs H Q => r x xs H Q ∨ r' x xs H Q) := by
  intro pins s σ H x xs v us Q I rx rs q
  rcases q with q | q
  · exact h pins s σ H x xs v us Q I rx rs q
  · exact h' pins s σ H x xs v us Q I rx rs q
theorem zgJ {r : R2} (hr : IxR X r) (ha : PE X a ta) (hb : PE X b tb) (hs : zan b) : PE X (.Subscript a b pos) (tOp r ta tb) := by
  intro pins s σ H Q I h
  exact Subscript_ (binT ha hb I h fun v u s2 x y H2 I2 rx ry q => hr a b pins s2 σ H2 x y v u Q I2 rx ry q (hs _ _))
def rIxL (K : PySem.W.Frag) : R2 := fun x y H Q => ∃ p xs i v, x = .ref p ∧ y = .int i ∧ SqL K H p xs ∧ atI xs i = some v ∧ Q v H
def rIxT (K : PySem.W.Frag) : R2 := fun x y H Q => ∃ p xs i v, x = .ref p ∧ y = .int i ∧ SqT K H p xs ∧ atI xs i = some v ∧ Q v H
def rIxS : R2 := fun x y H Q => ∃ z i c, x = .str z ∧ y = .int i ∧ z.length ≤ sizeLine ∧ atI z.cps.toList i = some c ∧ Q (.str ⟨#[c]⟩) H
theorem zce : IxR X (rIxL X.K) := by
  intro value slice pins s σ H x y v u Q I rx ry h hs
  obtain ⟨p, xs, i, z, rfl, rfl, hq, he, q⟩ := h
  cases rx
  obtain ⟨t, rfl⟩ := ry
  obtain ⟨its, r, pl, hz⟩ := I.list hq
  obtain ⟨j, h1, h2, h3, h4, h5⟩ := xr he
  obtain ⟨w, ew, rw'⟩ := r.get h2
  have hl := r.length
  have hn := wU
  have fin : EP X pins σ Q w s := ⟨z, H, I, rw', q⟩
  by_cases h0 : 0 ≤ i
  · have hj : i.toNat = j := by
      rw [seqIndex_of h0 h5] at h1
      exact Option.some.inj h1
    exact item_listR pl.isList h0 (by omega) (by rw [hj]; simpa using ew) fin hs
  · have hj : (i + (its.toArray.size : Int)).toNat = j := by
      rw [seqIndex_neg (by omega) h4] at h1
      rw [List.size_toArray, ← hl]
      exact Option.some.inj h1
    exact subscriptTail_builtinR (x := w) pl.isList.typeIs slot_list_getitem.lookup
      (wpAny_getItem_list_neg (Q := fun r s' => r = w ∧ EP X pins σ Q r s') pl.isList (by omega) (by rw [List.size_toArray] <;> omega) (by omega) (by rw [hj]; simpa using ew) ⟨rfl, fin⟩) hs
theorem zhe : IxR X (rIxT X.K) := by
  intro value slice pins s σ H x y v u Q I rx ry h hs
  obtain ⟨p, xs, i, z, rfl, rfl, hq, he, q⟩ := h
  cases rx
  obtain ⟨t, rfl⟩ := ry
  obtain ⟨its, r, pl, hz⟩ := I.tuple hq
  obtain ⟨j, h1, h2, h3, h4, h5⟩ := xr he
  obtain ⟨w, ew, rw'⟩ := r.get h2
  have hl := r.length
  have hn := wU
  have fin : EP X pins σ Q w s := ⟨z, H, I, rw', q⟩
  exact subscriptTail_builtinR (x := w) pl.typeIs slot_tuple_getitem.lookup
    (getItem_tuple (j := j) (Q := fun r s' => r = w ∧ EP X pins σ Q r s') pl (by omega) (by omega) (by rw [List.size_toArray, ← hl]; exact h1) (by simpa using ew) ⟨rfl, fin⟩) hs
theorem zgk : IxR X rIxS := by
  intro value slice pins s σ H x y v u Q I rx ry h hs
  obtain ⟨z, i, c, rfl, rfl, hz, he, q⟩ := h
  obtain ⟨t, rfl⟩ := rx
  obtain ⟨t', rfl⟩ := ry
  obtain ⟨j, h1, h2, h3, h4, h5⟩ := xr he
  have hl : z.cps.toList.length = z.length := by simp [Str.length]
  rw [hl] at h1 h4 h5
  have hn := wU
  exact tail_any (typeIs_str s z t) slot_str_getitem.lookup (getItem_str (c := c) (by
    have e1 : decide (i < -(2 ^ 63 : Int)) = false := decide_eq_false (by omega)
    have e2 : decide (i ≥ 2 ^ 63) = false := decide_eq_false (by omega)
    rw [e1, e2, Bool.or_false]) (by rw [h1]; simpa using h2) ⟨.str ⟨#[c]⟩, H, I.tok _, ⟨_, rfl⟩, q⟩) hs
def rIx (K : PySem.W.Frag) : R2 := fun x y H Q => rIxL K x y H Q ∨ rIxT K x y H Q ∨ rIxS x y H Q
theorem zgG : IxR X (rIx X.K) := zce.or (zhe.or zgk)
theorem zbl (its : List Value) (n j : Nat) (u : Value) : Obj.mapSeq (·.setIfInBounds j u) { cls := .type "list", data := .seq its.toArray n } = { cls := .type "list", data := .seq (its.set j u).toArray n } := by
  simp [Obj.mapSeq]
theorem Inv.lst {pins : List (Addr × Obj)} {σ : St} {H : Hp} {s : Shared} {p : Addr} {xs : List V} (I : Inv X pins σ H s) (h : H p = some (.lst xs)) :
    ∃ (its : List Value) (n : Nat), Vals xs its ∧ s.heap.get? p = some { cls := .type "list", data := .seq its.toArray n } ∧ xs.length ≤ sizeLine := by
  obtain ⟨z, its, n, r, e⟩ := I.hok p _ h
  exact ⟨its, n, r, e, z⟩
theorem Inv.lstUpd {pins : List (Addr × Obj)} {σ : St} {H : Hp} {s : Shared} {p : Addr} {xs ys : List V} {its its' : List Value} {n n' : Nat} {f : Obj → Obj} (I : Inv X pins σ H s) (h : H p = some (.lst xs))
    (ho : s.heap.get? p = some { cls := .type "list", data := .seq its.toArray n }) (hf : f { cls := .type "list", data := .seq its.toArray n } = { cls := .type "list", data := .seq its'.toArray n' }) (r : Vals ys its') (hz : ys.length ≤ sizeLine) (t : Nat) :
    Inv X pins σ (upd H p (.lst ys)) { s with heap := s.heap.update p f, toks := t } := by
  have e : (s.heap.update p f).get? p = some { cls := .type "list", data := .seq its'.toArray n' } := by
    rw [Heap.get?_update_self f ho (by rw [hf] <;> rfl), hf]
  refine I.write (x := p) (e := p) (by rw [h]; trivial) (.inl rfl) (fun b u hb q => (Heap.get?_update_other _ _ (Ne.symm hb)).trans q) ⟨_, e⟩ ?_
  exact ⟨hz, its', n', r, e⟩
def zhD : V → V → V → Hp → (Hp → Prop) → Prop := fun o i v H Q => ∃ p xs k j, o = .ref p ∧ i = .int k ∧ H p = some (.lst xs) ∧ ixN xs.length k = some j ∧ Q (upd H p (.lst (xs.set j v)))
theorem set_list : PSet X zhD := by
  intro pins s σ H o i v ov iv u Q I ro ri rv h
  obtain ⟨p, xs, k, j, rfl, rfl, hp, hj, q⟩ := h
  cases ro
  obtain ⟨t, rfl⟩ := ri
  obtain ⟨its, n, r, ho, hz⟩ := I.lst hp
  obtain ⟨h1, h2, h3, h4⟩ := zcV hj
  have hl := r.length
  have hn := wU
  have I' : Inv X pins σ (upd H p (.lst (xs.set j v))) { s with heap := s.heap.update p (Obj.mapSeq (·.setIfInBounds j u)) } :=
    I.lstUpd hp ho (zbl its n j u) (r.set rv j) (by rw [List.length_set]; exact hz) s.toks
  by_cases h0 : 0 ≤ k
  · have hk : k.toNat = j := by
      rw [seqIndex_of h0 h4] at h1
      exact Option.some.inj h1
    exact PySem.W.ki_setAt ho h0 (by omega) (by rw [List.size_toArray, ← hl]; exact h4) (by rw [hk]; exact ⟨_, I', q⟩)
  · have hk : (k + (its.toArray.size : Int)).toNat = j := by
      rw [seqIndex_neg (by omega) h3] at h1
      rw [List.size_toArray, ← hl]
      exact Option.some.inj h1
    exact PySem.W.ki_setBack ho (by omega) (by rw [List.size_toArray, ← hl]; exact h3) (by omega) (by rw [hk]; exact ⟨_, I', q⟩)
theorem kW (lo hi : Option Int) (n : Nat) : (sliceBounds lo hi none n).1 = ((HT.sIx n 0 lo : Nat) : Int) ∧ (sliceBounds lo hi none n).2.1 = ((HT.sIx n n hi : Nat) : Int) ∧ (sliceBounds lo hi none n).2.2 = 1 := by
  refine ⟨?_, ?_, rfl⟩
  · cases lo with
    | none => simp [sliceBounds, HT.sIx]
    | some i =>
      simp only [sliceBounds, HT.sIx, Option.getD_none, show (1 : Int) > 0 by decide, if_true]
      by_cases h : i < 0
      · simp only [h, if_true] <;> omega
      · simp only [h, if_false] <;> omega
  · cases hi with
    | none => simp [sliceBounds, HT.sIx]
    | some i =>
      simp only [sliceBounds, HT.sIx, Option.getD_none, show (1 : Int) > 0 by decide, if_true]
      by_cases h : i < 0
      · simp only [h, if_true] <;> omega
      · simp only [h, if_false] <;> omega
theorem yY (its : List Value) (lo hi : Option Int) : slicePick its.toArray lo hi none = ((its.drop (HT.sIx its.length 0 lo)).take (HT.sIx its.length its.length hi - HT.sIx its.length 0 lo)).toArray := by
  obtain ⟨h1, h2, h3⟩ := kW lo hi its.toArray.size
  unfold slicePick
  rw [h1, h2, h3]
  simp only [sliceRange_one, pick_run, List.size_toArray] <;> rfl
def rSlL (K : PySem.W.Frag) : V → Option Int → Option Int → Hp → VK → Prop := fun x lo hi H Q => ∃ a xs, x = .ref a ∧ SqL K H a xs ∧ ∀ p, H p = none → Q (.ref p) (upd H p (.lst (cutV xs lo hi)))
theorem zfC : SlR X (rSlL X.K) := by
  intro pins s σ H x v vl vu lo hi sl Q I rx hs pl pu h
  obtain ⟨a, xs, rfl, hx, q⟩ := h
  cases rx
  obtain ⟨its, r, ht, hz⟩ := I.list hx
  have hlen := r.length
  refine ⟨"list", _, slot_list_getitem.lookup, ht.isList.typeIs, ?_⟩
  refine wpAny_getItem_list_slice ht.isList hs pl pu .none (by simp) ?_ (by rw [List.size_toArray] <;> omega)
  rw [yY, ← hlen]
  refine ⟨.ref s.heap.objs.size, _, I.laid (t' := s.toks) (o := .lst (cutV xs lo hi)) (fun b ob q => Heap.get?_push_of_some _ q) (Nat.le_refl _) ?_, rfl, q _ (I.hok.fresh (Nat.le_refl _))⟩
  exact ⟨Nat.le_trans (wV xs lo hi) hz, _, 0, (r.drop (HT.sIx xs.length 0 lo)).take (HT.sIx xs.length xs.length hi - HT.sIx xs.length 0 lo), Heap.get?_push_size _ rfl⟩
theorem qQ : xg X (.builtin "len") (fun xs H Q => ∃ p ys, xs = [.ref p] ∧ (SqL X.K H p ys ∨ SqT X.K H p ys) ∧ Q (.int ys.length) H) := by
  intro pins s σ H xs us Q I r h
  obtain ⟨p, ys, rfl, hq, q⟩ := h
  obtain ⟨u, rfl, rx⟩ := vals1 r
  cases rx
  have hn := wU
  rcases hq with hq | hq
  · obtain ⟨its, r', pl, hz⟩ := I.list hq
    have hlen := r'.length
    exact Calls.call_len_list pl.isList (by simp only [List.size_toArray] <;> omega) ⟨.int ys.length, H, I.tok _, ⟨s.toks + 1, by rw [List.size_toArray, hlen]⟩, q⟩
  · obtain ⟨its, r', pl, hz⟩ := I.tuple hq
    have hlen := r'.length
    exact len_tuple pl (by simp only [List.size_toArray] <;> omega) ⟨.int ys.length, H, I.tok _, ⟨s.toks + 1, by rw [List.size_toArray, hlen]⟩, q⟩
theorem kP : xg X (.builtin "len") (fun xs H Q => ∃ z, xs = [.str z] ∧ z.length ≤ sizeLine ∧ Q (.int z.length) H) := by
  intro pins s σ H xs us Q I r h
  obtain ⟨z, rfl, hz, q⟩ := h
  obtain ⟨u, rfl, t, rfl⟩ := vals1 r
  have hn := wU
  exact len_str (by omega) ⟨.int z.length, H, I.tok _, ⟨_, rfl⟩, q⟩
theorem xg.or {f : Value} {r r' : List V → Hp → VK → Prop} (h : xg X f r) (h' : xg X f r') : xg X f (fun xs H Q => r xs H Q ∨ r' xs H Q) := by
  intro pins s σ H xs us Q I rs q
  rcases q with q | q
  · exact h pins s σ H xs us Q I rs q
  · exact h' pins s σ H xs us Q I rs q
theorem xK : xg X (.type "tuple") (fun xs H Q => ∃ p ys, xs = [.ref p] ∧ ((SqL X.K H p ys ∧ ∀ l, H l = none → Q (.ref l) (upd H l (.tup ys))) ∨ (SqT X.K H p ys ∧ Q (.ref p) H))) := by
  intro pins s σ H xs us Q I r h
  obtain ⟨p, ys, rfl, h⟩ := h
  obtain ⟨u, rfl, rx⟩ := vals1 r
  cases rx
  rcases h with ⟨hq, q⟩ | ⟨hq, q⟩
  · obtain ⟨its, r', pl, hz⟩ := I.list hq
    have hlen := r'.length
    refine call_tuple_list pl.isList (fun h' kp => ?_) (by simp only [List.size_toArray] <;> omega)
    have I1 : Inv X pins σ H { s with heap := h' } := I.kept (t' := s.toks) kp
    have I2 : Inv X pins σ (upd H h'.objs.size (.tup ys)) { s with heap := h'.push { cls := .type "tuple", data := .seq its.toArray } } :=
      I1.laid (t' := s.toks) (fun b o e => Heap.get?_push_of_some _ e) (Nat.le_refl _) (show jb X.prog X.w _ _ _ (.tup ys) from ⟨hz, its, r', IsTup.new _ _⟩)
    exact ⟨.ref h'.objs.size, _, I2, rfl, q _ (I1.hok.fresh (Nat.le_refl _))⟩
  · obtain ⟨its, r', pl, hz⟩ := I.tuple hq
    exact call_tuple_same pl ⟨.ref p, H, I, rfl, q⟩
def tyV (K : PySem.W.Frag) (T : String) (x : V) (H : Hp) : Prop := match x with
  | .str _ => T = "str"
  | .int _ => T = "int"
  | .ref p => (T = "list" ∧ ∃ xs, SqL K H p xs) ∨ (T = "tuple" ∧ ∃ o, K.lookup p = some o ∧ o.cls = .type "tuple" ∧ o.dict = none) ∨
      (T = "dict" ∧ ((∃ kvs, H p = some (.dK kvs)) ∨ ∃ kvs, H p = some (.dT kvs))) ∨ (T = "set" ∧ ∃ S n, H p = some (.set S n))
  | _ => False
theorem zhf {pins : List (Addr × Obj)} {σ : St} {H : Hp} {s : Shared} {T : String} {x : V} {v : Value} (I : Inv X pins σ H s) (r : RelV x v) (ty : tyV X.K T x H) :
    s.TypeIs v T ∧ ∀ a, v = .ref a → ∃ ob, s.heap.get? a = some ob ∧ ob.dict = none := by
  cases x with
  | str z =>
    obtain ⟨t, rfl⟩ := r
    cases (show T = "str" from ty)
    exact ⟨typeIs_str s z t, fun _ e => nomatch e⟩
  | int i =>
    obtain ⟨t, rfl⟩ := r
    cases (show T = "int" from ty)
    exact ⟨typeIs_int s i t, fun _ e => nomatch e⟩
  | ref p =>
    cases r
    rcases ty with ⟨rfl, xs, hq⟩ | ⟨rfl, o, hk, hc, hd⟩ | ⟨rfl, hk⟩ | ⟨rfl, S, n, hk⟩
    · obtain ⟨its, _, pl, _⟩ := I.list hq
      refine ⟨pl.isList.typeIs, fun a e => ?_⟩
      cases e
      obtain ⟨o, n, e, c, hd, _⟩ := pl
      exact ⟨o, e, hd⟩
    · refine ⟨⟨o, I.kIn p o hk, hc⟩, fun a e => ?_⟩
      cases e
      exact ⟨o, I.kIn _ o hk, hd⟩
    · have z : ∃ o, s.heap.get? p = some o ∧ o.ExactDict := by
        rcases hk with ⟨kvs, hk⟩ | ⟨kvs, hk⟩
        · obtain ⟨_, _, _, _, o, _, _, e, ex, _⟩ := I.hok p _ hk
          exact ⟨o, e, ex⟩
        · obtain ⟨_, _, _, _, o, _, _, e, ex, _⟩ := I.hok p _ hk
          exact ⟨o, e, ex⟩
      obtain ⟨o, e, ex⟩ := z
      refine ⟨⟨o, e, ex.1⟩, fun a e2 => ?_⟩
      cases e2
      exact ⟨o, e, ex.2.1⟩
    · obtain ⟨o, _, _, _, e, ex, _⟩ := I.hok p _ hk
      refine ⟨⟨o, e, ex.1⟩, fun a e2 => ?_⟩
      cases e2
      exact ⟨o, e, ex.2.1⟩
  | _ => exact False.elim ty
def tBM (K : PySem.W.Frag) (T : String) (r : V → List V → Hp → VK → Prop) (to : TE) (t : TA) : TE := fun σ H Q => to σ H fun x H1 => tyV K T x H1 ∧ t σ H1 fun xs H2 => r x xs H2 Q
variable {o e : Expr} {es : List Expr} {to : TE} {t : TA} {name : Str} {apos cpos : Pos} {T id : String} {r : V → List V → Hp → VK → Prop}
theorem zhy (pa : PlainAttrs T) (slot : Slot T name id) (hty : typeOf (.builtin id) = pure (.type "method_descriptor")) (hm : MtR X id r) (ho : PE X o to) (ha : PA X (e :: es) t)
    (hbase : attributeBase o name X.env (eval o X.env) = eval o X.env := by rfl)
    (hfew : ((backTo cpos (starEach (e :: es) X.env)).all (fun x => !x.1) && (backToKw cpos (keywordEach [] X.env)).all (fun x => x.1.isSome)
      && decide ((e :: es).length + ([] : List Keyword).length + (if ([] : List Keyword).isEmpty then 0 else 1) < 30)) = true := by rfl)
    (hline : (apos.endLine == cpos.line) = true := by rfl) (hs : starEach (e :: es) X.env = (false, eval e X.env) :: starEach es X.env := by rfl) (hplain : (backTo cpos (starEach es X.env)).any (·.1) = false := by rfl) :
    PE X (.Call (.Attribute o name apos) (e :: es) [] cpos) (tBM X.K T r to t) := by
  intro pins s σ H Q I h
  refine wpAny_Call_method_late hbase hfew hline rfl (thn (ho pins s σ H _ I h) fun v s1 ⟨x, H1, I1, r1, ty, q1⟩ => ?_)
  obtain ⟨h1, h2⟩ := zhf I1 r1 ty
  refine ⟨T, id, pa, slot, hty, h1, h2, ?_⟩
  have hA := ha cpos pins s1 σ H1 _ I1 q1
  rw [hs] at hA ⊢
  refine Calls.callWith_builtin (by show (false || (backTo cpos (starEach es X.env)).any (·.1)) = false; rw [hplain] <;> rfl) (Calls.evalArgs_plain ?_)
  exact thn hA fun us s2 ⟨vs, H2, I2, r2, q2⟩ => hm pins s2 σ H2 x vs v us Q I2 r1 r2 q2
end
end L2
namespace L2
open PySem PySem.Spec PyProof.Rows
def MtM (X : Cx) (id : String) (r : V → List V → Hp → VK → Prop) : Prop :=
  ∀ (pins : List (Addr × Obj)) (s : Shared) (σ : St) (H : Hp) (x : V) (xs : List V) (v : Value) (us : List Value) (Q : VK), Inv X pins σ H s → RelV x v → Vals xs us → r x xs H Q →
    wpAny (model X.prog X.w) X.A (call (.builtin id) (v :: us)) (EP X pins σ Q) X.xe s
theorem Vals.one : ∀ {x : V} {us : List Value}, Vals [x] us → ∃ u, us = [u] ∧ RelV x u
  | _, _, .cons r .nil => ⟨_, rfl, r⟩
theorem Vals.zero : ∀ {us : List Value}, Vals [] us → us = []
  | _, .nil => rfl
theorem Vals.dropLast {xs : List V} {us : List Value} (h : Vals xs us) : Vals xs.dropLast us.dropLast := by
  induction h with
  | nil => exact .nil
  | cons r t ih =>
    cases t with
    | nil => exact .nil
    | cons q t' => exact .cons r ih
theorem Vals.rep {xs : List V} {us : List Value} (h : Vals xs us) : ∀ k : Nat, Vals (List.replicate k xs).flatten (List.replicate k us).flatten
  | 0 => .nil
  | k + 1 => by
    rw [List.replicate_succ, List.replicate_succ, List.flatten_cons, List.flatten_cons]
    exact Vals.append h (Vals.rep h k)
theorem foldl_rep (its : List Value) : ∀ (k : Nat) (acc : List Value),
    List.foldl (fun x1 x2 => x1 ++ x2) acc.toArray (List.replicate k its.toArray) = (acc ++ (List.replicate k its).flatten).toArray
  | 0, acc => by simp
  | k + 1, acc => by
    have e : acc.toArray ++ its.toArray = (acc ++ its).toArray := by simp
    have e2 : (acc ++ its) ++ (List.replicate k its).flatten = acc ++ (List.replicate (k + 1) its).flatten := by
      rw [List.replicate_succ, List.flatten_cons, List.append_assoc]
    rw [← e2, ← foldl_rep its k (acc ++ its), ← e, List.replicate_succ, List.foldl_cons]
section
variable {X : Cx} {pins : List (Addr × Obj)} {σ : St} {H : Hp} {s : Shared} {l b : Addr} {xs ys zs : List V}
theorem Inv.lset {its its' : List Value} {n : Nat} {f : Array Value → Array Value} {t' : Nat} (I : Inv X pins σ H s) (hH : H l = some (.lst xs))
    (e : s.heap.get? l = some { cls := .type "list", data := .seq its.toArray n }) (hf : f its.toArray = its'.toArray) (hv : Vals ys its') (hz : ys.length ≤ sizeLine) :
    Inv X pins σ (upd H l (.lst ys)) { s with heap := s.heap.update l (Obj.mapSeq f), toks := t' } := by
  have q := PySem.IsL.update e f
  rw [hf] at q
  refine I.write (x := l) (e := l) (by rw [hH]; exact trivial) (.inl rfl) (fun b' u hb hu => (Heap.get?_update_other s.heap (Obj.mapSeq f) (Ne.symm hb)).trans hu) ⟨_, q⟩ ?_
  exact ⟨hz, its', _, hv, q⟩
theorem Inv.fresh (I : Inv X pins σ H s) : H s.heap.objs.size = none := I.hok.fresh (Nat.le_refl _)
theorem Inv.lstM (I : Inv X pins σ H s) (hH : H l = some (.lst xs)) : xs.length ≤ sizeLine ∧ ∃ (its : List Value) (n : Nat), Vals xs its ∧ xs.length = its.length ∧ s.heap.get? l = some { cls := .type "list", data := .seq its.toArray n } := by
  obtain ⟨z, its, n, r, e⟩ := I.hok l _ hH
  exact ⟨z, its, n, r, r.length, e⟩
theorem zd6 {n : Nat} (h : n ≤ sizeLine) : Builtin.List.listTooLong n = false := by
  unfold Builtin.List.listTooLong
  exact decide_eq_false (by omega)
end
section
variable {X : Cx}
def zfq : V → List V → Hp → VK → Prop := fun x vs H Q => ∃ l xs y, x = .ref l ∧ vs = [y] ∧ H l = some (.lst xs) ∧ xs.length < sizeLine ∧ Q .non (upd H l (.lst (xs ++ [y])))
theorem kz : MtM X "list.append" zfq := by
  intro pins s σ H x vs v us Q I rx rv h
  obtain ⟨l, xs, y, rfl, rfl, hH, hz, q⟩ := h
  cases rx
  obtain ⟨u, rfl, ru⟩ := rv.one
  obtain ⟨z, its, n, r, hl, e⟩ := I.lstM hH
  refine call_meets F.slot_list_append ⟨_, e, rfl⟩ F.entry_list_append (F.args_list_append_2 _ _) (PySem.list_append l its.toArray n u (by rw [List.size_toArray]; omega)) ⟨e, ?_⟩
  refine ⟨.non, _, I.lset (its' := its ++ [u]) hH e (by simp) (r.append (.cons ru .nil)) ?_, rfl, q⟩
  rw [List.length_append, List.length_singleton]
  omega
theorem len_rep {α : Type} (xs : List α) (k : Nat) : (List.replicate k xs).flatten.length = k * xs.length := by
  induction k with
  | zero => simp
  | succ k ih => rw [List.replicate_succ, List.flatten_cons, List.length_append, ih, Nat.succ_mul, Nat.add_comm]
end
section
variable {prog : Program} {w : World} {A : Around} {E : Value → Shared → Prop} {s : Shared}
end
section
variable {X : Cx}
end
end L2
namespace L2
open PySem PySem.Spec PyProof.Rows
section
variable {κ : Type} [DecidableEq κ]
def valV (kvs : List (κ × V)) (k : κ) : Option V := (kvs.find? fun kv => decide (kv.1 = k)).map (·.2)
def putK (kvs : List (κ × V)) (k : κ) (v : V) : List (κ × V) :=
  if (kvs.any fun kv => decide (kv.1 = k)) = true then kvs.map (fun kv => if kv.1 = k then (kv.1, v) else kv) else kvs ++ [(k, v)]
def zg7 (kvs : List (κ × V)) (k : κ) : List (κ × V) := kvs.filter fun kv => decide (kv.1 ≠ k)
theorem wz {p : κ × V} {r : List (κ × V)} {k : κ} (e : p.1 = k) : valV (p :: r) k = some p.2 := by simp [valV, List.find?_cons, e]
theorem wu {p : κ × V} {r : List (κ × V)} {k : κ} (e : ¬ p.1 = k) : valV (p :: r) k = valV r k := by simp [valV, List.find?_cons, e]
theorem za8 (k : κ) : ∀ kvs : List (κ × V), (kvs.any fun kv => decide (kv.1 = k)) = (valV kvs k).isSome
  | [] => rfl
  | p :: r => by
    rw [List.any_cons]
    by_cases e : p.1 = k
    · simp only [wz e, decide_eq_true e, Bool.true_or, Option.isSome_some]
    · rw [wu e, decide_eq_false e, Bool.false_or]; exact za8 k r
theorem yo (kvs : List (κ × V)) (k : κ) (v : V) : (putK kvs k v).length ≤ kvs.length + 1 := by
  unfold putK
  split
  · rw [List.length_map]; omega
  · rw [List.length_append, List.length_cons, List.length_nil]; omega
theorem RelO.isSome_eq {o : Option V} {u : Option Value} (r : RelO o u) : o.isSome = u.isSome := by
  cases o with
  | none => cases u with
    | none => rfl
    | some _ => exact (show False from r).elim
  | some _ => cases u with
    | none => exact (show False from r).elim
    | some _ => rfl
theorem RelO.getD {o : Option V} {u : Option Value} {d : V} {d' : Value} (r : RelO o u) (rd : RelV d d') : RelV (o.getD d) (u.getD d') := by
  cases o with
  | none => cases u with
    | none => exact rd
    | some _ => exact (show False from r).elim
  | some _ => cases u with
    | none => exact (show False from r).elim
    | some _ => exact r
theorem KV.val {kvs : List (κ × V)} {vs : List (κ × Value)} (r : KV kvs vs) (k : κ) : RelO (valV kvs k) (valueAt vs k) := by
  unfold KV at r
  induction r with
  | nil => exact True.intro
  | @cons p q ps qs h t ih =>
    obtain ⟨h1, h2⟩ := h
    by_cases e : p.1 = k
    · have e' : q.1 = k := h1.symm.trans e
      have b : valueAt (q :: qs) k = some q.2 := by simp [valueAt, List.find?_cons, e']
      rw [wz e, b]; exact h2
    · have e' : ¬ q.1 = k := fun z => e (h1.trans z)
      have b : valueAt (q :: qs) k = valueAt qs k := by simp [valueAt, List.find?_cons, e']
      rw [wu e, b]; exact ih
theorem KV.any {kvs : List (κ × V)} {vs : List (κ × Value)} (r : KV kvs vs) (k : κ) : (kvs.any fun kv => decide (kv.1 = k)) = vs.any fun kv => decide (kv.1 = k) := by
  unfold KV at r
  induction r with
  | nil => rfl
  | cons h t ih => rw [List.any_cons, List.any_cons, ih, h.1]
theorem KV.repl {kvs : List (κ × V)} {vs : List (κ × Value)} (r : KV kvs vs) (k : κ) {y : V} {u : Value} (ry : RelV y u) :
    KV (kvs.map fun kv => if kv.1 = k then (kv.1, y) else kv) (vs.map fun kv => if kv.1 = k then (kv.1, u) else kv) := by
  unfold KV at r ⊢
  induction r with
  | nil => exact .nil
  | @cons p q ps qs h t ih =>
    rw [List.map_cons, List.map_cons]
    refine .cons ?_ ih
    obtain ⟨h1, h2⟩ := h
    by_cases e : p.1 = k
    · rw [if_pos e, if_pos (h1.symm.trans e)]; exact ⟨h1, ry⟩
    · rw [if_neg e, if_neg (fun z => e (h1.trans z))]; exact ⟨h1, h2⟩
theorem KV.put {kvs : List (κ × V)} {vs : List (κ × Value)} (r : KV kvs vs) (k : κ) {y : V} {u : Value} (ry : RelV y u) : KV (putK kvs k y) (stored vs k u) := by
  unfold putK stored
  rw [r.any k]
  by_cases e : (vs.any fun kv => decide (kv.1 = k)) = true
  · rw [if_pos e, if_pos e]; exact r.repl k ry
  · rw [if_neg e, if_neg e]; exact Paired.snoc r ⟨rfl, ry⟩
theorem KV.drop {kvs : List (κ × V)} {vs : List (κ × Value)} (r : KV kvs vs) (k : κ) : KV (zg7 kvs k) (without vs k) := by
  unfold KV at r ⊢
  unfold zg7 without
  induction r with
  | nil => exact .nil
  | @cons p q ps qs h t ih =>
    obtain ⟨h1, h2⟩ := h
    rw [List.filter_cons, List.filter_cons]
    by_cases e : p.1 = k
    · have a : ¬ decide (p.1 ≠ k) = true := by simp [e]
      have b : ¬ decide (q.1 ≠ k) = true := by simp [h1.symm.trans e]
      rw [if_neg a, if_neg b]; exact ih
    · have e' : ¬ q.1 = k := fun z => e (h1.trans z)
      have a : decide (p.1 ≠ k) = true := by simp [e]
      have b : decide (q.1 ≠ k) = true := by simp [e']
      rw [if_pos a, if_pos b]; exact .cons ⟨h1, h2⟩ ih
theorem KV.keys {kvs : List (κ × V)} {vs : List (κ × Value)} (r : KV kvs vs) : kvs.map (·.1) = vs.map (·.1) := by
  unfold KV at r
  induction r with
  | nil => rfl
  | cons h t ih => rw [List.map_cons, List.map_cons, ih, h.1]
theorem KV.length {kvs : List (κ × V)} {vs : List (κ × Value)} (r : KV kvs vs) : kvs.length = vs.length := Paired.length r
end
theorem zfD {P : Program} {w : World} {k : Key} {u : Value} (r : RelV (kV k) u) : (jh P w).is k u = true := by
  cases k with
  | inl i => obtain ⟨t, e⟩ := (show ∃ t, u = Value.int i t from r); subst e; exact zao P w i t
  | inr x => obtain ⟨t, e⟩ := (show ∃ t, u = Value.str x t from r); subst e; exact zae P w x t
theorem ke {P : Program} {w : World} : ∀ {ks : List Key} {us : List Value}, Vals (ks.map kV) us → ItemsAre (jh P w) ks us
  | [], _, r => by rw [List.map_nil] at r; cases r; exact .nil
  | k :: ks, _, r => by
    rw [List.map_cons] at r
    cases r with
    | cons h t => exact .cons (zfD h) (ke t)
abbrev KT (H : Hp) : List (List Key × V) → List (List Key × Addr × Value) → Prop := Paired fun p q => p.1 = q.1 ∧ H q.2.1 = some (.tup (p.1.map kV)) ∧ RelV p.2 q.2.2
theorem KT.val {H : Hp} {kvs : List (List Key × V)} {xs : List (List Key × Addr × Value)} (r : KT H kvs xs) (k : List Key) : RelO (valV kvs k) ((atKey xs k).map (·.2)) := by
  induction r with
  | nil => exact True.intro
  | @cons p q ps qs h t ih =>
    obtain ⟨h1, _, h2⟩ := h
    by_cases e : p.1 = k
    · have e' : q.1 = k := h1.symm.trans e
      have b : atKey (q :: qs) k = some q.2 := by simp [atKey, List.find?_cons, e']
      rw [wz e, b]; exact h2
    · have e' : ¬ q.1 = k := fun z => e (h1.trans z)
      have b : atKey (q :: qs) k = atKey qs k := by simp [atKey, List.find?_cons, e']
      rw [wu e, b]; exact ih
theorem KT.repl {H : Hp} {kvs : List (List Key × V)} {xs : List (List Key × Addr × Value)} (r : KT H kvs xs) (k : List Key) {y : V} {u : Value} (ry : RelV y u) :
    KT H (kvs.map fun kv => if kv.1 = k then (kv.1, y) else kv) (xs.map (putAt k u)) := by
  induction r with
  | nil => exact .nil
  | @cons p q ps qs h t ih =>
    rw [List.map_cons, List.map_cons]
    refine .cons ?_ ih
    obtain ⟨h1, h2, h3⟩ := h
    unfold putAt
    by_cases e : p.1 = k
    · rw [if_pos e, if_pos (h1.symm.trans e)]; exact ⟨h1, h2, ry⟩
    · rw [if_neg e, if_neg (fun z => e (h1.trans z))]; exact ⟨h1, h2, h3⟩
theorem KT.put {H : Hp} {kvs : List (List Key × V)} {xs : List (List Key × Addr × Value)} (r : KT H kvs xs) (k : List Key) {b : Addr} {y : V} {u : Value} (hb : H b = some (.tup (k.map kV))) (ry : RelV y u) :
    KT H (putK kvs k y) (storedH xs k b u) := by
  have e : (kvs.any fun kv => decide (kv.1 = k)) = (atKey xs k).isSome := by
    rw [za8, (r.val k).isSome_eq, Option.isSome_map]
  unfold putK storedH
  rw [e]
  by_cases q : (atKey xs k).isSome = true
  · rw [if_pos q, if_pos q]; exact r.repl k ry
  · rw [if_neg q, if_neg q]; exact Paired.snoc r ⟨rfl, hb, ry⟩
theorem KT.keeps {H H' : Hp} {kvs : List (List Key × V)} {xs : List (List Key × Addr × Value)} (r : KT H kvs xs) (ht : ∀ b ys, H b = some (.tup ys) → H' b = some (.tup ys)) : KT H' kvs xs :=
  Paired.mapP r fun _ _ z => ⟨z.1, ht _ _ z.2.1, z.2.2⟩
section
variable {P : Program} {w : World} {H : Hp} {h : Heap} {a : Addr}
theorem zgT {u : HO} (ok : HOk P w H h) (e : Rd H a u) : jb P w H h a u := e.ok ok
theorem zge {kvs : List (Key × V)} (ok : HOk P w H h) (e : Rd H a (.dK kvs)) : kvs.length ≤ sizeLine ∧ (a == sysModules) = false ∧ ∃ vs, KV kvs vs ∧ h.DictOf (jh P w) a vs :=
  show jb P w H h a (.dK kvs) from zgT ok e
theorem zhJ {kvs : List (Key × V)} (ok : HOk P w H h) (e : H a = some (.dK kvs)) : kvs.length ≤ sizeLine ∧ (a == sysModules) = false ∧ ∃ vs, KV kvs vs ∧ h.DictOf (jh P w) a vs := zge ok (.inl e)
theorem zdc {ks : List Key} (ok : HOk P w H h) (e : H a = some (.tup (ks.map kV))) : (tupleKind (jh P w)).is h ks a := by
  obtain ⟨_, its, r, o, h1, h2, n, h3⟩ := (show jb P w H h a (.tup (ks.map kV)) from ok a _ e)
  exact ⟨o, its.toArray, n, h1, h2, h3, by simpa using ke r⟩
theorem zfk {kvs : List (List Key × V)} (ok : HOk P w H h) (e : Rd H a (.dT kvs)) : kvs.length ≤ sizeLine ∧ (a == sysModules) = false ∧
    ∃ xs, KT H kvs xs ∧ h.DictOfH (tupleKind (jh P w)) a xs := by
  obtain ⟨z, y, xs, r, o, es, ep, h1, h2, h3, h4, h5⟩ := (show jb P w H h a (.dT kvs) from zgT ok e)
  refine ⟨z, y, xs, r, o, es, ep, h1, h2, h3, h4, fun x hx => ?_, h5⟩
  have all : ∀ {l : List (List Key × V)} {m : List (List Key × Addr × Value)}, KT H l m → ∀ x ∈ m, (tupleKind (jh P w)).is h x.1 x.2.1 := by
    intro l m q
    induction q with
    | nil => intro x hx; exact nomatch hx
    | @cons p q ps qs hq t ih =>
      intro x hx
      rcases List.mem_cons.mp hx with e | hx
      · subst e
        exact zdc ok (by rw [← hq.1]; exact hq.2.1)
      · exact ih x hx
  exact all r x hx
theorem zhH {kvs : List (List Key × V)} (ok : HOk P w H h) (e : H a = some (.dT kvs)) : kvs.length ≤ sizeLine ∧ (a == sysModules) = false ∧
    ∃ xs, KT H kvs xs ∧ h.DictOfH (tupleKind (jh P w)) a xs := zfk ok (.inl e)
end
def DGet (H : Hp) (a : Addr) (y : V) (r : Option V) : Prop :=
  (∃ kvs k, Rd H a (.dK kvs) ∧ y = kV k ∧ r = valV kvs k) ∨ ∃ kvs k b, Rd H a (.dT kvs) ∧ y = .ref b ∧ H b = some (.tup (k.map kV)) ∧ r = valV kvs k
def DPut (H : Hp) (a : Addr) (y v : V) (H' : Hp) : Prop :=
  (∃ kvs k, H a = some (.dK kvs) ∧ y = kV k ∧ kvs.length < sizeLine ∧ H' = upd H a (.dK (putK kvs k v))) ∨
  ∃ kvs k b, H a = some (.dT kvs) ∧ y = .ref b ∧ H b = some (.tup (k.map kV)) ∧ kvs.length < sizeLine ∧ H' = upd H a (.dT (putK kvs k v))
theorem DGet.k {H : Hp} {a : Addr} {kvs : List (Key × V)} {k : Key} (e : H a = some (.dK kvs)) : DGet H a (kV k) (valV kvs k) := .inl ⟨kvs, k, .inl e, rfl, rfl⟩
theorem DGet.t {H : Hp} {a b : Addr} {kvs : List (List Key × V)} {k : List Key} (e : H a = some (.dT kvs)) (eb : H b = some (.tup (k.map kV))) : DGet H a (.ref b) (valV kvs k) := .inr ⟨kvs, k, b, .inl e, rfl, eb, rfl⟩
theorem DPut.k {H : Hp} {a : Addr} {kvs : List (Key × V)} {k : Key} {v : V} (e : H a = some (.dK kvs)) (hl : kvs.length < sizeLine) : DPut H a (kV k) v (upd H a (.dK (putK kvs k v))) := .inl ⟨kvs, k, e, rfl, hl, rfl⟩
theorem DPut.t {H : Hp} {a b : Addr} {kvs : List (List Key × V)} {k : List Key} {v : V} (e : H a = some (.dT kvs)) (eb : H b = some (.tup (k.map kV))) (hl : kvs.length < sizeLine) :
    DPut H a (.ref b) v (upd H a (.dT (putK kvs k v))) := .inr ⟨kvs, k, b, e, rfl, eb, hl, rfl⟩
section
variable {X : Cx} {pins : List (Addr × Obj)} {σ : St} {H : Hp} {s : Shared} {a : Addr} {y v : V} {u r : Value} {o : Option V} {A : Around} {E : Value → Shared → Prop}
theorem Inv.big (I : Inv X pins σ H s) : sysModules < s.heap.objs.size := by
  have h : mainGlobals < s.heap.objs.size := (I.mod.glob.keeps I.bk).lt
  exact Nat.lt_trans (by decide) h
theorem zdb {Q : Value → Shared → Prop} (hu : A.units + 1 < cLine) (I : Inv X pins σ H s) (g : DGet H a y (some v)) (ry : RelV y u) (h : ∀ w' s', Inv X pins σ H s' → RelV v w' → Q w' s') :
    wpAny (model X.prog X.w) A (getItem (.ref a) u) Q E s := by
  rcases g with ⟨kvs, k, e, ey, l⟩ | ⟨kvs, k, b, e, ey, eb, l⟩
  · subst ey
    obtain ⟨z, hd, vs, rel, dd⟩ := zge I.hok e
    obtain ⟨w', hw, rw'⟩ := RelO.some_of (v := v) (o := valueAt vs k) (by rw [l]; exact rel.val k)
    exact wpAny_getItem_of (zfD ry) dd.mapOf hw (h w' _ (I.tok _) rw')
  · subst ey
    cases (show u = Value.ref b from ry)
    obtain ⟨z, hd, xs, rel, dd⟩ := zfk I.hok e
    obtain ⟨w', hw, rw'⟩ := RelO.some_of (v := v) (o := (atKey xs k).map (·.2)) (by rw [l]; exact rel.val k)
    obtain ⟨p, hp, hp2⟩ := Option.map_eq_some_iff.mp hw
    refine wpAny_getItem_heap (tupleKind_room_in1 hu) (zdc I.hok eb) dd hp ?_
    rw [hp2]
    exact h w' _ (I.tok _) rw'
theorem zdf {h' : Heap} {t' : Nat} {ob : HO} (I : Inv X pins σ H s) (mu : Mut (H a)) (hs : Heap.SameBut a s.heap h') (he : ∃ q, h'.get? a = some q) (new : jb X.prog X.w (upd H a ob) h' a ob) :
    Inv X pins σ (upd H a ob) { s with heap := h', toks := t' } :=
  I.write (x := a) (e := a) mu (.inl rfl) (fun b q hb z => (hs.2 b hb).trans z) he new
theorem zgs {P : Program} {w : World} {H' : Hp} {h' : Heap} {kvs : List (Key × V)} {vs : List (Key × Value)} (z : kvs.length ≤ sizeLine) (hd : (a == sysModules) = false) (rel : KV kvs vs) (dd : h'.DictOf (jh P w) a vs) :
    jb P w H' h' a (.dK kvs) := ⟨z, hd, vs, rel, dd⟩
theorem zdq {H' : Hp} {Q : Unit → Shared → Prop} (hu : A.units + 1 < cLine) (I : Inv X pins σ H s) (g : DPut H a y v H') (ry : RelV y u) (rv : RelV v r) (h : ∀ s', Inv X pins σ H' s' → Q () s') :
    wpAny (model X.prog X.w) A (setItem (.ref a) u r) Q E s := by
  rcases g with ⟨kvs, k, e, ey, l, eH⟩ | ⟨kvs, k, b, e, ey, eb, l, eH⟩
  · subst ey eH
    obtain ⟨z, hd, vs, rel, dd⟩ := zhJ I.hok e
    have hz : vs.length ≤ sizeLine := by rw [← rel.length]; exact z
    have hl : (putK kvs k v).length ≤ sizeLine := by have := yo kvs k v; omega
    refine wpAny_setItem_pairs (hsz := hz) (zfD ry) dd fun h' dd' hs => h _ ?_
    have he : ∃ q, h'.get? a = some q := let ⟨q, _, _, hq, _⟩ := dd'; ⟨q, hq⟩
    exact zdf I (by rw [e]; exact True.intro) hs he (zgs hl hd (rel.put k rv) dd')
  · subst ey eH
    cases (show u = Value.ref b from ry)
    obtain ⟨z, hd, xs, rel, dd⟩ := zhH I.hok e
    have hz : xs.length ≤ sizeLine := by rw [← Paired.length rel]; exact z
    have hl : (putK kvs k v).length ≤ sizeLine := by have := yo kvs k v; omega
    refine wpAny_setItem_heap (hsz := hz) (tupleKind_room_in1 hu) (zdc I.hok eb) dd fun h' dd' hs => h _ ?_
    obtain ⟨q, es, ep, hq, h2, h3, h4, _, h5⟩ := dd'
    refine zdf I (by rw [e]; exact True.intro) hs ⟨q, hq⟩ ⟨hl, hd, _, (rel.put k eb rv).keeps fun c ys ec => ?_, q, es, ep, hq, h2, h3, h4, h5⟩
    rw [zp (zgZ ec e (fun z => nomatch z))]
    exact ec
end
section
variable {X : Cx} {pins : List (Addr × Obj)} {σ : St} {H : Hp} {s : Shared} {a : Addr} {kvs : List (Key × V)} {k : Key} {u : Value} {A : Around} {E : Value → Shared → Prop}
end
def NoSl (i : Expr) : Prop := ∀ ov iv, subscripted i false ov iv = operate [ov, iv] (getItem ov iv)
theorem zf8 {prog : Program} {w : World} {A : Around} {E : Value → Shared → Prop} {s : Shared} {env : Env} {value slice : Expr} {pos : Pos} {T id : String} {Q : Value → Shared → Prop}
    (hl : typeLookup (.type T) "__getitem__" = pure (some (.builtin id))) (hs : NoSl slice)
    (h : wpAny (model prog w) A (eval value env) (fun o s₁ => wpAny (model prog w) A (eval slice env) (fun i s₂ => s₂.TypeIs o T ∧ wpAny (model prog w) A (getItem o i) Q E s₂) E s₁) E s) :
    wpAny (model prog w) A (eval (.Subscript value slice pos) env) Q E s := by
  refine Subscript_ (wpAny_mono h (fun o s₁ h₁ => wpAny_mono h₁ (fun i s₂ h₂ => ?_) fun _ _ x => x) fun _ _ x => x)
  obtain ⟨hT, h₂⟩ := h₂
  unfold subscriptTail
  refine wpAny_bind ?_
  rw [getitemInPython_of_ne hT.not_modules]
  refine wpAny_bind (wpAny_specialOf hT hl ?_)
  have fin : wpAny (model prog w) A (subscripted slice false o i) (fun r s₃ => wpAny (model prog w) A (letTemporaryGo value o r >>= fun _ => pure r) Q E s₃) E s₂ := by
    rw [hs o i]
    exact wpAny_operating (wpAny_mono h₂ (fun r s₃ h₃ => wpAny_bind (wpAny_letTemporaryGo (wpAny_pure h₃))) fun _ _ x => x)
  first
    | exact wpAny_pure (wpAny_bind fin)
    | exact wpAny_bind (wpAny_pure (wpAny_bind fin))
    | exact wpAny_bind fin
theorem zaj {X : Cx} {pins : List (Addr × Obj)} {σ : St} {H : Hp} {s : Shared} {a : Addr} {y : V} {o : Option V} (I : Inv X pins σ H s) (g : DGet H a y o) : s.TypeIs (.ref a) "dict" := by
  rcases g with ⟨kvs, k, e, _, _⟩ | ⟨kvs, k, b, e, _, _, _⟩
  · obtain ⟨_, _, vs, _, dd⟩ := zge I.hok e
    exact dd.typeIs
  · obtain ⟨_, _, xs, _, dd⟩ := zfk I.hok e
    exact dd.typeIs
def zhI (td ty : TE) : TE := fun σ H Q => td σ H fun x H1 => ty σ H1 fun y H2 => ∃ a v, x = .ref a ∧ DGet H2 a y (some v) ∧ Q v H2
def zhl (td ty tv : TE) : TS := fun D σ H => tv σ H fun v H1 => td σ H1 fun x H2 => ty σ H2 fun y H3 => ∃ a H4, x = .ref a ∧ DPut H3 a y v H4 ∧ D.nx σ H4
section
variable {X : Cx} {o i e value : Expr} {pos pos' tpos : Pos} {td ty tv : TE}
theorem zfA (hu : X.A.units + 1 < cLine) (ho : PE X o td) (hi : PE X i ty) (hs : NoSl i) : PE X (.Subscript o i pos) (zhI td ty) := by
  intro pins s σ H Q I h
  refine zf8 PySem.F.slot_dict_getitem.lookup hs (thn (ho pins s σ H _ I h) fun u s1 ⟨x, H1, I1, rx, q1⟩ => thn (hi pins s1 σ H1 _ I1 q1) fun iv s2 ⟨y, H2, I2, ry, a, v, ex, g, q2⟩ => ?_)
  subst ex
  obtain rfl : u = Value.ref a := rx
  exact ⟨zaj I2 g, zdb hu I2 g ry fun w' s3 I3 rw' => ⟨v, H2, I3, rw', q2⟩⟩
theorem zfh (hu : X.A.units + 1 < cLine) (ho : PE X o td) (hi : PE X i ty) (hv : PE X value tv) (hs : swapsWith value (some (.Subscript o i pos')) pos.line X.env = pure false) :
    PS X (.Assign [.Subscript o i pos'] value pos) (zhl td ty tv) := by
  intro pins s σ H D I h
  refine wpAny_Assign_Subscript (thn (hv pins s σ H _ I h) fun r s1 ⟨v, H1, I1, rv, q1⟩ => thn (ho pins s1 σ H1 _ I1 q1) fun u s2 ⟨x, H2, I2, rx, q2⟩ => thn (hi pins s2 σ H2 _ I2 q2) fun iv s3 ⟨y, H3, I3, ry, a, H4, ex, g, q3⟩ => ?_) hs
  subst ex
  obtain rfl : u = Value.ref a := rx
  exact zdq hu I3 g ry rv fun s4 I4 => ⟨σ, H4, I4, q3⟩
end
theorem zdM {P : Program} {w : World} {H : Hp} (h : Heap) (hb : sysModules < h.objs.size) : jb P w H (h.push { cls := .type "dict", data := .dict #[] }) h.objs.size (.dT []) :=
  ⟨Nat.zero_le _, beq_eq_false_iff_ne.mpr (Ne.symm (Nat.ne_of_lt hb)), [], .nil, _, #[], 0, Heap.get?_push_size _ rfl, ⟨rfl, rfl, rfl⟩, rfl, rfl, List.nodup_nil⟩
def zgt : TE := fun _ H Q => ∀ p, H p = none → Q (.ref p) (upd H p (.dT []))
section
variable {X : Cx} {pos : Pos}
theorem zdN : PE X (.Dict [] [] pos) zgt := fun pins s σ H Q I h =>
  wpAny_Dict_empty ⟨.ref s.heap.objs.size, _, I.laid (a := s.heap.objs.size) (o := .dT []) (t' := s.toks) (fun _ _ q => Heap.get?_push_of_some _ q) (Nat.le_refl _) (zdM s.heap I.big), rfl, h _ (I.hok.fresh (Nat.le_refl _))⟩
end
structure M1 (X : Cx) (o : Expr) (m : Str) (apos : Pos) (e : Expr) (cpos : Pos) : Prop where
  base : attributeBase o m X.env (eval o X.env) = eval o X.env
  few : ((backTo cpos (starEach [e] X.env)).all (fun x => !x.1) && (backToKw cpos (keywordEach [] X.env)).all (fun x => x.1.isSome)
    && decide (([e] : List Expr).length + ([] : List Keyword).length + (if ([] : List Keyword).isEmpty then 0 else 1) < 30)) = true
  line : (apos.endLine == cpos.line) = true
  trees : backTo cpos (starEach [e] X.env) = [(false, eval e X.env)]
structure M2 (X : Cx) (o : Expr) (m : Str) (apos : Pos) (e f : Expr) (cpos : Pos) : Prop where
  base : attributeBase o m X.env (eval o X.env) = eval o X.env
  few : ((backTo cpos (starEach [e, f] X.env)).all (fun x => !x.1) && (backToKw cpos (keywordEach [] X.env)).all (fun x => x.1.isSome)
    && decide (([e, f] : List Expr).length + ([] : List Keyword).length + (if ([] : List Keyword).isEmpty then 0 else 1) < 30)) = true
  line : (apos.endLine == cpos.line) = true
  trees : backTo cpos (starEach [e, f] X.env) = [(false, eval e X.env), (false, eval f X.env)]
section
variable {X : Cx} {pins : List (Addr × Obj)} {σ : St} {H : Hp} {s : Shared} {a : Addr} {y d : V} {u r : Value} {o : Option V} {A : Around} {E : Value → Shared → Prop}
end
section
variable {X : Cx} {o e f : Expr} {apos cpos : Pos} {td ty tx : TE}
end
section
variable {X : Cx} {pins : List (Addr × Obj)} {σ : St} {H : Hp} {s : Shared} {a : Addr} {kvs : List (Key × V)} {A : Around} {E : Value → Shared → Prop}
end
section
variable {X : Cx} {pins : List (Addr × Obj)} {σ : St} {H : Hp} {s : Shared} {a : Addr} {y : V} {u : Value} {A : Around} {E : Value → Shared → Prop}
end
end L2
namespace Att
open PySem PySem.W PySem.Calls PyProof.Rows
theorem ye {P : Params} {h : Heap} : ∀ (ns : List Int) (vs : List Value), WellAll P h vs (ns.map WData.int) → IntsAre vs ns := by
  intro ns
  induction ns with
  | nil =>
    intro vs w
    rw [List.map_nil] at w
    cases w
    exact .nil
  | cons n ns ih =>
    intro vs w
    rw [List.map_cons] at w
    cases w with
    | cons a b =>
      cases a
      exact .cons _ _ (ih _ b)
theorem zbP {l : OpenLaw} {n : Nat} (hn : l.most = some n) {P : Params} {h : Heap} {args : List WData} {vals : List Value}
    (hpre : l.row.toRowW.claim.pre args = true) (hwl : WellAll P h vals args) :
    ∃ a vs ns, vals = [Value.ref a] ∧ args = [WData.list (ns.map WData.int)] ∧ h.get? a = some { cls := .type "list", data := .seq vs.toArray } ∧ IntsAre vs ns ∧ ns.length ≤ n := by
  have hsh : WShape.hasAll [] args [.list .int] = true := (pre_splitW hpre).1
  have hc : l.pre.holds [] { args := args } = true := (pre_splitW hpre).2
  obtain ⟨d, r, rfl, h1, h2⟩ := hasAllW_cons hsh
  obtain rfl := hasAllW_nil h2
  obtain ⟨xs, rfl, h3⟩ := hasW_list h1
  obtain ⟨ns, rfl⟩ := items_int h3
  have hlen : ns.length ≤ n := by
    unfold OpenLaw.pre at hc
    have h4 : (WTm.not (.lt (.lit (.int (n : Int))) (.len (.arg 0)))).holds [] { args := [.list (ns.map .int)] } = true := by
      have h4 := (holds_andW hc).1
      rw [hn] at h4
      exact h4
    have h5 := condW_of h4 (w_not (w_lt w_lit (w_len_list (w_arg rfl))))
    rw [List.length_map] at h5
    refine Nat.le_of_not_lt fun q => ?_
    have q' : (n : Int) < ((ns.length : Nat) : Int) := by omega
    first
      | (rw [decide_eq_true q'] at h5; exact absurd h5 (by decide))
      | (simp at h5; omega)
  cases hwl with
  | cons w1 w2 =>
    cases w2
    cases w1 with
    | list ho hall => exact ⟨_, _, ns, rfl, rfl, ho, ye ns _ hall, hlen⟩
theorem zcn (l : OpenLaw) (args : List WData) : l.row.toRowW.claim.post args (.bool true) args = true :=
  postW_of (r := l.row.toRowW) (X := (true == true))
    (show WShape.has [] (.bool true) .bool = true by first | rfl | decide | simp [WShape.has, WShape.arms, WShape.armsAll])
    (show (WTm.eq .res (.lit (.bool true))).value [] { args := args, res := some (.bool true), after := args } = some (.bool (true == true)) from w_eq_bool (w_res rfl) w_lit) rfl
theorem attach_call {l : OpenLaw} {n : Nat} {q : Program} {loose : List Str} {XP : (Str → Option Value) → Heap → Prop} {YP : World → Heap → Prop} {d : DefRec}
    (hn : l.most = some n) (hdf : d.params.defaults = [])
    (call : ∀ (w : World) (s₀ s₁ : Shared) (mg mb : Str → Option Value) (fa : Addr) (o : Obj) (pm cd doc : Value) (a : Addr) (vs : List Value) (ns : List Int),
      Ground q loose [] XP w s₀ mg mb s₁.heap → YP w s₁.heap →
      s₁.heap.get? fa = some o → o.data = .func (docDef d.name d.params d.body d.scope pm cd doc) → s₁.heap.CodeRec cd d.name → mg d.name = some (.ref fa) →
      s₁.heap.get? a = some { cls := .type "list", data := .seq vs.toArray } → IntsAre vs ns → ns.length ≤ n → s₁.gens = #[] →
      codeAny (model l.prog w) callerA (.call (.ref fa) ⟨[.ref a], []⟩) (fun r s' => r = .ok (.ret (.bool true)) ∧ OldK s₁.heap s'.heap ∧ s'.os = s₁.os ∧ AllBare s'.gens) s₁) :
    WalkO q loose XP YP l.row.toRowW d [] (fun f vs => PySem.call f vs) := by
  intro w s₀ s₁ mg mb G Y fa o pm cd doc dV kV ho hd hcd hD hmg hg args vals as hpre hlay hrd hwl hlo
  obtain rfl : dV = .none := Dflts.none hD hdf
  obtain rfl : kV = .none := Dflts.noKw hD
  obtain ⟨a, vs, ns, rfl, rfl, hobj, hints, hlen⟩ := zbP hn hpre hwl
  refine enter_call (codeAny_mono (call w s₀ s₁ mg mb fa o pm cd doc a vs ns G Y ho (fd_plain hd) hcd hmg hobj hints hlen hg) fun r s' hq => ?_)
  obtain ⟨rfl, h2, h3, h4⟩ := hq
  exact ⟨.inl ⟨.bool true, .bool true, [], rfl, fun _ => rfl, .bool true, zcn l _, fun _ => ⟨List.Pairwise.nil, fun _ hm => (nomatch hm)⟩⟩, h2, h3, h4⟩
section
variable {prog : Program} {w : World} {A : Around} {E : Value → Shared → Prop} {s : Shared} {K : Frag}
end
end Att
namespace L2
open PySem PySem.Spec PyProof.Rows
theorem kL : ∀ {vs : List Value} {ns : List Int}, IntsAre vs ns → Vals (ns.map V.int) vs
  | _, _, .nil => .nil
  | _, _, .cons n t h => .cons ⟨t, rfl⟩ (kL h)
def Only (H : Hp) : Prop := ∀ b, H b = none ∨ ∃ o xs, H b = some (.frz o (.lst xs))
theorem zdV {P : Program} {w : World} {K : PySem.W.Frag} {mg mb : Str → Option Value} {CX : CXT} {k : Nat} {fa a : Addr} {fd : FuncData} {x : Str} {sp : Sp} {s₁ : Shared} {vs : List Value} {ns : List Int}
    (KX : K.In s₁.heap) (hns : s₁.heap.Ns mainGlobals mg) (hb : s₁.heap.Ns builtinsNs mb) (hbb : ∀ x : Str, x ≠ "__name__" → mb x = bootBuiltins x) (hlim : s₁.heap.NoLimit) (hg : s₁.gens = #[])
    (ha : s₁.heap.get? a = some { cls := .type "list", data := .seq vs.toArray }) (hi : IntsAre vs ns) (hl : ns.length ≤ sizeLine) (hr : Room k callerA)
    (F : ∀ base : Heap, K.In base → base.Ns mainGlobals mg → FnOk P w K mg base CX k fa fd [x] sp) (hbind : ∀ (s : Shared) (u : Value), BindsTo s fd ⟨[u], []⟩ [(x, u)])
    (hsp : ∀ H : Hp, Only H → SqL K H a (ns.map V.int) → sp [.ref a] H (fun v _ => v = .bl true) fun _ _ _ => False)
    (hCX : ∀ H e s', CX [] H s₁ (fun _ _ _ => False) e s' → False) :
    codeAny (model P w) callerA (.call (.ref fa) ⟨[.ref a], []⟩) (fun r s' => r = .ok (.ret (.bool true)) ∧ OldK s₁.heap s'.heap ∧ s'.os = s₁.os ∧ AllBare s'.gens) s₁ := by
  have rv := kL hi
  have lenV := hi.length
  -- from an abstract heap in which nothing but the script may be tracked
  have core : ∀ H : Hp, Only H → SqL K H a (ns.map V.int) → HOk P w H s₁.heap → (∀ b, H b ≠ none → b = a) → (H a ≠ none → K.lookup a = none) →
      codeAny (model P w) callerA (.call (.ref fa) ⟨[.ref a], []⟩) (fun r s' => r = .ok (.ret (.bool true)) ∧ OldK s₁.heap s'.heap ∧ s'.os = s₁.os ∧ AllBare s'.gens) s₁ := by
    intro H hO hS hok hA hK
    have base_of : ∀ {b : Addr} {o : Obj}, s₁.heap.get? b = some o → H b = none → (hidT s₁.heap H).get? b = some o := fun e n => zeL e n
    have noA : ∀ {b : Addr} {o : Obj} {es : Array DictEntry} {ep : Nat}, s₁.heap.get? b = some o → o.data = .dict es ep → H b = none := fun {b o es ep} e d => by
      cases q : H b with
      | none => rfl
      | some u =>
        have e' : b = a := hA b (by rw [q]; simp)
        subst e'
        rw [ha] at e; cases e
        have d' : Data.seq vs.toArray _ = Data.dict es ep := d
        cases d'
    have nsK : ∀ {b : Addr} {m : Str → Option Value}, s₁.heap.Ns b m → (hidT s₁.heap H).Ns b m := fun {b m} ⟨o, es, ep, e, d, r⟩ => ⟨o, es, ep, base_of e (noA e d), d, r⟩
    have hKb : K.In (hidT s₁.heap H) := fun b o e => base_of (KX b o e) (by
      cases q : H b with
      | none => rfl
      | some u =>
        have e' : b = a := hA b (by rw [q]; simp)
        subst e'
        rw [hK (by rw [q]; simp)] at e; cases e)
    have hM : Mod K mg (hidT s₁.heap H) := ⟨hKb, nsK hns, ⟨mb, nsK hb, hbb⟩, let ⟨mc, h1, h2⟩ := hlim; ⟨mc, nsK h1, h2⟩⟩
    have e0 : Env0 P w K mg (hidT s₁.heap H) callerA [] s₁ H := ⟨rfl, hM, fun b o e => zft e, Nat.le_of_eq (zcJ _ _), trivial, fun b hb => absurd (show b ∈ ([] : List Addr) from hb) (by simp), hok, .of_eq hg⟩
    refine codeAny_mono ((F _ hKb (nsK hns)).run callerA [] s₁ H ⟨[.ref a], []⟩ [.ref a] [.ref a] _ _ hr e0 (hbind s₁ (.ref a)) (.cons rfl .nil) (hsp H hO hS)) fun r s' h => ?_
    cases r with
    | error e => exact (hCX H e s' h).elim
    | ok fl =>
      cases fl with
      | next => exact False.elim h
      | brk => exact False.elim h
      | cont => exact False.elim h
      | ret u =>
        obtain ⟨v, H', os, bare, un, hok', r', q⟩ := h
        have q' : v = .bl true := q
        subst q'
        obtain rfl : u = Value.bool true := r'
        refine ⟨rfl, OldK.of_keep fun b o e => ?_, os, bare⟩
        cases q : H b with
        | none => exact un.keep b o e q (by intro z; exact absurd (show b ∈ ([] : List Addr) from z) (by simp)) (by simp)
        | some u =>
          rcases hO b with z | ⟨ob, xs, z⟩
          · rw [q] at z; cases z
          · have z2 := un.frzs b ob _ z
            obtain ⟨e1, _⟩ := hok b _ z
            obtain ⟨e2, _⟩ := hok' b _ z2
            rw [e] at e1; cases e1
            exact e2
  cases hk : K.lookup a with
  | some o =>
    -- the script is one of the module's own objects
    have e := KX a o hk
    rw [ha] at e
    cases e
    refine core (fun _ => none) (fun _ => .inl rfl) (.inr ⟨_, vs.toArray, _, hk, rfl, rfl, rfl, by rw [List.size_toArray, lenV]; exact hl, by simpa using rv⟩) (fun b u z => by have z' : (none : Option HO) = some u := z; cases z') (fun b z => absurd rfl z) fun z => absurd rfl z
  | none =>
    refine core (fun b => if b = a then some (.frz { cls := .type "list", data := .seq vs.toArray } (.lst (ns.map V.int))) else none) (fun b => ?_) (.inl (.inr ⟨{ cls := .type "list", data := .seq vs.toArray }, if_pos rfl⟩)) (fun b u z => ?_) (fun b z => ?_) fun _ => hk
    · by_cases hb : b = a
      · exact .inr ⟨_, _, if_pos hb⟩
      · exact .inl (if_neg hb)
    · by_cases hb : b = a
      · have z' := (if_pos hb).symm.trans z
        cases z'
        subst hb
        exact ⟨ha, by rw [List.length_map]; exact hl, vs, _, rv, ha⟩
      · have z' := (if_neg hb).symm.trans z
        cases z'
    · by_cases hb : b = a
      · exact hb
      · exact absurd (if_neg hb) z
end L2
namespace L2
open PySem PySem.Spec PyProof.Rows
theorem walk_of {l : PySem.W.OpenLaw} {n k : Nat} {q : Program} {loose : List Str} {XP : (Str → Option Value) → Heap → Prop} {YP : World → Heap → Prop} {d : DefRec} {K : Params → PySem.W.Frag} {CX : World → CXT} {sp : World → Sp} {x : Str}
    (hn : l.most = some n) (hn2 : n ≤ sizeLine) (hdf : d.params.defaults = []) (hr : Room k callerA)
    (hY : ∀ (w : World) (h : Heap), YP w h → (K w.params).In h)
    (F : ∀ (w : World) (mg : Str → Option Value) (fa : Addr) (h : Heap), (K w.params).In h → h.Ns mainGlobals mg → mg d.name = some (.ref fa) →
      ∃ fd : FuncData, (∀ (s : Shared) (u : Value), BindsTo s fd ⟨[u], []⟩ [(x, u)]) ∧
        ∀ base : Heap, (K w.params).In base → base.Ns mainGlobals mg → FnOk l.prog w (K w.params) mg base (CX w) k fa fd [x] (sp w))
    (hsp : ∀ (w : World) (H : Hp) (a : Addr) (ns : List Int), ns.length ≤ n → Only H → SqL (K w.params) H a (ns.map V.int) → sp w [.ref a] H (fun v _ => v = .bl true) fun _ _ _ => False)
    (hCX : ∀ (w : World) (H : Hp) (s : Shared) (e : Value) (s' : Shared), CX w [] H s (fun _ _ _ => False) e s' → False) :
    PySem.W.WalkO q loose XP YP l.row.toRowW d [] (fun f vs => PySem.call f vs) := by
  refine Att.attach_call hn hdf fun w s₀ s₁ mg mb fa o pm cd doc a vs ns G Y ho hd hcd hmg hobj hints hlen hg => ?_
  have KX := hY w _ Y
  obtain ⟨fd, hb, hF⟩ := F w mg fa _ KX G.T.g hmg
  exact zdV KX G.T.g G.T.b G.T.builtins G.T.nolimit hg hobj hints (Nat.le_trans hlen hn2) hr hF hb (fun H hO hS => hsp w H a ns hlen hO hS) fun H e s' => hCX w H s₁ e s'
end L2
namespace L2
open PySem PySem.Spec PyProof.Rows
def zv (s : Stmt) : Arguments := match s with
  | .FunctionDef _ a _ _ _ _ _ _ _ _ => a
  | _ => { posonlyargs := [], args := [], vararg := none, kwonlyargs := [], kw_defaults := [], kwarg := none, defaults := [] }
def zm (s : Stmt) : List Stmt := match s with
  | .FunctionDef _ _ b _ _ _ _ _ _ _ => b
  | _ => []
def zf (s : Stmt) : Scope := match s with
  | .FunctionDef _ _ _ _ _ _ sc _ _ _ => sc
  | _ => { kind := .function, names := [], isGenerator := false, isCoroutine := false }
abbrev CX0 : CXT := fun _ _ _ _ _ _ => False
abbrev E0 : XK := fun _ _ _ => False
theorem zhB {X : Cx} : zda CX0 X E0 := fun _ _ _ _ _ _ _ h => h.elim
structure Fun (K : PySem.W.Frag) (x qual : Str) (st : Stmt) (f : Addr) (fd : FuncData) : Prop where
  ex : ∃ (oc : Value) (od : Option Addr) (kV doc pm : Value) (an : Option Addr) (cdv ct : Value) (osl : Array (Option Value)),
    fd = PySem.W.fnOf x qual (zv st) (zm st) (zf st) .none kV doc pm an cdv ct ∧ K.lookup f = some ⟨oc, od, .func fd, osl⟩ ∧ PySem.W.codeIn K cdv qual = true
  kp : PySem.W.keepIn K (.ref f) = true
section
variable {P : Program} {w : World} {K : PySem.W.Frag} {mg : Str → Option Value} {base : Heap}
theorem Fun.ok {x qual : Str} {st : Stmt} {f : Addr} {fd : FuncData} {N ps : List Str} {k : Nat} {sp : Sp} (F : Fun K x qual st f fd) (S : FnScope N ps (zf st)) (len : ∀ vs H Q E, sp vs H Q E → vs.length = ps.length)
    (hbody : ∀ (cdv : Value) (A : Around) (outer : List Env) (s : Shared) (H : Hp) (vs : List V) (Q : VK) (E : XK), Room k (A.deeper (envOfC qual (zf st) s.heap.objs.size f cdv)) → sp vs H Q E →
      ∃ t, PSs (cxOf CX0 P w K mg base N qual (zf st) f cdv A outer s H E).nox (zm st) t ∧ t { nx := fun _ H' => Q .non H', rt := Q } (start N vs) H) : FnOk P w K mg base CX0 (k + 1) f fd ps sp := by
  obtain ⟨oc, od, kV, doc, pm, an, cdv, ct, osl, rfl, lk, hcd⟩ := F.ex
  refine zhu lk hcd S len fun A outer s H vs Q E hr hsp => ?_
  obtain ⟨t, h, q⟩ := hbody cdv A outer s H vs Q E hr hsp
  exact ⟨t, h.nox, q⟩
theorem Fun.binds {x qual : Str} {st : Stmt} {f : Addr} {fd : FuncData} {ps : List Str} (F : Fun K x qual st f fd)
    (h : ∀ (kV doc pm : Value) (an : Option Addr) (cdv ct : Value) (us : List Value), us.length = ps.length → bindArgs (PySem.W.fnOf x qual (zv st) (zm st) (zf st) .none kV doc pm an cdv ct) ⟨us, []⟩ = pure (ps.zip us)) : Binds K fd ps [] := by
  obtain ⟨oc, od, kV, doc, pm, an, cdv, ct, osl, rfl, lk, hcd⟩ := F.ex
  exact .all (h kV doc pm an cdv ct)
theorem qw {x qual : Str} {st : Stmt} {f : Addr} {oc : Value} {od an : Option Addr} {osl : Array (Option Value)} {kV doc pm cdv ct : Value} (l : K.lookup f = some ⟨oc, od, .func (PySem.W.fnOf x qual (zv st) (zm st) (zf st) .none kV doc pm an cdv ct), osl⟩)
    (c : PySem.W.codeIn K cdv qual = true) (k : PySem.W.keepIn K (.ref f) = true) : Fun K x qual st f (PySem.W.fnOf x qual (zv st) (zm st) (zf st) .none kV doc pm an cdv ct) := ⟨⟨oc, od, kV, doc, pm, an, cdv, ct, osl, rfl, l, c⟩, k⟩
end
theorem zhr {A : Around} {k : Nat} (hr : Room k A) : A.units + 1 < cLine := Nat.lt_of_le_of_lt (Nat.add_le_add_left (by decide : 1 ≤ 64) _) hr.units
section
variable {X : Cx}
theorem pv (i : Nat) {x : Str} {pos : Pos} (hN : X.N[i]? = some x := by rfl) (hv : Vis X.env.scope x := by first | exact Or.inl rfl | exact Or.inr (Or.inl rfl) | exact Or.inr (Or.inr rfl)) (hd : (x == ("__debug__" : Str)) = false := by decide)
    (hcd : (x == ("__classdict__" : Str)) = false := by decide) : PE X (.Name x pos) (tVar i) := zgj hN hv hd hcd
end
theorem iteF {A B : Prop} (h : B) : if false = true then A else B := by
  rw [if_neg Bool.false_ne_true]
  exact h
theorem iteT {A B : Prop} (h : A) : if true = true then A else B := by
  rw [if_pos rfl]
  exact h
def Same (H H' : Hp) : Prop := ∀ b o, H b = some o → H' b = some o
theorem Same.refl (H : Hp) : Same H H := fun _ _ h => h
theorem Same.trans {H H1 H2 : Hp} (a : Same H H1) (b : Same H1 H2) : Same H H2 := fun c o h => b c o (a c o h)
theorem Same.free {H H' : Hp} (e : Same H H') {l : Addr} (h : H' l = Option.none) : H l = Option.none := by
  cases q : H l with
  | none => rfl
  | some o =>
    rw [e l o q] at h
    cases h
theorem Same.seq {K : PySem.W.Frag} {H H' : Hp} {a : Addr} {xs : List V} (e : Same H H') (h : SqL K H a xs) : SqL K H' a xs := by
  rcases h with (h | ⟨o, h⟩) | h
  · exact .inl (.inl (e _ _ h))
  · exact .inl (.inr ⟨o, e _ _ h⟩)
  · exact .inr h
end L2
namespace L2
open PySem PySem.Spec PyProof.Rows
section
variable {X : Cx}
end
section
variable {κ : Type} [DecidableEq κ]
end
end L2
namespace L2.Y
open PySem PySem.Spec PyProof.Rows
abbrev Frag := PySem.W.Frag
mutual
/-- the value v is worth d over the heap H -/
inductive Rep (K : Frag) (H : Hp) : D → V → Prop
  | non : Rep K H .none .non
  | bl (b : Bool) : Rep K H (.bool b) (.bl b)
  | int (i : Int) : Rep K H (.int i) (.int i)
  | str (x : Str) : Rep K H (.str x) (.str x)
  | tup {a : Addr} {xs : List V} {ds : List D} : H a = some (.tup xs) → Reps K H ds xs → Rep K H (.tuple ds) (.ref a)
  | lst {a : Addr} {xs : List V} {ds : List D} : Rd H a (.lst xs) → Reps K H ds xs → Rep K H (.list ds) (.ref a)
  | dK {a : Addr} {kvs : List (Key × V)} {ds : List D} : H a = some (.dK kvs) → Reps K H ds (kvs.map (·.2)) → Rep K H (.dict ((kvs.map fun p => keyD p.1).zip ds)) (.ref a)
  | dT {a : Addr} {kvs : List (List Key × V)} {ds : List D} : H a = some (.dT kvs) → Reps K H ds (kvs.map (·.2)) → Rep K H (.dict ((.none, .none) :: (kvs.map fun p => xF p.1).zip ds)) (.ref a)
  | dF {a : Addr} {o : Obj} {kvs : List (List Key × V)} {ds : List D} : H a = some (.frz o (.dT kvs)) → Reps K H ds (kvs.map (·.2)) → Rep K H (.dict ((.none, .int 0) :: (kvs.map fun p => xF p.1).zip ds)) (.ref a)
  | adr (a : Addr) : Rep K H (.dict [(.none, .str "e"), (.none, .int a)]) (.ref a)
  | scr {a : Addr} {xs : List V} {ds : List D} : SqL K H a xs → Reps K H ds xs → Rep K H (.dict ((.none, .bool true) :: ds.map fun d => (.none, d))) (.ref a)
inductive Reps (K : Frag) (H : Hp) : List D → List V → Prop
  | nil : Reps K H [] []
  | cons {d : D} {v : V} {ds : List D} {vs : List V} : Rep K H d v → Reps K H ds vs → Reps K H (d :: ds) (v :: vs)
end
section
variable {K : Frag} {H H' : Hp} {d : D} {v : V} {ds : List D} {vs : List V}
theorem Rd.same {a : Addr} {u : HO} (s : Same H H') (h : Rd H a u) : Rd H' a u := by
  rcases h with h | ⟨o, h⟩
  · exact .inl (s _ _ h)
  · exact .inr ⟨o, s _ _ h⟩
theorem SqT.same {a : Addr} {xs : List V} (s : Same H H') (h : SqT K H a xs) : SqT K H' a xs := by
  rcases h with h | h
  · exact .inl (Rd.same s h)
  · exact .inr h
theorem SqL.same {a : Addr} {xs : List V} (s : Same H H') (h : SqL K H a xs) : SqL K H' a xs := by
  rcases h with h | h
  · exact .inl (Rd.same s h)
  · exact .inr h
mutual
theorem Rep.same (s : Same H H') : ∀ {d : D} {v : V}, Rep K H d v → Rep K H' d v
  | _, _, .non => .non
  | _, _, .bl b => .bl b
  | _, _, .int i => .int i
  | _, _, .str x => .str x
  | _, _, .tup h r => .tup (s _ _ h) (Reps.same s r)
  | _, _, .lst h r => .lst (Rd.same s h) (Reps.same s r)
  | _, _, .dK h r => .dK (s _ _ h) (Reps.same s r)
  | _, _, .dT h r => .dT (s _ _ h) (Reps.same s r)
  | _, _, .dF h r => .dF (s _ _ h) (Reps.same s r)
  | _, _, .scr h r => .scr (SqL.same s h) (Reps.same s r)
  | _, _, .adr a => .adr a
theorem Reps.same (s : Same H H') : ∀ {ds : List D} {vs : List V}, Reps K H ds vs → Reps K H' ds vs
  | _, _, .nil => .nil
  | _, _, .cons h r => .cons (Rep.same s h) (Reps.same s r)
end
theorem Reps.length : ∀ {ds : List D} {vs : List V}, Reps K H ds vs → ds.length = vs.length
  | _, _, .nil => rfl
  | _, _, .cons _ r => by rw [List.length_cons, List.length_cons, Reps.length r]
theorem Reps.get : ∀ {ds : List D} {vs : List V} {i : Nat} {d : D}, Reps K H ds vs → ds[i]? = some d → ∃ v, vs[i]? = some v ∧ Rep K H d v
  | _, _, _, _, .nil, e => by simp at e
  | _, _, 0, _, .cons h _, e => by simp at e; subst e; exact ⟨_, rfl, h⟩
  | _, _, i + 1, d, .cons _ r, e => by
    obtain ⟨v, h1, h2⟩ := Reps.get (i := i) (d := d) r (by simpa using e)
    exact ⟨v, by simpa using h1, h2⟩
theorem Reps.getV : ∀ {ds : List D} {vs : List V} {i : Nat} {v : V}, Reps K H ds vs → vs[i]? = some v → ∃ d, ds[i]? = some d ∧ Rep K H d v
  | _, _, _, _, .nil, e => by simp at e
  | _, _, 0, _, .cons h _, e => by simp at e; subst e; exact ⟨_, rfl, h⟩
  | _, _, i + 1, v, .cons _ r, e => by
    obtain ⟨d, h1, h2⟩ := Reps.getV (i := i) (v := v) r (by simpa using e)
    exact ⟨d, by simpa using h1, h2⟩
theorem Reps.append : ∀ {ds es : List D} {vs ws : List V}, Reps K H ds vs → Reps K H es ws → Reps K H (ds ++ es) (vs ++ ws)
  | _, _, _, _, .nil, s => s
  | _, _, _, _, .cons r t, s => .cons r (Reps.append t s)
theorem Reps.take : ∀ {ds : List D} {vs : List V} (n : Nat), Reps K H ds vs → Reps K H (ds.take n) (vs.take n)
  | _, _, 0, _ => .nil
  | _, _, _ + 1, .nil => .nil
  | _, _, n + 1, .cons r t => .cons r (Reps.take n t)
theorem Reps.drop : ∀ {ds : List D} {vs : List V} (n : Nat), Reps K H ds vs → Reps K H (ds.drop n) (vs.drop n)
  | _, _, 0, r => r
  | _, _, _ + 1, .nil => .nil
  | _, _, n + 1, .cons _ t => Reps.drop n t
theorem Reps.set : ∀ {ds : List D} {vs : List V} (i : Nat) {d : D} {v : V}, Reps K H ds vs → Rep K H d v → Reps K H (ds.set i d) (vs.set i v)
  | _, _, _, _, _, .nil, _ => .nil
  | _, _, 0, _, _, .cons _ t, r => .cons r t
  | _, _, i + 1, _, _, .cons q t, r => .cons q (Reps.set i t r)
theorem Reps.one (h : Rep K H d v) : Reps K H [d] [v] := .cons h .nil
theorem Reps.inv1 (h : Reps K H [d] vs) : ∃ v, vs = [v] ∧ Rep K H d v := by
  cases h with
  | cons h r => cases r; exact ⟨_, rfl, h⟩
theorem Reps.ints : ∀ {is : List Int} {vs : List V}, Reps K H (is.map PyData.int) vs → vs = is.map V.int
  | [], _, h => by cases h; rfl
  | i :: is, _, h => by
    cases h with
    | cons h r => cases h; rw [Reps.ints r]; rfl
end
def hide (O : List Addr) (H : Hp) : Hp := fun a => if a ∈ O then none else H a
section
variable {O O' : List Addr} {H H' : Hp} {a : Addr} {o : HO}
theorem jG (h : a ∉ O) : hide O H a = H a := if_neg h
theorem jJ (h : hide O H a = some o) : a ∉ O ∧ H a = some o := by
  unfold hide at h
  split at h
  · cases h
  · exact ⟨by assumption, h⟩
theorem zG (s : Same H H') : Same (hide O H) (hide O H') := fun b o e => by
  obtain ⟨h1, h2⟩ := jJ e
  rw [jG h1]; exact s _ _ h2
theorem jk : Same (hide O H) H := fun _ _ e => (jJ e).2
theorem jS (h : ∀ p ∈ O', p ∈ O) : Same (hide O H) (hide O' H) := fun b o e => by
  obtain ⟨h1, h2⟩ := jJ e
  rw [jG fun z => h1 (h b z)]; exact h2
theorem zeU : hide [] H = H := by funext a; exact jG (by simp)
theorem zQ (h : a ∈ O) : hide O (upd H a o) = hide O H := by
  funext b
  unfold hide
  split
  · rfl
  · rw [zp]; rintro rfl; contradiction
theorem zK (h : H a = none) : Same H (upd H a o) := fun b u e => by
  rw [zp (zB e h)]; exact e
end
inductive OwnAt (K : Frag) (O : List Addr) (H : Hp) : D → Addr → Prop
  | lst {p : Addr} {xs : List V} {ds : List D} : H p = some (.lst xs) → Reps K (hide O H) ds xs → OwnAt K O H (.list ds) p
  | dK {p : Addr} {kvs : List (Key × V)} {ds : List D} : H p = some (.dK kvs) → Reps K (hide O H) ds (kvs.map (·.2)) → OwnAt K O H (.dict ((kvs.map fun q => keyD q.1).zip ds)) p
  | dT {p : Addr} {kvs : List (List Key × V)} {ds : List D} : H p = some (.dT kvs) → Reps K (hide O H) ds (kvs.map (·.2)) → OwnAt K O H (.dict ((.none, .none) :: (kvs.map fun q => xF q.1).zip ds)) p
def Dom (O : List Addr) (H : Hp) : Prop := ∀ p ∈ O, ∃ o, H p = some o ∧ ∀ xs, o ≠ .tup xs
theorem Dom.same {O : List Addr} {H H' : Hp} (h : Dom O H) (s : Same H H') : Dom O H' := fun p hp => let ⟨o, e, n⟩ := h p hp; ⟨o, s _ _ e, n⟩
theorem Dom.out {O : List Addr} {H : Hp} (h : Dom O H) {p : Addr} (e : H p = none) : p ∉ O := fun z => by
  obtain ⟨o, e', _⟩ := h p z
  rw [e] at e'; cases e'
theorem Dom.tup {O : List Addr} {H : Hp} (h : Dom O H) {p : Addr} {xs : List V} (e : H p = some (.tup xs)) : p ∉ O := fun z => by
  obtain ⟨o, e', n⟩ := h p z
  rw [e] at e'; cases e'
  exact n xs rfl
structure Fx where
  H0 : Hp
  Oc : List Addr
  V0 : Hp
structure SR (K : Frag) (F : Fx) (O : List Addr) (ρ : Env') (σ : St) (H : Hp) : Prop where
  hb : Same F.H0 H
  vb : Same F.V0 (hide O H)
  oc : ∀ p ∈ F.Oc, p ∈ O
  dom : Dom O H
  len : σ.length = ρ.length
  val : ∀ (i : Nat) d, ρ[i]? = some (some (.val d)) → ∃ v, σ[i]? = some (some v) ∧ Rep K (hide O H) d v
  own : ∀ (i : Nat) d, ρ[i]? = some (some (.own d)) → ∃ p, σ[i]? = some (some (.ref p)) ∧ p ∈ O ∧ (p ∉ F.Oc ∧ F.H0 p = none) ∧ OwnAt K O H d p
  sep : ∀ (i j : Nat) d d' p, ρ[i]? = some (some (.own d)) → ρ[j]? = some (some (.own d')) → σ[i]? = some (some (.ref p)) → σ[j]? = some (some (.ref p)) → i = j
theorem OwnAt.same {K : Frag} {O : List Addr} {H H' : Hp} {d : D} {p : Addr} (s : Same H H') (h : OwnAt K O H d p) : OwnAt K O H' d p := by
  cases h with
  | lst h r => exact .lst (s _ _ h) (r.same (zG s))
  | dK h r => exact .dK (s _ _ h) (r.same (zG s))
  | dT h r => exact .dT (s _ _ h) (r.same (zG s))
section
variable {K : Frag} {F : Fx} {O : List Addr} {ρ : Env'} {σ : St} {H H' : Hp}
theorem SR.same (r : SR K F O ρ σ H) (s : Same H H') : SR K F O ρ σ H' where
  hb := r.hb.trans s
  vb := r.vb.trans (zG s)
  oc := r.oc
  dom := r.dom.same s
  len := r.len
  val := fun i d e => let ⟨v, h1, h2⟩ := r.val i d e; ⟨v, h1, h2.same (zG s)⟩
  own := fun i d e => let ⟨p, h1, h2, h3, h4⟩ := r.own i d e; ⟨p, h1, h2, h3, h4.same s⟩
  sep := r.sep
theorem SR.fresh (r : SR K F O ρ σ H) {p : Addr} (h : H p = none) : p ∉ O := r.dom.out h
end
inductive RepB (K : Frag) (O : List Addr) (H : Hp) : D → V → Prop
  | val {d : D} {v : V} : Rep K (hide O H) d v → RepB K O H d v
  | own {d : D} {p : Addr} : p ∈ O → OwnAt K O H d p → RepB K O H d (.ref p)
inductive RepBs (K : Frag) (O : List Addr) (H : Hp) : List D → List V → Prop
  | nil : RepBs K O H [] []
  | cons {d : D} {v : V} {ds : List D} {vs : List V} : RepB K O H d v → RepBs K O H ds vs → RepBs K O H (d :: ds) (v :: vs)
theorem RepB.same {K : Frag} {O : List Addr} {H H' : Hp} {d : D} {v : V} (s : Same H H') (h : RepB K O H d v) : RepB K O H' d v := by
  cases h with
  | val h => exact .val (h.same (zG s))
  | own h h' => exact .own h (h'.same s)
section
variable {K : Frag} {O : List Addr} {H : Hp} {v : V}
theorem RepB.non (h : RepB K O H .none v) : v = .non := by
  cases h with
  | val h => cases h; rfl
  | own _ h => cases h
theorem RepB.bl {b : Bool} (h : RepB K O H (.bool b) v) : v = .bl b := by
  cases h with
  | val h => cases h; rfl
  | own _ h => cases h
theorem RepB.int {i : Int} (h : RepB K O H (.int i) v) : v = .int i := by
  cases h with
  | val h => cases h; rfl
  | own _ h => cases h
theorem RepB.str {x : Str} (h : RepB K O H (.str x) v) : v = .str x := by
  cases h with
  | val h => cases h; rfl
  | own _ h => cases h
theorem RepB.tup {ds : List D} (h : RepB K O H (.tuple ds) v) : ∃ a xs, v = .ref a ∧ SqT K H a xs ∧ Reps K (hide O H) ds xs := by
  cases h with
  | val h =>
    cases h with
    | tup h r => exact ⟨_, _, rfl, .inl (.inl (jk _ _ h)), r⟩
  | own _ h => cases h
theorem RepB.lstR {ds : List D} (h : RepB K O H (.list ds) v) : ∃ a xs, v = .ref a ∧ Rd H a (.lst xs) ∧ Reps K (hide O H) ds xs := by
  cases h with
  | val h =>
    cases h with
    | lst h r => exact ⟨_, _, rfl, Rd.same jk h, r⟩
  | own _ h =>
    cases h with
    | lst h r => exact ⟨_, _, rfl, .inl h, r⟩
theorem RepB.lst {ds : List D} (h : RepB K O H (.list ds) v) : ∃ a xs, v = .ref a ∧ SqL K H a xs ∧ Reps K (hide O H) ds xs := by
  obtain ⟨a, xs, e, h1, h2⟩ := h.lstR
  exact ⟨a, xs, e, .inl h1, h2⟩
end
def tD (K : Frag) (g : Env' → Option D) : TE := fun σ H Q => ∃ F O ρ d, SR K F O ρ σ H ∧ g ρ = some d ∧ ∀ v H', Same H H' → Rep K (hide O H') d v → Q v H'
def tBo (K : Frag) (g : Env' → Option D) : TE := fun σ H Q => ∃ F O ρ d, SR K F O ρ σ H ∧ g ρ = some d ∧ ∀ v H', Same H H' → RepB K O H' d v → Q v H'
def tTd (K : Frag) (g : Env' → Option Bool) : TT := fun σ H Q => ∃ F O ρ b, SR K F O ρ σ H ∧ g ρ = some b ∧ ∀ H', Same H H' → Q b H'
def tAd (K : Frag) (g : Env' → Option (List D)) : TA := fun σ H Q => ∃ F O ρ ds, SR K F O ρ σ H ∧ g ρ = some ds ∧ ∀ vs H', Same H H' → Reps K (hide O H') ds vs → Q vs H'
def tAb (K : Frag) (g : Env' → Option (List D)) : TA := fun σ H Q => ∃ F O ρ ds, SR K F O ρ σ H ∧ g ρ = some ds ∧ ∀ vs H', Same H H' → RepBs K O H' ds vs → Q vs H'
def PD (X : Cx) (e : Expr) (g : Env' → Option D) : Prop := PE X e (tD X.K g)
def PB (X : Cx) (e : Expr) (g : Env' → Option D) : Prop := PE X e (tBo X.K g)
def PTd (X : Cx) (e : Expr) (g : Env' → Option Bool) : Prop := PT X e (tTd X.K g)
def PAd (X : Cx) (es : List Expr) (g : Env' → Option (List D)) : Prop := PA X es (tAd X.K g)
def PAb (X : Cx) (es : List Expr) (g : Env' → Option (List D)) : Prop := PA X es (tAb X.K g)
theorem PE.imp {X : Cx} {e : Expr} {t t' : TE} (h : PE X e t) (k : ∀ σ H Q, t' σ H Q → t σ H Q) : PE X e t' := fun pins s σ H Q I h' => h pins s σ H Q I (k σ H Q h')
theorem PT.imp {X : Cx} {e : Expr} {t t' : TT} (h : PT X e t) (k : ∀ σ H Q, t' σ H Q → t σ H Q) : PT X e t' := fun pins s σ H Q I h' => h pins s σ H Q I (k σ H Q h')
theorem PA.imp {X : Cx} {es : List Expr} {t t' : TA} (h : PA X es t) (k : ∀ σ H Q, t' σ H Q → t σ H Q) : PA X es t' := fun pos pins s σ H Q I h' => h pos pins s σ H Q I (k σ H Q h')
theorem PS.imp {X : Cx} {e : Stmt} {t t' : TS} (h : PS X e t) (k : ∀ D σ H, t' D σ H → t D σ H) : PS X e t' := fun pins s σ H D I h' => h pins s σ H D I (k D σ H h')
theorem PSs.imp {X : Cx} {e : List Stmt} {t t' : TS} (h : PSs X e t) (k : ∀ D σ H, t' D σ H → t D σ H) : PSs X e t' := fun pins s σ H D I h' => h pins s σ H D I (k D σ H h')
theorem PD.b {X : Cx} {e : Expr} {g : Env' → Option D} (h : PD X e g) : PB X e g := PE.imp h fun _ _ _ ⟨F, O, ρ, d, r, e, k⟩ => ⟨F, O, ρ, d, r, e, fun v H' s q => k v H' s (.val q)⟩
section
variable {X : Cx} {e a b : Expr} {es : List Expr} {pos : Pos}
theorem za {i : Nat} {x : Str} (h : PE X (.Name x pos) (tVar i)) : PD X (.Name x pos) (gVar i) := PE.imp h fun σ H Q ⟨F, O, ρ, d, r, e, k⟩ => by
  unfold gVar at e
  split at e
  · rename_i d' q
    cases e
    obtain ⟨v, h1, h2⟩ := r.val i _ q
    exact ⟨v, h1, k v H (Same.refl _) h2⟩
  · cases e
theorem xk {i : Nat} {x : Str} (h : PE X (.Name x pos) (tVar i)) : PB X (.Name x pos) (qj i) := PE.imp h fun σ H Q ⟨F, O, ρ, d, r, e, k⟩ => by
  unfold qj at e
  split at e
  · rename_i d' q
    cases e
    obtain ⟨v, h1, h2⟩ := r.val i _ q
    exact ⟨v, h1, k v H (Same.refl _) (.val h2)⟩
  · rename_i d' q
    cases e
    obtain ⟨p, h1, h2, h3, h4⟩ := r.own i _ q
    exact ⟨_, h1, k _ H (Same.refl _) (.own h2 h4)⟩
  · cases e
theorem zau {v : V} {d : D} (h : PE X e (tC v)) (r : ∀ H, Rep X.K H d v) : PD X e (fun _ => some d) := PE.imp h fun σ H Q ⟨F, O, ρ, d', _, e, k⟩ => by
  cases e
  exact k v H (Same.refl _) (r _)
theorem zgS {i j} : PD X (.Constant (.int i) j pos) (fun _ => some (.int i)) := zau zgm fun _ => .int i
theorem zhC {i j} : PD X (.Constant (.bool i) j pos) (fun _ => some (.bool i)) := zau zht fun _ => .bl i
def OpD (X : Cx) (f : Value → Value → Sem Value) (h : D → D → Option D) : Prop :=
  ∀ (pins : List (Addr × Obj)) (s : Shared) (σ : St) (H : Hp) (O : List Addr) (x y : V) (v u : Value) (dx dy d : D) (Q : VK), Inv X pins σ H s → Dom O H → RelV x v → RelV y u → RepB X.K O H dx x → RepB X.K O H dy y → h dx dy = some d →
    (∀ z H', Same H H' → Rep X.K (hide O H') d z → Q z H') → wpAny (model X.prog X.w) X.A (f v u) (EP X pins σ Q) X.xe s
def UnD (X : Cx) (f : Value → Sem Value) (h : D → Option D) : Prop :=
  ∀ (pins : List (Addr × Obj)) (s : Shared) (σ : St) (H : Hp) (O : List Addr) (x : V) (v : Value) (dx d : D) (Q : VK), Inv X pins σ H s → Dom O H → RelV x v → RepB X.K O H dx x → h dx = some d →
    (∀ z H', Same H H' → Rep X.K (hide O H') d z → Q z H') → wpAny (model X.prog X.w) X.A (f v) (EP X pins σ Q) X.xe s
def ym (X : Cx) (f : Value) (h : List D → Option D) : Prop :=
  ∀ (pins : List (Addr × Obj)) (s : Shared) (σ : St) (H : Hp) (O : List Addr) (xs : List V) (us : List Value) (ds : List D) (d : D) (Q : VK), Inv X pins σ H s → Dom O H → Vals xs us → RepBs X.K O H ds xs → h ds = some d →
    (∀ z H', Same H H' → Rep X.K (hide O H') d z → Q z H') → wpAny (model X.prog X.w) X.A (call f us) (EP X pins σ Q) X.xe s
theorem vK {h : D → D → Option D} {ga gb : Env' → Option D} {ρ : Env'} {d : D} (e : g2 h ga gb ρ = some d) : ∃ x y, ga ρ = some x ∧ gb ρ = some y ∧ h x y = some d := by
  unfold g2 at e
  obtain ⟨x, h1, e⟩ := Option.bind_eq_some_iff.mp e
  obtain ⟨y, h2, e⟩ := Option.bind_eq_some_iff.mp e
  exact ⟨x, y, h1, h2, e⟩
theorem zcB {h : D → Option D} {ga : Env' → Option D} {ρ : Env'} {d : D} (e : g1 h ga ρ = some d) : ∃ x, ga ρ = some x ∧ h x = some d := Option.bind_eq_some_iff.mp e
theorem vD {h : List D → Option D} {ga : Env' → Option (List D)} {ρ : Env'} {d : D} (e : gA h ga ρ = some d) : ∃ x, ga ρ = some x ∧ h x = some d := Option.bind_eq_some_iff.mp e
theorem OpD.r {f : Value → Value → Sem Value} {h : D → D → Option D} (o : OpD X f h) : OpR X f (fun x y H Q => ∃ O dx dy d, Dom O H ∧ RepB X.K O H dx x ∧ RepB X.K O H dy y ∧ h dx dy = some d ∧ ∀ z H', Same H H' → Rep X.K (hide O H') d z → Q z H') :=
  fun pins s σ H x y v u Q I rx ry ⟨O, dx, dy, d, hO, bx, by', e, k⟩ => o pins s σ H O x y v u dx dy d Q I hO rx ry bx by' e k
theorem UnD.r {f : Value → Sem Value} {h : D → Option D} (o : UnD X f h) : UnR X f (fun x H Q => ∃ O dx d, Dom O H ∧ RepB X.K O H dx x ∧ h dx = some d ∧ ∀ z H', Same H H' → Rep X.K (hide O H') d z → Q z H') :=
  fun pins s σ H x v Q I rx ⟨O, dx, d, hO, bx, e, k⟩ => o pins s σ H O x v dx d Q I hO rx bx e k
theorem ym.r {f : Value} {h : List D → Option D} (o : ym X f h) : xg X f (fun xs H Q => ∃ O ds d, Dom O H ∧ RepBs X.K O H ds xs ∧ h ds = some d ∧ ∀ z H', Same H H' → Rep X.K (hide O H') d z → Q z H') :=
  fun pins s σ H xs us Q I rx ⟨O, ds, d, hO, bx, e, k⟩ => o pins s σ H O xs us ds d Q I hO rx bx e k
theorem zcj {h : D → D → Option D} {ga gb : Env' → Option D} {σ : St} {H : Hp} {Q : VK} (q : tD X.K (g2 h ga gb) σ H Q) :
    tOp (fun x y H Q => ∃ O dx dy d, Dom O H ∧ RepB X.K O H dx x ∧ RepB X.K O H dy y ∧ h dx dy = some d ∧ ∀ z H', Same H H' → Rep X.K (hide O H') d z → Q z H') (tBo X.K ga) (tBo X.K gb) σ H Q := by
  obtain ⟨F, O, ρ, d, r, e, k⟩ := q
  obtain ⟨dx, dy, e1, e2, e3⟩ := vK e
  refine ⟨F, O, ρ, dx, r, e1, fun x H1 s1 b1 => ⟨F, O, ρ, dy, r.same s1, e2, fun y H2 s2 b2 => ?_⟩⟩
  exact ⟨O, dx, dy, d, (r.same (s1.trans s2)).dom, b1.same s2, b2, e3, fun z H' s3 b3 => k z H' (s1.trans (s2.trans s3)) b3⟩
theorem zt {op : Operator} {h : D → D → Option D} {ga gb : Env' → Option D} (ho : OpD X (binaryOp op) h) (ha : PB X a ga) (hb : PB X b gb) : PD X (.BinOp a op b pos) (g2 h ga gb) :=
  PE.imp (zhq ho.r ha hb) fun _ _ _ q => zcj q
theorem yP {op : CmpOp} {h : D → D → Option D} {ga gb : Env' → Option D} (ho : OpD X (compareOp op) h) (ha : PB X a ga) (hb : PB X b gb) (hm : behindInMarks op b = false) : PD X (.Compare a [op] [b] pos) (g2 h ga gb) :=
  PE.imp (zf5 ho.r ha hb hm) fun _ _ _ q => zcj q
theorem zho {op : UnaryOp} {h : D → Option D} {ga : Env' → Option D} (ho : UnD X (unaryOp op) h) (ha : PB X a ga) : PD X (.UnaryOp op a pos) (g1 h ga) :=
  PE.imp (zhE ho.r ha) fun σ H Q ⟨F, O, ρ, d, r, e, k⟩ => by
    obtain ⟨dx, e1, e2⟩ := zcB e
    exact ⟨F, O, ρ, dx, r, e1, fun x H1 s1 b1 => ⟨O, dx, d, (r.same s1).dom, b1, e2, fun z H' s3 b3 => k z H' (s1.trans s3) b3⟩⟩
def zcg : Expr → Bool
  | .Starred .. => false
  | _ => true
theorem jC {e : Expr} {es : List Expr} {env : Env} (h : zcg e = true) : starEach (e :: es) env = (false, eval e env) :: starEach es env := by
  cases e <;> first | rfl | cases h
theorem yT {ga : Env' → Option D} {gr : Env' → Option (List D)} {ρ : Env'} {ds : List D} (e : zc ga gr ρ = some ds) : ∃ x xs, ga ρ = some x ∧ gr ρ = some xs ∧ ds = x :: xs := by
  unfold zc at e
  obtain ⟨x, h1, e⟩ := Option.bind_eq_some_iff.mp e
  obtain ⟨y, h2, e⟩ := Option.bind_eq_some_iff.mp e
  exact ⟨x, y, h1, h2, (Option.some.inj e).symm⟩
theorem zi : PAd X [] gNil := PA.imp zat fun σ H Q ⟨F, O, ρ, ds, r, e, k⟩ => by
  cases e
  exact k [] H (Same.refl _) .nil
theorem zeP {ga : Env' → Option D} {gr : Env' → Option (List D)} (ha : PD X e ga) (hr : PAd X es gr) (hs : starEach (e :: es) X.env = (false, eval e X.env) :: starEach es X.env := by exact jC rfl) : PAd X (e :: es) (zc ga gr) :=
  PA.imp (yr ha hr hs) fun σ H Q ⟨F, O, ρ, ds, r, e, k⟩ => by
    obtain ⟨x, xs, e1, e2, rfl⟩ := yT e
    exact ⟨F, O, ρ, x, r, e1, fun v H1 s1 b1 => ⟨F, O, ρ, xs, r.same s1, e2, fun vs H2 s2 b2 => k _ _ (s1.trans s2) (.cons (b1.same (zG s2)) b2)⟩⟩
theorem zN : PAb X [] gNil := PA.imp zat fun σ H Q ⟨F, O, ρ, ds, r, e, k⟩ => by
  cases e
  exact k [] H (Same.refl _) .nil
theorem zd8 {ga : Env' → Option D} {gr : Env' → Option (List D)} (ha : PB X e ga) (hr : PAb X es gr) (hs : starEach (e :: es) X.env = (false, eval e X.env) :: starEach es X.env := by exact jC rfl) : PAb X (e :: es) (zc ga gr) :=
  PA.imp (yr ha hr hs) fun σ H Q ⟨F, O, ρ, ds, r, e, k⟩ => by
    obtain ⟨x, xs, e1, e2, rfl⟩ := yT e
    exact ⟨F, O, ρ, x, r, e1, fun v H1 s1 b1 => ⟨F, O, ρ, xs, r.same s1, e2, fun vs H2 s2 b2 => k _ _ (s1.trans s2) (.cons (b1.same s2) b2)⟩⟩
theorem we {K : Frag} {O : List Addr} {H : Hp} {p : Addr} {o : HO} (hp : p ∉ O) : hide O (upd H p o) p = some o := by rw [jG hp, zL]
theorem qZ {K : Frag} {O : List Addr} {H : Hp} {p : Addr} {ds : List D} {xs : List V} (hp : H p = none) (hO : p ∉ O) (r : Reps K (hide O H) ds xs) : Rep K (hide O (upd H p (.tup xs))) (.tuple ds) (.ref p) :=
  .tup (we (K := K) hO) (r.same (zG (zK hp)))
theorem wx {K : Frag} {O : List Addr} {H : Hp} {p : Addr} {ds : List D} {xs : List V} (hp : H p = none) (hO : p ∉ O) (r : Reps K (hide O H) ds xs) : Rep K (hide O (upd H p (.lst xs))) (.list ds) (.ref p) :=
  .lst (.inl (we (K := K) hO)) (r.same (zG (zK hp)))
theorem jA {x1} {g : Env' → Option (List D)} (h : PAd X es g) : PD X (.Tuple es x1 pos) (gA tupD g) := PE.imp (zgI h) fun σ H Q ⟨F, O, ρ, d, r, e, k⟩ => by
  obtain ⟨ds, e1, e2⟩ := vD e
  unfold tupD at e2
  split at e2
  · rename_i hl
    cases e2
    refine ⟨F, O, ρ, ds, r, e1, fun vs H1 s1 b1 => ⟨by rw [← b1.length]; exact hl, fun p hp => ?_⟩⟩
    exact k _ _ (s1.trans (zK hp)) (qZ hp ((r.same s1).fresh hp) b1)
  · cases e2
def tFr (K : Frag) (g : Env' → Option (List D)) : TE := fun σ H Q => ∃ F O ρ ds, SR K F O ρ σ H ∧ g ρ = some ds ∧ ∀ p xs H1, Same H H1 → H1 p = none → Reps K (hide O H1) ds xs → Q (.ref p) (upd H1 p (.lst xs))
def PFr (X : Cx) (e : Expr) (g : Env' → Option (List D)) : Prop := PE X e (tFr X.K g)
theorem PFr.d {g : Env' → Option (List D)} (h : PFr X e g) : PD X e (fun ρ => (g ρ).map PyData.list) := PE.imp h fun σ H Q ⟨F, O, ρ, d, r, e, k⟩ => by
  obtain ⟨ds, e1, e2⟩ := Option.map_eq_some_iff.mp e
  subst e2
  exact ⟨F, O, ρ, ds, r, e1, fun p xs H1 s1 hp b1 => k _ _ (s1.trans (zK hp)) (wx hp ((r.same s1).fresh hp) b1)⟩
theorem qF {g : Env' → Option (List D)} (h : PAd X es g) : PFr X (.List es pos) (gLst g) := PE.imp (zgx h) fun σ H Q ⟨F, O, ρ, d, r, e, k⟩ => by
  obtain ⟨ds, e1, e2⟩ := Option.bind_eq_some_iff.mp e
  split at e2
  · rename_i hl
    cases e2
    exact ⟨F, O, ρ, _, r, e1, fun vs H1 s1 b1 => ⟨by rw [← b1.length]; exact hl, fun p hp => k _ _ _ s1 hp b1⟩⟩
  · cases e2
end
end L2.Y
namespace L2.Y
open PySem PySem.Spec PyProof.Rows
theorem get_set {α : Type} {l : List α} {i j : Nat} {a b : α} (h : (l.set i a)[j]? = some b) : (i = j ∧ b = a ∧ j < l.length) ∨ (i ≠ j ∧ l[j]? = some b) := by
  by_cases e : i = j
  · subst e
    left
    rw [List.getElem?_set_self'] at h
    cases q : l[i]? with
    | none => rw [q] at h; cases h
    | some c =>
      rw [q] at h
      exact ⟨rfl, (Option.some.inj h).symm, (List.getElem?_eq_some_iff.mp q).1⟩
  · right
    rw [List.getElem?_set_ne e] at h
    exact ⟨e, h⟩
theorem zb4 {α : Type} {l : List α} {i : Nat} {a : α} (h : i < l.length) : (l.set i a)[i]? = some a := List.getElem?_set_self h
section
variable {K : Frag} {F : Fx} {O : List Addr} {ρ : Env'} {σ : St} {H : Hp} {i : Nat} {d : D} {v : V} {p : Addr}
theorem SR.setVal (r : SR K F O ρ σ H) (h : Rep K (hide O H) d v) : SR K F O (ρ.set i (some (.val d))) (σ.set i (some v)) H where
  hb := r.hb
  vb := r.vb
  oc := r.oc
  dom := r.dom
  len := by rw [List.length_set, List.length_set]; exact r.len
  val := fun j d' e => by
    rcases get_set e with ⟨rfl, e2, hl⟩ | ⟨ne, e2⟩
    · cases e2
      exact ⟨v, zb4 (by rw [r.len]; exact hl), h⟩
    · rw [List.getElem?_set_ne ne]
      exact r.val j d' e2
  own := fun j d' e => by
    rcases get_set e with ⟨rfl, e2, hl⟩ | ⟨ne, e2⟩
    · cases e2
    · rw [List.getElem?_set_ne ne]
      exact r.own j d' e2
  sep := fun j k d1 d2 q e1 e2 f1 f2 => by
    rcases get_set e1 with ⟨rfl, e1, _⟩ | ⟨ne1, e1⟩
    · cases e1
    rcases get_set e2 with ⟨rfl, e2, _⟩ | ⟨ne2, e2⟩
    · cases e2
    rw [List.getElem?_set_ne ne1] at f1
    rw [List.getElem?_set_ne ne2] at f2
    exact r.sep j k d1 d2 q e1 e2 f1 f2
theorem ql (h : H p = none) : hide (p :: O) H = hide O H := by
  funext b
  unfold hide
  by_cases e : b = p
  · subst e; simp [h]
  · simp [e]
theorem OwnAt.mut {O : List Addr} (h : OwnAt K O H d p) : ∃ o, H p = some o ∧ ∀ xs, o ≠ .tup xs := by
  cases h with
  | lst h _ => exact ⟨_, h, fun _ z => nomatch z⟩
  | dK h _ => exact ⟨_, h, fun _ z => nomatch z⟩
  | dT h _ => exact ⟨_, h, fun _ z => nomatch z⟩
theorem SR.newOwn {o : HO} (r : SR K F O ρ σ H) (hp : H p = none) (ho : OwnAt K (p :: O) (upd H p o) d p) : SR K F (p :: O) (ρ.set i (some (.own d))) (σ.set i (some (.ref p))) (upd H p o) := by
  have hO : p ∉ O := r.fresh hp
  have eh : hide (p :: O) (upd H p o) = hide O H := by rw [zQ List.mem_cons_self, ql hp]
  refine ⟨r.hb.trans (zK hp), by rw [eh]; exact r.vb, fun q hq => List.mem_cons_of_mem _ (r.oc q hq), fun q hq => ?_, by rw [List.length_set, List.length_set]; exact r.len, fun j d' e => ?_, fun j d' e => ?_, fun j k d1 d2 q e1 e2 f1 f2 => ?_⟩
  · by_cases e : q = p
    · subst e; exact ho.mut
    · rw [zp e]; exact r.dom q ((List.mem_cons.mp hq).resolve_left e)
  · rcases get_set e with ⟨rfl, e2, hl⟩ | ⟨ne, e2⟩
    · cases e2
    · rw [List.getElem?_set_ne ne, eh]
      exact r.val j d' e2
  · rcases get_set e with ⟨rfl, e2, hl⟩ | ⟨ne, e2⟩
    · cases e2
      refine ⟨p, zb4 (by rw [r.len]; exact hl), List.mem_cons_self, ?_, ho⟩
      exact ⟨fun z => hO (r.oc p z), r.hb.free hp⟩
    · obtain ⟨q, h1, h2, h3, h4⟩ := r.own j d' e2
      refine ⟨q, by rw [List.getElem?_set_ne ne]; exact h1, List.mem_cons_of_mem _ h2, h3, ?_⟩
      have hq : q ≠ p := fun z => hO (z ▸ h2)
      cases h4 with
      | lst h r => exact .lst (by rw [zp hq]; exact h) (by rw [eh]; exact r)
      | dK h r => exact .dK (by rw [zp hq]; exact h) (by rw [eh]; exact r)
      | dT h r => exact .dT (by rw [zp hq]; exact h) (by rw [eh]; exact r)
  · rcases get_set e1 with ⟨rfl, e1, _⟩ | ⟨ne1, e1⟩
    · rcases get_set e2 with ⟨rfl, e2, _⟩ | ⟨ne2, e2⟩
      · rfl
      · rw [List.getElem?_set_ne ne2] at f2
        rcases get_set f1 with ⟨_, f1, _⟩ | ⟨z, _⟩
        · cases f1
          obtain ⟨q, h1, h2, _⟩ := r.own k d2 e2
          rw [f2] at h1; cases h1
          exact absurd h2 hO
        · exact absurd rfl z
    · rcases get_set e2 with ⟨rfl, e2, _⟩ | ⟨ne2, e2⟩
      · rw [List.getElem?_set_ne ne1] at f1
        rcases get_set f2 with ⟨_, f2, _⟩ | ⟨z, _⟩
        · cases f2
          obtain ⟨q, h1, h2, _⟩ := r.own j d1 e1
          rw [f1] at h1; cases h1
          exact absurd h2 hO
        · exact absurd rfl z
      · rw [List.getElem?_set_ne ne1] at f1
        rw [List.getElem?_set_ne ne2] at f2
        exact r.sep j k d1 d2 q e1 e2 f1 f2
theorem SR.mut {o : HO} {d' : D} (r : SR K F O ρ σ H) (he : ρ[i]? = some (some (.own d))) (hs : σ[i]? = some (some (.ref p))) (ho : OwnAt K O (upd H p o) d' p) : SR K F O (ρ.set i (some (.own d'))) σ (upd H p o) := by
  obtain ⟨p', h1, hO, h0, _⟩ := r.own i d he
  rw [hs] at h1; cases h1
  have eh : hide O (upd H p o) = hide O H := zQ hO
  have hil : i < ρ.length := (List.getElem?_eq_some_iff.mp he).1
  refine ⟨fun b u e => ?_, by rw [eh]; exact r.vb, r.oc, fun q hq => ?_, by rw [List.length_set]; exact r.len, fun j d' e => ?_, fun j d' e => ?_, fun j k d1 d2 q e1 e2 f1 f2 => ?_⟩
  · rw [zp (zB e h0.2)]; exact r.hb _ _ e
  · by_cases e : q = p
    · subst e; exact ho.mut
    · rw [zp e]; exact r.dom q hq
  · rcases get_set e with ⟨rfl, e2, hl⟩ | ⟨ne, e2⟩
    · cases e2
    · rw [eh]; exact r.val j d' e2
  · rcases get_set e with ⟨rfl, e2, hl⟩ | ⟨ne, e2⟩
    · cases e2
      exact ⟨p, hs, hO, h0, ho⟩
    · obtain ⟨q, h1, h2, h3, h4⟩ := r.own j d' e2
      have hq : q ≠ p := fun z => by subst z; exact ne (r.sep i j d d' q he e2 hs h1)
      refine ⟨q, h1, h2, h3, ?_⟩
      cases h4 with
      | lst h r => exact .lst (by rw [zp hq]; exact h) (by rw [eh]; exact r)
      | dK h r => exact .dK (by rw [zp hq]; exact h) (by rw [eh]; exact r)
      | dT h r => exact .dT (by rw [zp hq]; exact h) (by rw [eh]; exact r)
  · have back : ∀ {j : Nat} {dj : D}, (ρ.set i (some (.own d')))[j]? = some (some (.own dj)) → ∃ dj', ρ[j]? = some (some (.own dj')) := fun {j dj} e => by
      rcases get_set e with ⟨rfl, _, _⟩ | ⟨ne, e2⟩
      · exact ⟨d, he⟩
      · exact ⟨_, e2⟩
    obtain ⟨_, e1⟩ := back e1
    obtain ⟨_, e2⟩ := back e2
    exact r.sep j k _ _ q e1 e2 f1 f2
theorem OwnAt.rep {O' : List Addr} (h : OwnAt K O H d p) (hs : ∀ q ∈ O', q ∈ O) (hp : p ∉ O') : Rep K (hide O' H) d (.ref p) := by
  cases h with
  | lst h r => exact .lst (.inl (by rw [jG hp]; exact h)) (r.same (jS hs))
  | dK h r => exact .dK (by rw [jG hp]; exact h) (r.same (jS hs))
  | dT h r => exact .dT (by rw [jG hp]; exact h) (r.same (jS hs))
theorem OwnAt.sub {O' : List Addr} {q : Addr} (h : OwnAt K O H d q) (hs : ∀ q ∈ O', q ∈ O) : OwnAt K O' H d q := by
  cases h with
  | lst h r => exact .lst h (r.same (jS hs))
  | dK h r => exact .dK h (r.same (jS hs))
  | dT h r => exact .dT h (r.same (jS hs))
theorem SR.frz (r : SR K F O ρ σ H) (i : Nat) : ∃ O', SR K F O' (frz i ρ) σ H := by
  unfold Y.frz
  split
  · rename_i d he
    obtain ⟨p, hs, hO, h0, ho⟩ := r.own i d he
    have sub : ∀ q ∈ O.filter (· ≠ p), q ∈ O := fun q hq => (List.mem_filter.mp hq).1
    have np : p ∉ O.filter (· ≠ p) := fun z => by simpa using (List.mem_filter.mp z).2
    refine ⟨O.filter (· ≠ p), r.hb, r.vb.trans (jS sub), fun q hq => List.mem_filter.mpr ⟨r.oc q hq, ?_⟩, fun q hq => r.dom q (sub q hq), by rw [List.length_set]; exact r.len, fun j d' e => ?_, fun j d' e => ?_, fun j k d1 d2 q e1 e2 f1 f2 => ?_⟩
    · have : q ≠ p := fun z => h0.1 (z ▸ hq)
      simpa using this
    · rcases get_set e with ⟨rfl, e2, hl⟩ | ⟨ne, e2⟩
      · cases e2
        exact ⟨_, hs, ho.rep sub np⟩
      · obtain ⟨v, h1, h2⟩ := r.val j d' e2
        exact ⟨v, h1, h2.same (jS sub)⟩
    · rcases get_set e with ⟨rfl, e2, hl⟩ | ⟨ne, e2⟩
      · cases e2
      · obtain ⟨q, h1, h2, h3, h4⟩ := r.own j d' e2
        have hq : q ≠ p := fun z => by subst z; exact ne (r.sep i j d d' q he e2 hs h1)
        exact ⟨q, h1, List.mem_filter.mpr ⟨h2, by simpa using hq⟩, h3, h4.sub sub⟩
    · rcases get_set e1 with ⟨rfl, e1, _⟩ | ⟨ne1, e1⟩
      · cases e1
      rcases get_set e2 with ⟨rfl, e2, _⟩ | ⟨ne2, e2⟩
      · cases e2
      exact r.sep j k d1 d2 q e1 e2 f1 f2
  · exact ⟨O, r⟩
theorem SR.base (r : SR K F O ρ σ H) : SR K { F with V0 := hide O H } O ρ σ H := ⟨r.hb, Same.refl _, r.oc, r.dom, r.len, r.val, r.own, r.sep⟩
theorem SR.back {V : Hp} (r : SR K { F with V0 := V } O ρ σ H) (s : Same F.V0 V) : SR K F O ρ σ H := ⟨r.hb, s.trans r.vb, r.oc, r.dom, r.len, r.val, r.own, r.sep⟩
end
def zhn (K : Frag) (F : Fx) (D : Ends) : Out → Prop
  | .nxt ρ => ∀ O σ H, SR K F O ρ σ H → D.nx σ H
  | .ret d => ∀ v H, Same F.H0 H → Rep K (hide F.Oc H) d v → D.rt v H
  | .brk ρ => ∀ O σ H, SR K F O ρ σ H → D.bk σ H
  | .cnt ρ => ∀ O σ H, SR K F O ρ σ H → D.ct σ H
def tSd (K : Frag) (g : GS) : TS := fun D σ H => ∃ F O ρ out, SR K F O ρ σ H ∧ g ρ = some out ∧ zhn K F D out
def PSd (X : Cx) (st : Stmt) (g : GS) : Prop := PS X st (tSd X.K g)
def PSsd (X : Cx) (st : List Stmt) (g : GS) : Prop := PSs X st (tSd X.K g)
section
variable {X : Cx} {st : Stmt} {rest : List Stmt} {g h : GS} {e : Expr} {pos : Pos}
theorem qz : PSsd X [] sNil := PSs.imp zfE fun D σ H ⟨F, O, ρ, out, r, e, k⟩ => by
  cases e
  exact k O σ H r
theorem zg (h1 : PSd X st g) (h2 : PSsd X rest h) : PSsd X (st :: rest) (sSeq g h) := PSs.imp (zef h1 h2) fun D σ H ⟨F, O, ρ, out, r, e, k⟩ => by
  obtain ⟨o1, e1, e2⟩ := Option.bind_eq_some_iff.mp e
  refine ⟨F, O, ρ, o1, r, e1, ?_⟩
  cases o1 with
  | nxt ρ' => exact fun O' σ' H' r' => ⟨F, O', ρ', out, r', e2, k⟩
  | ret d => cases e2; exact k
  | brk ρ' => cases e2; exact k
  | cnt ρ' => cases e2; exact k
theorem zn (h1 : PSd X st g) : PSsd X [st] g := PSs.imp (zfP h1) fun _ _ _ q => q
theorem zfw (i : Nat) (h1 : PSd X st g) : PSd X st (fun ρ => g (frz i ρ)) := PS.imp h1 fun D σ H ⟨F, O, ρ, out, r, e, k⟩ => by
  obtain ⟨O', r'⟩ := r.frz i
  exact ⟨F, O', _, out, r', e, k⟩
theorem zfS {ge : Env' → Option D} (he : PD X e ge) : PSd X (.Return (some e) pos) (fun ρ => (ge ρ).map Out.ret) := PS.imp (zgB he) fun D σ H ⟨F, O, ρ, out, r, e, k⟩ => by
  obtain ⟨d, e1, e2⟩ := Option.map_eq_some_iff.mp e
  subst e2
  exact ⟨F, O, ρ, d, r, e1, fun v H' s b => k v H' (r.hb.trans s) (b.same (jS fun p hp => r.oc p hp))⟩
def tGd (K : Frag) (h : GT) : TG := fun v σ H Q => ∃ F O ρ d ρ', SR K F O ρ σ H ∧ Rep K (hide O H) d v ∧ h d ρ = some ρ' ∧ ∀ σ', SR K F O ρ' σ' H → Q σ' H
def tGds (K : Frag) (h : List D → Env' → Option Env') : TGs := fun vs σ H Q => ∃ F O ρ ds ρ', SR K F O ρ σ H ∧ Reps K (hide O H) ds vs ∧ h ds ρ = some ρ' ∧ ∀ σ', SR K F O ρ' σ' H → Q σ' H
def PGd (X : Cx) (tg : Expr) (h : GT) : Prop := PG X tg (tGd X.K h)
def PGds (X : Cx) (tgs : List Expr) (h : List D → Env' → Option Env') : Prop := PGs X tgs (tGds X.K h)
theorem PG.imp {tg : Expr} {t t' : TG} (h : PG X tg t) (k : ∀ v σ H Q, t' v σ H Q → t v σ H Q) : PG X tg t' := fun pins s σ H v u Q I r q => h pins s σ H v u Q I r (k v σ H Q q)
theorem PGs.imp {tg : List Expr} {t t' : TGs} (h : PGs X tg t) (k : ∀ v σ H Q, t' v σ H Q → t v σ H Q) : PGs X tg t' := fun pins s σ H v u Q I r q => h pins s σ H v u Q I r (k v σ H Q q)
theorem ze {i : Nat} {x : Str} (h : PG X (.Name x pos) (kR i)) : PGd X (.Name x pos) (hName i) := PG.imp h fun v σ H Q ⟨F, O, ρ, d, ρ', r, b, e, k⟩ => by
  cases e
  exact k _ (r.setVal b)
theorem jv : PGds X [] hNil := PGs.imp zfG fun vs σ H Q ⟨F, O, ρ, ds, ρ', r, b, e, k⟩ => by
  unfold hNil at e
  split at e
  · cases e; cases b; exact ⟨rfl, k _ r⟩
  · cases e
theorem zo {tg : Expr} {tgs : List Expr} {h : GT} {hk : List D → Env' → Option Env'} (h1 : PGd X tg h) (h2 : PGds X tgs hk) (hs : (assignEach (tg :: tgs) X.env).map (·.2) = assign tg X.env :: (assignEach tgs X.env).map (·.2) := by rfl) : PGds X (tg :: tgs) (zy h hk) :=
  PGs.imp (zdQ h1 h2 hs) fun vs σ H Q ⟨F, O, ρ, ds, ρ', r, b, e, k⟩ => by
    unfold zy at e
    split at e
    · rename_i d rest
      obtain ⟨ρ1, e1, e2⟩ := Option.bind_eq_some_iff.mp e
      cases b with
      | cons b bs =>
        refine ⟨_, _, rfl, F, O, ρ, _, ρ1, r, b, e1, fun σ1 r1 => ?_⟩
        exact ⟨F, O, ρ1, _, ρ', r1, bs, e2, k⟩
    · cases e
theorem jW {tgs : List Expr} {kk : Nat} {n : Nat} {hk : List D → Env' → Option Env'} (hc : X.calm = true) (h : PGds X tgs hk) (hn : (assignEach tgs X.env).length = n := by rfl) (hst : (assignEach tgs X.env).findIdx? (·.1) = none := by rfl) :
    PGd X (.Tuple tgs kk pos) (hTup n hk) := PG.imp (zhb hc h hn hst) fun v σ H Q ⟨F, O, ρ, d, ρ', r, b, e, k⟩ => by
  unfold hTup at e
  split at e
  · split at e
    · rename_i ds hl
      obtain ⟨a, xs, rfl, sq, rs⟩ := (RepB.val b).tup
      exact ⟨a, xs, rfl, sq, by rw [← rs.length]; exact hl, F, O, ρ, ds, ρ', r, rs, e, k⟩
    · cases e
  · cases e
theorem zgi {h : GT} {ge : Env' → Option D} {D : Ends} {σ : St} {H : Hp} (q : tSd X.K (sAsg h ge) D σ H) : tAsg (tD X.K ge) (tGd X.K h) D σ H := by
  obtain ⟨F, O, ρ, out, r, e, k⟩ := q
  obtain ⟨d, e1, e2⟩ := Option.bind_eq_some_iff.mp e
  obtain ⟨ρ', e3, e4⟩ := Option.map_eq_some_iff.mp e2
  subst e4
  exact ⟨F, O, ρ, d, r, e1, fun v H' s b => ⟨F, O, ρ, d, ρ', r.same s, b, e3, fun σ' r' => k O σ' H' r'⟩⟩
theorem zgh {tg : Expr} {h : GT} {ge : Env' → Option D} (hg : PGd X tg h) (he : PD X e ge) (hs : swapsWithSole [tg] e pos.line X.env = pure false := by rfl) (hw : swappedStores [tg] e X.env = pure none := by rfl)
    (h1 : (assignEach [tg] X.env).map (·.2) = [assign tg X.env] := by rfl) : PSd X (.Assign [tg] e pos) (sAsg h ge) := PS.imp (zaz he hg hs hw h1) fun _ _ _ q => zgi q
theorem zch {i : Nat} {ge : Env' → Option (List D)} {D : Ends} {σ : St} {H : Hp} (q : tSd X.K (sOwn i ge) D σ H) : tAsg (tFr X.K ge) (kR i) D σ H := by
  obtain ⟨F, O, ρ, out, r, e, k⟩ := q
  obtain ⟨ds, e1, e2⟩ := Option.map_eq_some_iff.mp e
  subst e2
  refine ⟨F, O, ρ, ds, r, e1, fun p xs H1 s hp b => ?_⟩
  refine k (p :: O) _ _ ((r.same s).newOwn hp (.lst zL ?_))
  rw [zQ List.mem_cons_self, ql hp]
  exact b
theorem zfg {tg : Expr} {i : Nat} {ge : Env' → Option (List D)} (hg : PG X tg (kR i)) (he : PFr X e ge) (hs : swapsWithSole [tg] e pos.line X.env = pure false := by rfl) (hw : swappedStores [tg] e X.env = pure none := by rfl)
    (h1 : (assignEach [tg] X.env).map (·.2) = [assign tg X.env] := by rfl) : PSd X (.Assign [tg] e pos) (sOwn i ge) := PS.imp (zaz he hg hs hw h1) fun _ _ _ q => zch q
theorem zaD {K : Frag} {H : Hp} {ds : List D} {xs : List V} (r : Reps K H ds xs) : (!ds.isEmpty) = !xs.isEmpty := by cases r <;> rfl
theorem zgV {K : Frag} {O : List Addr} {H : Hp} {d : D} {v : V} {b : Bool} (r : RepB K O H d v) (e : ze0 d = some b) : TruV K v H b := by
  cases d with
  | none => cases r.non; cases e; rfl
  | bool c => cases r.bl; cases e; rfl
  | int i => cases r.int; cases e; rfl
  | str y =>
    cases r.str
    have e : (if y.length ≤ sizeLine then some ((y.length : Int) != 0) else none) = some b := e
    split at e
    · cases e; exact ⟨by assumption, rfl⟩
    · cases e
  | list ds =>
    obtain ⟨a, xs, rfl, sq, rs⟩ := r.lst
    cases e
    exact .inl ⟨xs, sq, zaD rs⟩
  | tuple ds =>
    obtain ⟨a, xs, rfl, sq, rs⟩ := r.tup
    cases e
    exact .inr (.inl ⟨xs, sq, zaD rs⟩)
  | dict _ => cases e
theorem zfy {g : Env' → Option D} (h : PB X e g) (he : ∀ whole, isTrue e X.env whole = (do let v ← whole; standAt e.pos; holding [v] (truthy v)) := by intro _; rfl) : PTd X e (gTr g) :=
  PT.imp (zeN h he) fun σ H Q ⟨F, O, ρ, b, r, e, k⟩ => by
    obtain ⟨d, e1, e2⟩ := Option.bind_eq_some_iff.mp e
    exact ⟨F, O, ρ, d, r, e1, fun v H' s rb => ⟨b, zgV rb e2, k H' s⟩⟩
theorem yJ {d : D} {b : Bool} (h : zbp d = some b) : d = .bool b := by
  cases d <;> first | (cases h; rfl) | cases h
theorem wv {K : Frag} {H : Hp} {b : Bool} {v : V} (h : Rep K H (.bool b) v) : v = .bl b := by cases h; rfl
theorem jL {a b : Expr} {op : CmpOp} {h : D → D → Option D} {ga gb : Env' → Option D} (ho : OpD X (compareOp op) h) (ha : PB X a ga) (hb : PB X b gb) (hm : behindInMarks op b = false) : PTd X (.Compare a [op] [b] pos) (gBo (g2 h ga gb)) :=
  PT.imp (zgf ho.r ha hb hm) fun σ H Q ⟨F, O, ρ, b, r, e, k⟩ => by
    obtain ⟨d, e1, e2⟩ := Option.bind_eq_some_iff.mp e
    cases yJ e2
    exact zcj (Q := fun x H' => ∃ k, x = .bl k ∧ Q k H') ⟨F, O, ρ, _, r, e1, fun v H' s rb => ⟨b, wv rb, k H' s⟩⟩
def PWd (X : Cx) (e : Expr) (g : Env' → Option Bool) : Prop := PW X e (tTd X.K g)
theorem PW.imp {e : Expr} {t t' : TT} (h : PW X e t) (k : ∀ σ H Q, t' σ H Q → t σ H Q) : PW X e t' := fun wh pins s σ H Q I q => h wh pins s σ H Q I (k σ H Q q)
theorem PWd.t {g : Env' → Option Bool} (h : PWd X e g) : PTd X e g := h.pt
section
variable {a b : Expr} {rest : List Expr} {gt ht : Env' → Option Bool}
theorem zax (ha : PTd X a gt) : PWd X (.BoolOp .And [a] pos) gt := zf0 ha
theorem zc1 (ha : PTd X a gt) (hb : PWd X (.BoolOp .And (b :: rest) pos) ht) : PWd X (.BoolOp .And (a :: b :: rest) pos) (zbt gt ht) := PW.imp (zgp ha hb) fun σ H Q ⟨F, O, ρ, c, r, e, k⟩ => by
  obtain ⟨b1, e1, e2⟩ := Option.bind_eq_some_iff.mp e
  refine ⟨F, O, ρ, b1, r, e1, fun H1 s1 => ?_⟩
  cases b1 with
  | true => exact iteT ⟨F, O, ρ, c, r.same s1, e2, fun H2 s2 => k H2 (s1.trans s2)⟩
  | false => cases e2; exact iteF (k H1 s1)
theorem za2 {g : Env' → Option D} {ρ : Env'} {b : Bool} (e : gBo g ρ = some b) : g ρ = some (.bool b) := by
  obtain ⟨d, e1, e2⟩ := Option.bind_eq_some_iff.mp e
  rw [yJ e2] at e1
  exact e1
variable {ga gb : Env' → Option D}
theorem zgL {op} (ha : PD X a ga) : PD X (.BoolOp op [a] pos) ga := zgX ha
theorem zfd (ha : PD X a ga) (hb : PD X (.BoolOp .And (b :: rest) pos) gb) : PD X (.BoolOp .And (a :: b :: rest) pos) (zcW ga gb) := PE.imp (zg8 ha hb) fun σ H Q ⟨F, O, ρ, c, r, e, k⟩ => by
  obtain ⟨b1, e1, e2⟩ := Option.bind_eq_some_iff.mp e
  refine ⟨F, O, ρ, _, r, za2 e1, fun v H1 s1 rb => ⟨b1, wv rb, ?_⟩⟩
  cases b1 with
  | true => exact iteT ⟨F, O, ρ, c, r.same s1, e2, fun v H2 s2 => k v H2 (s1.trans s2)⟩
  | false => cases e2; exact iteF (k _ H1 s1 (.bl false))
theorem zgq (ha : PD X a ga) : PD X (.UnaryOp .Not a pos) (zee ga) := PE.imp (zgw ha) fun σ H Q ⟨F, O, ρ, c, r, e, k⟩ => by
  obtain ⟨b1, e1, e2⟩ := Option.map_eq_some_iff.mp e
  subst e2
  exact ⟨F, O, ρ, _, r, za2 e1, fun v H1 s1 rb => ⟨b1, wv rb, k _ H1 s1 (.bl _)⟩⟩
theorem zhA {c : Expr} (hc : PTd X c gt) (ha : PD X a ga) (hb : PD X b gb) : PD X (.IfExp c a b pos) (gIf gt ga gb) := PE.imp (zeQ hc ha hb) fun σ H Q ⟨F, O, ρ, c, r, e, k⟩ => by
  obtain ⟨b1, e1, e2⟩ := Option.bind_eq_some_iff.mp e
  refine ⟨F, O, ρ, b1, r, e1, fun H1 s1 => ?_⟩
  cases b1 with
  | true => exact iteT ⟨F, O, ρ, c, r.same s1, e2, fun v H2 s2 => k v H2 (s1.trans s2)⟩
  | false => exact iteF ⟨F, O, ρ, c, r.same s1, e2, fun v H2 s2 => k v H2 (s1.trans s2)⟩
end
theorem ya {c : Expr} {a b : List Stmt} {gt : Env' → Option Bool} (hc : PTd X c gt) (ha : PSsd X a g) (hb : PSsd X b h) : PSd X (.If c a b pos) (sIf gt g h) := PS.imp (zhh hc ha hb) fun D σ H ⟨F, O, ρ, out, r, e, k⟩ => by
  obtain ⟨b1, e1, e2⟩ := Option.bind_eq_some_iff.mp e
  refine ⟨F, O, ρ, b1, r, e1, fun H1 s1 => ?_⟩
  cases b1 with
  | true => exact iteT ⟨F, O, ρ, out, r.same s1, e2, k⟩
  | false => exact iteF ⟨F, O, ρ, out, r.same s1, e2, k⟩
end
end L2.Y
namespace L2.Y
open PySem PySem.Spec PyProof.Rows
inductive Yield (K : Frag) (B : Hp) (H : Hp) : D → V → Hp → Prop
  | old {d : D} {x : V} : (∀ O, Same B (hide O H) → Dom O H → Rep K (hide O H) d x) → Yield K B H d x H
  | new {ds : List D} {ys : List V} {p : Addr} : H p = none → Reps K B ds ys → Yield K B H (.tuple ds) (.ref p) (upd H p (.tup ys))
structure ItD (K : Frag) (B : Hp) (J : It) (ds : List D) : Prop where
  go : ∀ i H, Same B H → i < ds.length → J.go i H
  yld : ∀ i H x H' d, Same B H → ds[i]? = some d → J.yld i H x H' → Yield K B H d x H'
  stop : ∀ H, Same B H → J.stop ds.length H
def tId (K : Frag) (g : Env' → Option (List D)) : TI := fun σ H R => ∃ F O ρ ds, SR K F O ρ σ H ∧ g ρ = some ds ∧ ∀ J H', Same H H' → ItD K (hide O H') J ds → R J H'
def PId (X : Cx) (tg iter : Expr) (g : Env' → Option (List D)) : Prop := PI X tg iter (tId X.K g)
theorem PI.imp {X : Cx} {tg iter : Expr} {t t' : TI} (h : PI X tg iter t) (k : ∀ σ H R, t' σ H R → t σ H R) : PI X tg iter t' := fun pins s σ H R I q => h pins s σ H R I (k σ H R q)
section
variable {K : Frag} {B H : Hp}
theorem zfj {a : Addr} {xs : List V} {ds : List D} (sq : SqT K B a xs) (rs : Reps K B ds xs) : ItD K B (Itt K a) ds where
  go := fun i H s hi => by
    obtain ⟨v, hv, _⟩ := rs.get (i := i) (d := ds[i]) (by simp [hi])
    exact ⟨xs, v, SqT.same s sq, hv⟩
  yld := fun i H x H' d s hd y => by
    obtain ⟨rfl, y⟩ := y
    have hx := y xs (SqT.same s sq)
    obtain ⟨d', h1, h2⟩ := rs.getV hx
    rw [hd] at h1; cases h1
    exact .old fun O sm _ => h2.same sm
  stop := fun H s => ⟨xs, SqT.same s sq, by rw [rs.length]; exact Nat.le_refl _⟩
theorem zgd {a : Addr} {xs : List V} {ds : List D} (sq : SqL K B a xs) (rs : Reps K B ds xs) : ItD K B (Itl K a) ds where
  go := fun i H s hi => by
    obtain ⟨v, hv, _⟩ := rs.get (i := i) (d := ds[i]) (by simp [hi])
    exact ⟨xs, v, SqL.same s sq, hv⟩
  yld := fun i H x H' d s hd y => by
    obtain ⟨rfl, y⟩ := y
    have hx := y xs (SqL.same s sq)
    obtain ⟨d', h1, h2⟩ := rs.getV hx
    rw [hd] at h1; cases h1
    exact .old fun O sm _ => h2.same sm
  stop := fun H s => ⟨xs, SqL.same s sq, by rw [rs.length]; exact Nat.le_refl _⟩
theorem jR (lo : Int) (n : Nat) : (zu lo n).length = n := by simp [zu]
theorem zct (lo : Int) (n : Nat) : ItD K B (Itr lo n) (zu lo n) where
  go := fun i H s hi => by rw [jR] at hi; exact hi
  yld := fun i H x H' d s hd y => by
    obtain ⟨rfl, rfl⟩ := y
    have hi : i < n := by
      have := (List.getElem?_eq_some_iff.mp hd).1
      rw [jR] at this
      exact this
    have e : (zu lo n)[i]? = some (.int (lo + i)) := by simp [zu, hi]
    rw [hd] at e; cases e
    exact .old fun _ _ _ => .int _
  stop := fun H s => by rw [jR]; exact Nat.le_refl _
end
section
variable {X : Cx} {tg e : Expr} {pos p : Pos} {ge : Env' → Option D}
theorem jo (h : PD X e ge) : PId X tg e (gIt seqD ge) := by
  intro pins s σ H R I ⟨F, O, ρ, ds, r, e, k⟩
  obtain ⟨d, e1, e2⟩ := Option.bind_eq_some_iff.mp e
  refine thn (h pins s σ H (fun v H1 => Same H H1 ∧ Rep X.K (hide O H1) d v) I ⟨F, O, ρ, d, r, e1, fun v H1 s1 rb => ⟨s1, rb⟩⟩) fun v s1 ⟨x, H1, I1, r1, sm, rb⟩ => ?_
  cases d with
  | tuple es =>
    cases e2
    cases rb with
    | tup sq rs =>
      rename_i a xs
      obtain rfl : v = Value.ref a := r1
      have sq' : SqT X.K (hide O H1) a xs := .inl (.inl sq)
      obtain ⟨its, rv, p, hz⟩ := I1.tuple (SqT.same jk sq')
      refine wpAny_pyIter_tuple (show s1.heap.IsTuple a its.toArray from p) ?_
      refine ⟨s1.heap.objs.size, [s1.heap.objs.size], _, _, H1, rfl, I1.kept (t' := s1.toks) fun b o e => Heap.get?_push_of_some _ e, zbo a _, ⟨_, Heap.get?_push_size _ rfl, rfl, rfl⟩, fun b hb => ?_, k _ H1 sm (zfj sq' rs)⟩
      have e : b = s1.heap.objs.size := by simpa using hb
      subst e
      exact I1.fpOk (Nat.le_refl _) (I1.hok.fresh (Nat.le_refl _))
  | list es =>
    cases e2
    cases rb with
    | lst sq rs =>
      rename_i a xs
      obtain rfl : v = Value.ref a := r1
      obtain ⟨its, rv, p, hz⟩ := I1.list (SqL.same jk (.inl sq))
      refine wpAny_pyIter_list p.isList ?_
      refine ⟨s1.heap.objs.size, [s1.heap.objs.size], _, _, H1, rfl, I1.kept (t' := s1.toks) fun b o e => Heap.get?_push_of_some _ e, zb3 a _, ⟨_, Heap.get?_push_size _ rfl, rfl, rfl⟩, fun b hb => ?_, k _ H1 sm (zgd (.inl sq) rs)⟩
      have e : b = s1.heap.objs.size := by simpa using hb
      subst e
      exact I1.fpOk (Nat.le_refl _) (I1.hok.fresh (Nat.le_refl _))
  | _ => cases e2
theorem vd {a : Expr} {ga : Env' → Option (List D)} (hg : Gl X "range") (hm : X.mg "range" = none) (ha : PAd X [a] ga) (hs : starEach [a] X.env = [(false, eval a X.env)] := by rfl) :
    PId X tg (.Call (.Name "range" p) [a] [] pos) (gItA wq ga) := PI.imp (zcR (tg := tg) hg hm ha hs) fun σ H R ⟨F, O, ρ, ds, r, e, k⟩ => by
  obtain ⟨as, e1, e2⟩ := Option.bind_eq_some_iff.mp e
  refine ⟨F, O, ρ, as, r, e1, fun vs H1 s1 rb => ?_⟩
  unfold wq at e2
  split at e2
  · split at e2
    · rename_i j hj
      cases e2
      obtain ⟨v, rfl, rv⟩ := rb.inv1
      cases rv
      exact ⟨j, rfl, hj.1, hj.2, k _ H1 s1 (zct 0 _)⟩
    · cases e2
  · cases e2
theorem xO {a b : Expr} {ga : Env' → Option (List D)} (hg : Gl X "range") (hm : X.mg "range" = none) (ha : PAd X [a, b] ga) (hs : starEach [a, b] X.env = [(false, eval a X.env), (false, eval b X.env)] := by rfl) (hs2 : starEach [b] X.env = [(false, eval b X.env)] := by rfl) :
    PId X tg (.Call (.Name "range" p) [a, b] [] pos) (gItA wl ga) := PI.imp (zcA (tg := tg) hg hm ha hs hs2) fun σ H R ⟨F, O, ρ, ds, r, e, k⟩ => by
  obtain ⟨as, e1, e2⟩ := Option.bind_eq_some_iff.mp e
  refine ⟨F, O, ρ, as, r, e1, fun vs H1 s1 rb => ?_⟩
  unfold wl at e2
  split at e2
  · split at e2
    · rename_i i j hj
      cases e2
      cases rb with
      | cons r1 rb =>
        obtain ⟨v, rfl, rv⟩ := rb.inv1
        cases r1
        cases rv
        exact ⟨i, j, rfl, hj, k _ H1 s1 (zct i _)⟩
    · cases e2
  · cases e2
theorem zas {K : Frag} {F : Fx} {O : List Addr} {ρ : Env'} {σ : St} {H H' : Hp} {d : D} {x : V} (r : SR K F O ρ σ H) (y : Yield K F.V0 H d x H') : Same H H' ∧ SR K F O ρ σ H' ∧ Rep K (hide O H') d x := by
  cases y with
  | old h => exact ⟨Same.refl _, r, h O r.vb r.dom⟩
  | new hp rs => exact ⟨zK hp, r.same (zK hp), qZ hp (r.fresh hp) (rs.same r.vb)⟩
theorem zfu {K : Frag} {g : Env' → Option (List D)} {h : GT} {gb : GS} {D : Ends} {σ : St} {H : Hp} (q : tSd K (sFor g h gb) D σ H) : tFor (tId K g) (tGd K h) (tSd K gb) D σ H := by
  obtain ⟨F, O, ρ, out, r, e, k⟩ := q
  obtain ⟨ds, e1, e2⟩ := Option.bind_eq_some_iff.mp e
  refine ⟨F, O, ρ, ds, r, e1, fun J H1 s1 it => ?_⟩
  have r1 := r.same s1
  have sb : Same F.V0 (hide O H1) := r1.vb
  refine ⟨fun i m σ H => m = ds.length - i ∧ i ≤ ds.length ∧ ∃ O' ρ', SR K { F with V0 := hide O H1 } O' ρ' σ H ∧ forF h gb (ds.drop i) ρ' = some out, ⟨ds.length, rfl, Nat.zero_le _, O, ρ, r1.base, e2⟩, ?_⟩
  rintro i m σ2 H2 ⟨rfl, hi, O', ρ', r2, e3⟩
  have sB : Same (hide O H1) H2 := r2.vb.trans jk
  by_cases hlt : i < ds.length
  · refine .inr ⟨it.go i H2 sB hlt, ?_⟩
    rw [List.drop_eq_getElem_cons hlt] at e3
    obtain ⟨ρ3, e4, e5⟩ := Option.bind_eq_some_iff.mp e3
    obtain ⟨o1, e6, e7⟩ := Option.bind_eq_some_iff.mp e5
    refine ⟨fun σ' H' => ∃ O' ρ', SR K { F with V0 := hide O H1 } O' ρ' σ' H' ∧ forF h gb (ds.drop (i + 1)) ρ' = some out, fun σ' H' ⟨O4, ρ4, r4, e8⟩ => ⟨ds.length - (i + 1), by omega, rfl, hlt, O4, ρ4, r4, e8⟩, fun x H' y => ?_⟩
    obtain ⟨s5, r5, b5⟩ := zas r2 (it.yld i H2 x H' ds[i] sB (by simp [hlt]) y)
    refine ⟨_, O', ρ', ds[i], ρ3, r5, b5, e4, fun σ' r6 => ⟨_, O', ρ3, o1, r6, e6, ?_⟩⟩
    cases o1 with
    | nxt ρ7 => exact fun O8 σ8 H8 r8 => ⟨O8, ρ7, r8, e7⟩
    | cnt ρ7 => exact fun O8 σ8 H8 r8 => ⟨O8, ρ7, r8, e7⟩
    | brk ρ7 => cases e7; exact fun O8 σ8 H8 r8 => k O8 σ8 H8 (r8.back sb)
    | ret d => cases e7; exact k
  · have ei : i = ds.length := by omega
    subst ei
    rw [List.drop_length] at e3
    cases e3
    exact .inl ⟨it.stop H2 sB, k O' σ2 H2 (r2.back sb)⟩
theorem jm {iter : Expr} {body : List Stmt} {g : Env' → Option (List D)} {h : GT} {gb : GS} (hp : PassesOwn (model X.prog X.w) X.A X.env X.xe) (hc : X.calm = true) (hi : PId X tg iter g) (hg : PGd X tg h) (hb : PSsd X body gb)
    (hs : ∀ x, foldedSetIterable iter X.env x = pure x := by intro _; rfl) : PSd X (.For tg iter body [] pos) (sFor g h gb) := PS.imp (zhd hp hc hi hg hb hs) fun _ _ _ q => zfu q
theorem ku {i : Nat} {ρ : Env'} {ds : List D} (h : ownL i ρ = some ds) : ρ[i]? = some (some (.own (.list ds))) := by
  unfold ownL at h
  split at h
  · cases h; assumption
  · cases h
end
end L2.Y
namespace L2.Y
open PySem PySem.Spec PyProof.Rows
section
variable {X : Cx} {pins : List (Addr × Obj)} {σ : St} {H : Hp} {s : Shared}
mutual
theorem Rep.reads (I : Inv X pins σ H s) : ∀ {d : D} {v : V} {u : Value}, Rep X.K H d v → RelV v u → d.canLay0 = true → ∃ as, Reads s.heap u d as
  | _, _, _, .non, r, _ => by cases r; exact ⟨_, .none⟩
  | _, _, _, .bl b, r, _ => by cases r; exact ⟨_, .bool b⟩
  | _, _, _, .int i, r, _ => by obtain ⟨t, rfl⟩ := r; exact ⟨_, .int i t⟩
  | _, _, _, .str x, r, _ => by obtain ⟨t, rfl⟩ := r; exact ⟨_, .str x t⟩
  | _, _, _, .tup h rs, r, hc => by
    cases r
    obtain ⟨its, rv, ⟨o, e, c, n, dd⟩, _⟩ := I.tuple (.inl (.inl h))
    obtain ⟨as, q⟩ := Reps.reads I rs rv (by simpa [PyData.canLay0] using hc)
    exact ⟨_, .tuple e c dd (by simpa using q)⟩
  | _, _, _, .lst h rs, r, hc => by
    cases r
    obtain ⟨its, rv, ⟨o, n, e, c, _, dd⟩, _⟩ := I.list (SqL.same (Same.refl _) (.inl h))
    obtain ⟨as, q⟩ := Reps.reads I rs rv (by simpa [PyData.canLay0] using hc)
    exact ⟨_, .list e c dd (by simpa using q)⟩
  | _, _, _, .dK _ _, _, hc => by simp [PyData.canLay0] at hc
  | _, _, _, .dT _ _, _, hc => by simp [PyData.canLay0] at hc
  | _, _, _, .dF _ _, _, hc => by simp [PyData.canLay0] at hc
  | _, _, _, .scr _ _, _, hc => by simp [PyData.canLay0] at hc
theorem Reps.reads (I : Inv X pins σ H s) : ∀ {ds : List D} {vs : List V} {us : List Value}, Reps X.K H ds vs → Vals vs us → PyData.canLayAll0 ds = true → ∃ as, ReadsAll s.heap us ds as
  | _, _, _, .nil, r, _ => by cases r; exact ⟨_, .nil⟩
  | _, _, _, .cons h rs, r, hc => by
    cases r with
    | cons r rr =>
      simp only [PyData.canLayAll0, Bool.and_eq_true] at hc
      have hc' := hc
      obtain ⟨as, q⟩ := Rep.reads I h r hc'.1
      obtain ⟨bs, q'⟩ := Reps.reads I rs rr hc'.2
      exact ⟨_, .cons q q'⟩
end
theorem RepB.full {K : Frag} {O : List Addr} {d : D} {v : V} (h : RepB K O H d v) : Rep K H d v := by
  cases h with
  | val h => exact h.same jk
  | own _ h =>
    cases h with
    | lst h r => exact .lst (.inl h) (r.same jk)
    | dK h r => exact .dK h (r.same jk)
    | dT h r => exact .dT h (r.same jk)
theorem RepB.reads {O : List Addr} {d : D} {v : V} {u : Value} (I : Inv X pins σ H s) (h : RepB X.K O H d v) (r : RelV v u) (hc : d.canLay0 = true) : ∃ as, Reads s.heap u d as := h.full.reads I r hc
end
section
variable {X : Cx}
theorem vg {pins : List (Addr × Obj)} {σ : St} {H : Hp} {s : Shared} {O : List Addr} {b : Bool} {Q : VK} (I : Inv X pins σ H s) (k : ∀ z H', Same H H' → Rep X.K (hide O H') (.bool b) z → Q z H') : EP X pins σ Q (.bool b) s :=
  ⟨.bl b, H, I, rfl, k _ H (Same.refl _) (.bl b)⟩
theorem zfa {pins : List (Addr × Obj)} {σ : St} {H : Hp} {s : Shared} {O : List Addr} {i : Int} {t : Tok} {Q : VK} (I : Inv X pins σ H s) (k : ∀ z H', Same H H' → Rep X.K (hide O H') (.int i) z → Q z H') : EP X pins σ Q (.int i t) s :=
  ⟨.int i, H, I, ⟨t, rfl⟩, k _ H (Same.refl _) (.int i)⟩
theorem wW (hu : X.A.units + 64 < cLine) : OpD X (compareOp .Eq) eqD := by
  intro pins s σ H O x y v u dx dy d Q I hO rx ry bx by' e k
  unfold eqD at e
  split at e
  · rename_i hs
    obtain ⟨h1, h2⟩ := Bool.and_eq_true_iff.mp hs
    cases e
    obtain ⟨as, ra⟩ := bx.reads I rx (SeqAt.canLay_of_shaped h1)
    obtain ⟨bs, rb⟩ := by'.reads I ry (SeqAt.canLay_of_shaped h2)
    exact SeqAt.compareEq_shaped ra rb h1 h2 hu (vg I k)
  · cases e
theorem zar (hu : X.A.units + 64 < cLine) : OpD X (compareOp .NotEq) neD := by
  intro pins s σ H O x y v u dx dy d Q I hO rx ry bx by' e k
  unfold neD at e
  split at e
  · rename_i hs
    obtain ⟨h1, h2⟩ := Bool.and_eq_true_iff.mp hs
    cases e
    obtain ⟨as, ra⟩ := bx.reads I rx (SeqAt.canLay_of_shaped h1)
    obtain ⟨bs, rb⟩ := by'.reads I ry (SeqAt.canLay_of_shaped h2)
    exact SeqAt.compareNe_shaped ra rb h1 h2 hu (vg I k)
  · cases e
theorem zcy {d : D} {k : Key} (h : keyQ d = some k) : d = keyD k := by
  cases d <;> first | (cases h; rfl) | cases h
theorem kT : ∀ {ds : List D} {ks : List Key}, ds.mapM keyQ = some ks → ds = ks.map keyD
  | [], ks, h => by cases h; rfl
  | d :: ds, ks, h => by
    rw [List.mapM_cons] at h
    obtain ⟨k, h1, h⟩ := Option.bind_eq_some_iff.mp h
    obtain ⟨r, h2, h⟩ := Option.bind_eq_some_iff.mp h
    cases h
    rw [zcy h1, kT h2]; rfl
theorem yO {d : D} {ks : List Key} (h : zfF d = some ks) : d = xF ks := by
  cases d with
  | tuple ds => rw [kT (show ds.mapM keyQ = some ks from h)]; rfl
  | _ => cases h
theorem zer (a b : Key) : PyData.eqv (keyD a) (keyD b) = decide (a = b) := by
  cases a <;> cases b
  · rename_i i j
    by_cases e : i = j
    · subst e; simp [keyD, PyData.eqv]
    · simp [keyD, PyData.eqv, e]
  · simp [keyD, PyData.eqv]
  · simp [keyD, PyData.eqv]
  · rename_i i j
    by_cases e : i = j
    · subst e; simp [keyD, PyData.eqv]
    · simp [keyD, PyData.eqv, e]
theorem wL : ∀ (a b : List Key), PyData.eqvAll (a.map keyD) (b.map keyD) = decide (a = b)
  | [], [] => by simp [PyData.eqvAll]
  | [], _ :: _ => by simp [PyData.eqvAll]
  | _ :: _, [] => by simp [PyData.eqvAll]
  | x :: xs, y :: ys => by
    simp only [List.map_cons, PyData.eqvAll, zer, wL xs ys]
    by_cases e : x = y <;> by_cases e' : xs = ys <;> simp [e, e']
theorem kG (a b : List Key) : PyData.eqv (xF a) (xF b) = decide (a = b) := by
  unfold xF
  rw [show PyData.eqv (.tuple (a.map keyD)) (.tuple (b.map keyD)) = PyData.eqvAll (a.map keyD) (b.map keyD) from by simp only [PyData.eqv], wL]
section
variable {κ : Type} [DecidableEq κ] {f : κ → D} {K : Frag} {H : Hp}
theorem zaF (hf : ∀ a b, PyData.eqv (f a) (f b) = decide (a = b)) (k : κ) : ∀ {kvs : List (κ × V)} {ds : List D}, Reps K H ds (kvs.map (·.2)) →
    (∀ d, vn ((kvs.map fun p => f p.1).zip ds) (f k) = some d → ∃ v, valV kvs k = some v ∧ Rep K H d v) ∧ (vn ((kvs.map fun p => f p.1).zip ds) (f k) = none → valV kvs k = none)
  | [], _, r => by cases r; exact ⟨fun d h => (nomatch h), fun _ => rfl⟩
  | (k', v) :: kvs, _, r => by
    cases r with
    | cons r rr =>
      rename_i d ds
      have ih := zaF hf k rr
      have e1 : vn (((k', v) :: kvs).map (fun p => f p.1) |>.zip (d :: ds)) (f k) = if k' = k then some d else vn ((kvs.map fun p => f p.1).zip ds) (f k) := by
        simp only [List.map_cons, List.zip_cons_cons, vn, List.find?_cons, hf]
        by_cases e : k' = k <;> simp [e]
      rw [e1]
      by_cases e : k' = k
      · rw [if_pos e]
        exact ⟨fun d' h => by cases h; exact ⟨v, wz (p := (k', v)) e, r⟩, fun h => (nomatch h)⟩
      · rw [if_neg e, wu (p := (k', v)) e]
        exact ih
theorem zb8 (hf : ∀ a b, PyData.eqv (f a) (f b) = decide (a = b)) (k : κ) : ∀ {kvs : List (κ × V)} {ds : List D}, Reps K H ds (kvs.map (·.2)) →
    (((kvs.map fun p => f p.1).zip ds).any fun p => PyData.eqv p.1 (f k)) = kvs.any fun kv => decide (kv.1 = k)
  | [], _, r => by cases r; rfl
  | (k', v) :: kvs, _, r => by
    cases r with
    | cons r rr => simp only [List.map_cons, List.zip_cons_cons, List.any_cons, hf, zb8 hf k rr]
theorem zfJ (hf : ∀ a b, PyData.eqv (f a) (f b) = decide (a = b)) (k : κ) {y : D} {w : V} (ry : Rep K H y w) {kvs : List (κ × V)} {ds : List D} (r : Reps K H ds (kvs.map (·.2))) :
    ∃ ds', putD ((kvs.map fun p => f p.1).zip ds) (f k) y = ((putK kvs k w).map fun p => f p.1).zip ds' ∧ Reps K H ds' ((putK kvs k w).map (·.2)) := by
  have ha := zb8 (f := f) hf k r
  unfold putD putK
  rw [ha]
  by_cases e : (kvs.any fun kv => decide (kv.1 = k)) = true
  · rw [if_pos e, if_pos e]
    clear ha e
    have go : ∀ {kvs : List (κ × V)} {ds : List D}, Reps K H ds (kvs.map (·.2)) → ∃ ds', (((kvs.map fun p => f p.1).zip ds).map fun p => if PyData.eqv p.1 (f k) = true then (p.1, y) else p) =
        ((kvs.map fun kv => if kv.1 = k then (kv.1, w) else kv).map fun p => f p.1).zip ds' ∧ Reps K H ds' ((kvs.map fun kv => if kv.1 = k then (kv.1, w) else kv).map (·.2)) := by
      intro kvs
      induction kvs with
      | nil => intro ds r; cases r; exact ⟨[], rfl, .nil⟩
      | cons p kvs ih =>
        intro ds r
        obtain ⟨k', v⟩ := p
        cases r with
        | cons r rr =>
          rename_i d1 ds1
          obtain ⟨ds', e1, e2⟩ := ih rr
          by_cases e : k' = k
          · refine ⟨y :: ds', ?_, ?_⟩
            · simp only [List.map_cons, List.zip_cons_cons, e1, hf, e, decide_true, if_true]
            · simp only [List.map_cons, e, if_true]; exact .cons ry e2
          · refine ⟨d1 :: ds', ?_, ?_⟩
            · simp only [List.map_cons, List.zip_cons_cons, e1, hf, e, decide_false, Bool.false_eq_true, if_false]
            · simp only [List.map_cons, e, if_false]; exact .cons r e2
    exact go r
  · rw [if_neg e, if_neg e]
    refine ⟨ds ++ [y], ?_, ?_⟩
    · rw [List.map_append, List.zip_append (by rw [List.length_map, r.length, List.length_map])]; rfl
    · rw [List.map_append]; exact r.append (.cons ry .nil)
end
end
end L2.Y
namespace L2.Y
open PySem PySem.Spec PyProof.Rows
section
variable {X : Cx}
theorem ka {ds : List D} (h : ds.all SeqAt.shaped = true) : PyData.canLayAll0 ds = true ∧ PyData.depthAll ds ≤ 64 := by
  induction ds with
  | nil => exact ⟨rfl, Nat.zero_le _⟩
  | cons d ds ih =>
    simp only [List.all_cons, Bool.and_eq_true] at h
    obtain ⟨h1, h2⟩ := ih h.2
    have a := SeqAt.canLay_of_shaped h.1
    have b := SeqAt.depth_of_shaped h.1
    refine ⟨by simp only [PyData.canLayAll0, a, h1, Bool.and_self], ?_⟩
    simp only [PyData.depthAll]
    omega
theorem room_in {A : Around} {ds : List D} {x : D} (hu : A.units + 66 < cLine) (h : PyData.depthAll ds ≤ 64) : A.units + 1 + min (PyData.depthAll ds) x.depth < cLine := by
  have : min (PyData.depthAll ds) x.depth ≤ PyData.depthAll ds := Nat.min_le_left _ _
  omega
theorem zaT (hu : X.A.units + 66 < cLine) : OpD X (compareOp .In) inD := by
  intro pins s σ H O x y v u dx dy d Q I hO rx ry bx by' e k
  obtain ⟨b, e1, rfl⟩ := Option.map_eq_some_iff.mp e
  cases dy with
  | list ds =>
    have e1 : (if (ds.all SeqAt.shaped && SeqAt.shaped dx) = true then some (ds.any fun y => PyData.eqv y dx) else none) = some b := e1
    split at e1
    · rename_i hs
      obtain ⟨h1, h2⟩ := Bool.and_eq_true_iff.mp hs
      obtain ⟨c1, c2⟩ := ka h1
      cases e1
      obtain ⟨as, ra⟩ := bx.reads I rx (SeqAt.canLay_of_shaped h2)
      obtain ⟨bs, rb⟩ := by'.reads I ry (by simpa only [PyData.canLay0] using c1)
      exact SeqAt.in_list_reads rb ra c1 (SeqAt.canLay_of_shaped h2) (room_in hu c2) (vg I k)
    · cases e1
  | tuple ds =>
    have e1 : (if (ds.all SeqAt.shaped && SeqAt.shaped dx) = true then some (ds.any fun y => PyData.eqv y dx) else none) = some b := e1
    split at e1
    · rename_i hs
      obtain ⟨h1, h2⟩ := Bool.and_eq_true_iff.mp hs
      obtain ⟨c1, c2⟩ := ka h1
      cases e1
      obtain ⟨as, ra⟩ := bx.reads I rx (SeqAt.canLay_of_shaped h2)
      obtain ⟨bs, rb⟩ := by'.reads I ry (by simpa only [PyData.canLay0] using c1)
      exact SeqAt.in_tuple_reads rb ra c1 (SeqAt.canLay_of_shaped h2) (room_in hu c2) (vg I k)
    · cases e1
  | _ => cases e1
theorem zam {f : Value → Value → Sem Value} {C : Int → Int → Prop} {g : Int → Int → V} {h : D → D → Option D} (ho : OpR X f (rI C g)) (hd : ∀ dx dy d, h dx dy = some d → ∃ i j, dx = .int i ∧ dy = .int j ∧ C i j ∧ ∀ K H, Rep K H d (g i j)) : OpD X f h := by
  intro pins s σ H O x y v u dx dy d Q I hO rx ry bx by' e k
  obtain ⟨i, j, rfl, rfl, hc, r⟩ := hd dx dy d e
  cases bx.int
  cases by'.int
  exact ho pins s σ H _ _ v u Q I rx ry ⟨i, j, rfl, rfl, hc, k _ H (Same.refl _) (r _ _)⟩
theorem zgD {f : Value → Value → Sem Value} {g : Int → Int → V} (h : OpR X f (rI0 g)) : OpR X f (rI (fun _ _ => True) g) := fun pins s σ H x y v u Q I rx ry ⟨i, j, e1, e2, _, q⟩ => h pins s σ H x y v u Q I rx ry ⟨i, j, e1, e2, q⟩
theorem xx {f : Int → Int → Option D} {a b d : D} (h : ko f a b = some d) : ∃ i j, a = .int i ∧ b = .int j ∧ f i j = some d := by
  unfold ko at h
  split at h
  · exact ⟨_, _, rfl, rfl, h⟩
  · cases h
theorem zai : OpD X (binaryOp .Sub) subD := zam (zgD zgY) fun dx dy d h => by
  obtain ⟨i, j, rfl, rfl, e⟩ := xx h
  cases e
  exact ⟨i, j, rfl, rfl, trivial, fun _ _ => .int _⟩
theorem zeq : OpD X (binaryOp .FloorDiv) zdS := zam zga fun dx dy d h => by
  obtain ⟨i, j, rfl, rfl, e⟩ := xx h
  split at e
  · cases e; exact ⟨i, j, rfl, rfl, by assumption, fun _ _ => .int _⟩
  · cases e
theorem jw : OpD X (binaryOp .Mod) modD := zam zg9 fun dx dy d h => by
  obtain ⟨i, j, rfl, rfl, e⟩ := xx h
  split at e
  · cases e; exact ⟨i, j, rfl, rfl, by assumption, fun _ _ => .int _⟩
  · cases e
theorem zaM {pins : List (Addr × Obj)} {σ : St} {H : Hp} {s : Shared} {a : Addr} {xs : List V} (I : Inv X pins σ H s) (h : Rd H a (.lst xs)) : xs.length ≤ sizeLine ∧ ∃ its n, Vals xs its ∧ s.heap.get? a = some { cls := .type "list", data := .seq its.toArray n } := by
  obtain ⟨z, its, n, r, e⟩ := h.ok I.hok
  exact ⟨z, its, n, r, e⟩
end
end L2.Y
namespace L2.Y
open PySem PySem.Spec PyProof.Rows
section
variable {X : Cx}
theorem Inv.newL {pins : List (Addr × Obj)} {σ : St} {H : Hp} {s : Shared} {xs : List V} {its : List Value} (I : Inv X pins σ H s) (r : Vals xs its) (hz : xs.length ≤ sizeLine) (t' : Nat) :
    Inv X pins σ (upd H s.heap.objs.size (.lst xs)) { s with heap := s.heap.push { cls := .type "list", data := .seq its.toArray }, toks := t' } :=
  I.laid (t' := t') (fun b u e => Heap.get?_push_of_some _ e) (Nat.le_refl _) ⟨hz, its, 0, r, Heap.get?_push_size _ rfl⟩
theorem Inv.newT {pins : List (Addr × Obj)} {σ : St} {H : Hp} {s : Shared} {xs : List V} {its : List Value} (I : Inv X pins σ H s) (r : Vals xs its) (hz : xs.length ≤ sizeLine) (t' : Nat) :
    Inv X pins σ (upd H s.heap.objs.size (.tup xs)) { s with heap := s.heap.push { cls := .type "tuple", data := .seq its.toArray }, toks := t' } :=
  I.laid (t' := t') (fun b u e => Heap.get?_push_of_some _ e) (Nat.le_refl _) ⟨hz, its, r, IsTup.new _ _⟩
theorem zcq {pins : List (Addr × Obj)} {σ : St} {H : Hp} {s : Shared} {O : List Addr} {xs : List V} {its : List Value} {ds : List D} {Q : VK} {t' : Nat} (I : Inv X pins σ H s) (hO : Dom O H) (r : Vals xs its) (hz : xs.length ≤ sizeLine) (rs : Reps X.K (hide O H) ds xs)
    (k : ∀ z H', Same H H' → Rep X.K (hide O H') (.list ds) z → Q z H') : EP X pins σ Q (.ref s.heap.objs.size) { s with heap := s.heap.push { cls := .type "list", data := .seq its.toArray }, toks := t' } := by
  have hf : H s.heap.objs.size = none := I.hok.fresh (Nat.le_refl _)
  exact ⟨.ref s.heap.objs.size, _, Inv.newL I r hz t', rfl, k _ _ (zK hf) (wx hf (hO.out hf) rs)⟩
theorem zdm {pins : List (Addr × Obj)} {σ : St} {H : Hp} {s : Shared} {O : List Addr} {xs : List V} {its : List Value} {ds : List D} {Q : VK} {t' : Nat} (I : Inv X pins σ H s) (hO : Dom O H) (r : Vals xs its) (hz : xs.length ≤ sizeLine) (rs : Reps X.K (hide O H) ds xs)
    (k : ∀ z H', Same H H' → Rep X.K (hide O H') (.tuple ds) z → Q z H') : EP X pins σ Q (.ref s.heap.objs.size) { s with heap := s.heap.push { cls := .type "tuple", data := .seq its.toArray }, toks := t' } := by
  have hf : H s.heap.objs.size = none := I.hok.fresh (Nat.le_refl _)
  exact ⟨.ref s.heap.objs.size, _, Inv.newT I r hz t', rfl, k _ _ (zK hf) (qZ hf (hO.out hf) rs)⟩
theorem xM {O : List Addr} {H : Hp} {ds : List D} {v : V} (h : RepB X.K O H (.tuple ds) v) : Rep X.K (hide O H) (.tuple ds) v := by
  cases h with
  | val h => exact h
  | own _ h => cases h
theorem zr : OpD X (binaryOp .Add) addD := by
  intro pins s σ H O x y v u dx dy d Q I hO rx ry bx by' e k
  unfold addD at e
  split at e
  · rename_i i j
    cases e
    cases bx.int
    cases by'.int
    exact zgu pins s σ H _ _ v u Q I rx ry ⟨i, j, rfl, rfl, k _ H (Same.refl _) (.int _)⟩
  · rename_i i j
    split at e
    · rename_i hl
      cases e
      cases bx.str
      cases by'.str
      exact zbg pins s σ H _ _ v u Q I rx ry ⟨i, j, rfl, rfl, hl, k _ H (Same.refl _) (.str _)⟩
    · cases e
  · rename_i xs ys
    split at e
    · rename_i hl
      cases e
      obtain ⟨a, vx, rfl, sa, ra⟩ := bx.tup
      obtain ⟨b, vy, rfl, sb, rb⟩ := by'.tup
      obtain rfl : v = Value.ref a := rx
      obtain rfl : u = Value.ref b := ry
      obtain ⟨its, r1, p1, _⟩ := I.tuple sa
      obtain ⟨its2, r2, p2, _⟩ := I.tuple sb
      by_cases he : its = []
      · have : vx = [] := (r1.nil_iff).mp he
        subst this
        cases ra
        obtain ⟨⟨cls, dd, data, sl⟩, ho, hc, n, hd⟩ := id p1
        obtain ⟨⟨cls2, dd2, data2, sl2⟩, ho2, hc2, n2, hd2⟩ := id p2
        simp only at hc hd hc2 hd2
        subst hc hd hc2 hd2
        refine concat_meets ⟨_, ho, rfl⟩ ⟨_, ho2, rfl⟩ noFill_tuple_add seq_tuple_add PySem.F.slot_tuple_add PySem.F.entry_tuple_add (PySem.F.args_tuple_add_2 _ _)
          (tuple_addW0 a b its.toArray its2.toArray n n2 dd dd2 sl sl2 (by simp [he])) ⟨ho, ho2, ?_⟩
        exact ⟨.ref b, H, I, rfl, k _ H (Same.refl _) (xM by')⟩
      · refine HT.cat_tup p1 p2 he (fun z => ?_) (fun z => ?_) (by rw [← r1.length, ← r2.length, ← ra.length, ← rb.length]; exact hl)
        · have : vy = [] := (r2.nil_iff).mp z
          subst this
          cases rb
          rw [List.append_nil] at k
          exact ⟨.ref a, H, I, rfl, k _ H (Same.refl _) (xM bx)⟩
        · exact zdm (t' := s.toks) I hO (r1.append r2) (by rw [List.length_append, ← ra.length, ← rb.length]; exact hl) (ra.append rb) k
    · cases e
  · rename_i xs ys
    split at e
    · rename_i hl
      cases e
      obtain ⟨a, vx, rfl, sa, ra⟩ := bx.lstR
      obtain ⟨b, vy, rfl, sb, rb⟩ := by'.lstR
      obtain rfl : v = Value.ref a := rx
      obtain rfl : u = Value.ref b := ry
      obtain ⟨_, its, n, r1, e1⟩ := zaM I sa
      obtain ⟨_, its2, n2, r2, e2⟩ := zaM I sb
      refine PySem.P.add_list e1 e2 ?_ (by rw [List.size_toArray, List.size_toArray, ← r1.length, ← r2.length, ← ra.length, ← rb.length]; exact hl)
      have ea : its.toArray ++ its2.toArray = (its ++ its2).toArray := by simp
      rw [ea]
      exact zcq (t' := s.toks) I hO (r1.append r2) (by rw [List.length_append, ← ra.length, ← rb.length]; exact hl) (ra.append rb) k
    · cases e
  · cases e
theorem jU : ∀ {ds : List D} {is : List Int}, yv ds = some is → ds = is.map PyData.int
  | [], _, h => by cases h; rfl
  | d :: ds, _, h => by
    unfold yv at h
    rw [List.mapM_cons] at h
    obtain ⟨i, h1, h⟩ := Option.bind_eq_some_iff.mp h
    obtain ⟨r, h2, h⟩ := Option.bind_eq_some_iff.mp h
    cases h
    cases d <;> first | (cases h1; rw [jU (ds := ds) h2]; rfl) | cases h1
theorem zds (hu : X.A.units < cLine) : OpD X (compareOp .Lt) ltD := by
  intro pins s σ H O x y v u dx dy d Q I hO rx ry bx by' e k
  unfold ltD cmpD at e
  split at e
  · rename_i i j
    cases e
    cases bx.int
    cases by'.int
    exact zhK pins s σ H _ _ v u Q I rx ry ⟨i, j, rfl, rfl, k _ H (Same.refl _) (.bl _)⟩
  · obtain ⟨is, e1, e⟩ := Option.bind_eq_some_iff.mp e
    obtain ⟨js, e2, e⟩ := Option.bind_eq_some_iff.mp e
    cases e
    cases jU e1
    cases jU e2
    obtain ⟨a, vx, rfl, sa, ra⟩ := bx.tup
    obtain ⟨b, vy, rfl, sb, rb⟩ := by'.tup
    cases ra.ints
    cases rb.ints
    exact zgC hu pins s σ H _ _ v u Q I rx ry ⟨a, b, is, js, rfl, rfl, sa, sb, k _ H (Same.refl _) (.bl _)⟩
  · cases e
end
end L2.Y
namespace L2.Y
open PySem PySem.Spec PyProof.Rows
section
open PySem.SeqAt
open PySem.AutoSeq1 (wpAny_loadPart')
open PySem.MeetsSeq PySem.MeetsSeq2 PySem.MeetsSeq3
end
section
variable {X : Cx}
theorem zfR : UnD X (unaryOp .USub) negD := by
  intro pins s σ H O x v dx d Q I hO rx bx e k
  cases dx with
  | int i =>
    cases e
    cases bx.int
    obtain ⟨t, rfl⟩ := rx
    exact neg_int (zfa (I.tok _) k)
  | _ => cases e
theorem xr {K : Frag} {H : Hp} {ds : List D} {xs : List V} {i : Int} {d : D} (r : Reps K H ds xs) (e : atI ds i = some d) : ∃ v, atI xs i = some v ∧ Rep K H d v := by
  unfold atI at e ⊢
  rw [← r.length]
  obtain ⟨j, e1, e2⟩ := Option.bind_eq_some_iff.mp e
  obtain ⟨v, h1, h2⟩ := r.get e2
  exact ⟨v, by rw [e1]; exact h1, h2⟩
theorem xE {a b : Expr} {pos : Pos} {ga gb : Env' → Option D} (ha : PB X a ga) (hb : PB X b gb) (hs : zan b) : PD X (.Subscript a b pos) (g2 ixD ga gb) :=
  PE.imp (zgJ zgG ha hb hs) fun σ H Q ⟨F, O, ρ, d, r, e, k⟩ => by
    obtain ⟨dx, dy, e1, e2, e3⟩ := vK e
    refine ⟨F, O, ρ, dx, r, e1, fun x H1 s1 b1 => ⟨F, O, ρ, dy, r.same s1, e2, fun y H2 s2 b2 => ?_⟩⟩
    have b1' := b1.same s2
    unfold ixD at e3
    split at e3
    · rename_i ds i
      obtain ⟨p, xs, rfl, sq, rs⟩ := b1'.tup
      cases b2.int
      obtain ⟨v, h1, h2⟩ := xr rs e3
      exact .inr (.inl ⟨p, xs, i, v, rfl, rfl, sq, h1, k v H2 (s1.trans s2) h2⟩)
    · rename_i ds i
      obtain ⟨p, xs, rfl, sq, rs⟩ := b1'.lst
      cases b2.int
      obtain ⟨v, h1, h2⟩ := xr rs e3
      exact .inl ⟨p, xs, i, v, rfl, rfl, sq, h1, k v H2 (s1.trans s2) h2⟩
    · rename_i z i
      split at e3
      · rename_i hl
        obtain ⟨c, h1, rfl⟩ := Option.map_eq_some_iff.mp e3
        cases b1'.str
        cases b2.int
        exact .inr (.inr ⟨z, i, c, rfl, rfl, hl, h1, k _ H2 (s1.trans s2) (.str _)⟩)
      · cases e3
    · cases e3
theorem jp {x : Str} {p pos : Pos} {e : Expr} {es : List Expr} {id : String} {h : List D → Option D} {g : Env' → Option (List D)} (hc : ym X (.builtin id) h) (hg : Gl X x) (hm : X.mg x = none) (hv : bootBuiltins x = some (.builtin id)) (ha : PAb X (e :: es) g) (hn : x ≠ "__name__" := by decide) (hdb : (x == ("__debug__" : Str)) = false := by decide)
    (he : starEach (e :: es) X.env = (false, eval e X.env) :: starEach es X.env := by exact jC rfl) (hpl : (backTo pos (starEach es X.env)).any (·.1) = false := by rfl) : PD X (.Call (.Name x p) (e :: es) [] pos) (gA h g) :=
  PE.imp (wr hc.r hg hm hv ha hn hdb he hpl) fun σ H Q ⟨F, O, ρ, d, r, e, k⟩ => by
    obtain ⟨ds, e1, e2⟩ := vD e
    exact ⟨F, O, ρ, ds, r, e1, fun vs H1 s1 b1 => ⟨O, ds, d, (r.same s1).dom, b1, e2, fun z H' s2 b2 => k z H' (s1.trans s2) b2⟩⟩
theorem qo {x : Str} {p pos : Pos} {e : Expr} {es : List Expr} {T : String} {h : List D → Option D} {g : Env' → Option (List D)} (hc : ym X (.type T) h) (hg : Gl X x) (hm : X.mg x = none) (hv : bootBuiltins x = some (.type T)) (ha : PAb X (e :: es) g) (hn : x ≠ "__name__" := by decide) (hdb : (x == ("__debug__" : Str)) = false := by decide)
    (he : starEach (e :: es) X.env = (false, eval e X.env) :: starEach es X.env := by exact jC rfl) (hpl : (backTo pos (starEach es X.env)).any (·.1) = false := by rfl) : PD X (.Call (.Name x p) (e :: es) [] pos) (gA h g) :=
  PE.imp (zbH hc.r hg hm hv ha hn hdb he hpl) fun σ H Q ⟨F, O, ρ, d, r, e, k⟩ => by
    obtain ⟨ds, e1, e2⟩ := vD e
    exact ⟨F, O, ρ, ds, r, e1, fun vs H1 s1 b1 => ⟨O, ds, d, (r.same s1).dom, b1, e2, fun z H' s2 b2 => k z H' (s1.trans s2) b2⟩⟩
theorem RepBs.inv1 {O : List Addr} {H : Hp} {d : D} {vs : List V} (h : RepBs X.K O H [d] vs) : ∃ v, vs = [v] ∧ RepB X.K O H d v := by
  cases h with
  | cons h r => cases r; exact ⟨_, rfl, h⟩
theorem RepBs.inv2 {O : List Addr} {H : Hp} {d e : D} {vs : List V} (h : RepBs X.K O H [d, e] vs) : ∃ v w, vs = [v, w] ∧ RepB X.K O H d v ∧ RepB X.K O H e w := by
  cases h with
  | cons h r =>
    obtain ⟨w, rfl, hw⟩ := r.inv1
    exact ⟨_, w, rfl, h, hw⟩
theorem xN : ym X (.builtin "len") lenD := by
  intro pins s σ H O xs us ds d Q I hO rv bs e k
  unfold lenD at e
  split at e
  · cases e
    obtain ⟨v, rfl, b⟩ := bs.inv1
    obtain ⟨a, ys, rfl, sq, rs⟩ := b.tup
    exact qQ pins s σ H _ us Q I rv ⟨a, ys, rfl, .inr sq, by rw [← rs.length]; exact k _ H (Same.refl _) (.int _)⟩
  · cases e
    obtain ⟨v, rfl, b⟩ := bs.inv1
    obtain ⟨a, ys, rfl, sq, rs⟩ := b.lst
    exact qQ pins s σ H _ us Q I rv ⟨a, ys, rfl, .inl sq, by rw [← rs.length]; exact k _ H (Same.refl _) (.int _)⟩
  · rename_i z
    split at e
    · cases e
      obtain ⟨v, rfl, b⟩ := bs.inv1
      cases b.str
      exact kP pins s σ H _ us Q I rv ⟨z, rfl, by assumption, k _ H (Same.refl _) (.int _)⟩
    · cases e
  · cases e
theorem zbE (hc : X.calm = true) : ym X (.builtin "min") minD := by
  intro pins s σ H O xs us ds d Q I hO rv bs e k
  unfold minD at e
  split at e
  · rename_i i j
    cases e
    obtain ⟨v, w, rfl, b1, b2⟩ := bs.inv2
    cases b1.int
    cases b2.int
    exact zcC hc pins s σ H _ us Q I rv ⟨i, j, rfl, k _ H (Same.refl _) (.int _)⟩
  · cases e
theorem zbU (hc : X.calm = true) : ym X (.builtin "max") maxD := by
  intro pins s σ H O xs us ds d Q I hO rv bs e k
  unfold maxD at e
  split at e
  · rename_i i j
    cases e
    obtain ⟨v, w, rfl, b1, b2⟩ := bs.inv2
    cases b1.int
    cases b2.int
    exact zcz hc pins s σ H _ us Q I rv ⟨i, j, rfl, k _ H (Same.refl _) (.int _)⟩
  · cases e
theorem jY : ym X (.type "tuple") xj := by
  intro pins s σ H O xs us ds d Q I hO rv bs e k
  unfold xj at e
  split at e
  · cases e
    obtain ⟨v, rfl, b⟩ := bs.inv1
    obtain ⟨a, ys, rfl, sq, rs⟩ := b.tup
    exact xK pins s σ H _ us Q I rv ⟨a, ys, rfl, .inr ⟨sq, k _ H (Same.refl _) (xM b)⟩⟩
  · cases e
    obtain ⟨v, rfl, b⟩ := bs.inv1
    obtain ⟨a, ys, rfl, sq, rs⟩ := b.lst
    exact xK pins s σ H _ us Q I rv ⟨a, ys, rfl, .inl ⟨sq, fun l hl => k _ _ (zK hl) (qZ hl (hO.out hl) rs)⟩⟩
  · cases e
end
end L2.Y
namespace L2.Y
open PySem PySem.Spec PyProof.Rows
theorem wc {env : Env} : ∀ {names : List (Str × NameKind)} {x : Str}, names.lookup x = some .free →
    ((names.map fun (n, k) => if (k == NameKind.free && env.scope.kind == .function && env.kindOf n == some .cell) then (n, NameKind.cell) else (n, k)).lookup x = some .cell ∨
     (names.map fun (n, k) => if (k == NameKind.free && env.scope.kind == .function && env.kindOf n == some .cell) then (n, NameKind.cell) else (n, k)).lookup x = some .free)
  | [], _, h => by simp at h
  | (n, k) :: r, x, h => by
    have ih := @wc env r x
    rw [List.map_cons]
    cases hx : x == n with
    | true =>
      simp only [List.lookup_cons, hx] at h
      cases h
      by_cases hc : (NameKind.free == NameKind.free && env.scope.kind == .function && env.kindOf n == some .cell) = true
      · left; simp only [hc, if_true, List.lookup_cons, hx]
      · right; simp only [hc, Bool.false_eq_true, if_false, List.lookup_cons, hx]
    | false =>
      simp only [List.lookup_cons, hx] at h
      by_cases hc : (k == NameKind.free && env.scope.kind == .function && env.kindOf n == some .cell) = true
      · simp only [hc, if_true, List.lookup_cons, hx]; exact ih h
      · simp only [hc, Bool.false_eq_true, if_false, List.lookup_cons, hx]; exact ih h
theorem wf {env : Env} : ∀ {names : List (Str × NameKind)} {x : Str}, (∀ y ∈ names, y.2 ≠ .cell) →
    ((names.map fun (n, k) => if (k == NameKind.free && env.scope.kind == .function && env.kindOf n == some .cell) then (n, NameKind.cell) else (n, k)).lookup x = some .cell ∨
     (names.map fun (n, k) => if (k == NameKind.free && env.scope.kind == .function && env.kindOf n == some .cell) then (n, NameKind.cell) else (n, k)).lookup x = some .free) → names.lookup x = some .free
  | [], _, _, h => by simp at h
  | (n, k) :: r, x, hn, h => by
    have ih := @wf env r x fun y hy => hn y (List.mem_cons_of_mem _ hy)
    rw [List.map_cons] at h
    cases hx : x == n with
    | true =>
      simp only [List.lookup_cons, hx]
      by_cases hc : (k == NameKind.free && env.scope.kind == .function && env.kindOf n == some .cell) = true
      · simp only [Bool.and_eq_true, beq_iff_eq] at hc
        rw [hc.1.1]
      · simp only [hc, Bool.false_eq_true, if_false, List.lookup_cons, hx] at h
        rcases h with h | h
        · cases h; exact absurd rfl (hn (n, .cell) List.mem_cons_self)
        · exact h
    | false =>
      simp only [List.lookup_cons, hx]
      by_cases hc : (k == NameKind.free && env.scope.kind == .function && env.kindOf n == some .cell) = true
      · simp only [hc, if_true, List.lookup_cons, hx] at h; exact ih h
      · simp only [hc, Bool.false_eq_true, if_false, List.lookup_cons, hx] at h; exact ih h
theorem xW {env : Env} : ∀ (names : List (Str × NameKind)) (acc : List (Str × Addr)), (∀ y ∈ names, y.2 = .free → ∃ c, env.cells.lookup y.1 = some c) → (∀ x c, acc.lookup x = some c → env.cells.lookup x = some c) →
    ∃ cl, (forIn names acc fun (x : Str × NameKind) (cs : List (Str × Addr)) => if (x.2 == NameKind.free) = true then (do let c ← cellOf env x.1; pure (ForInStep.yield ((x.1, c) :: cs)) : Sem (ForInStep (List (Str × Addr)))) else pure (ForInStep.yield cs)) = pure cl ∧
      (∀ x c, cl.lookup x = some c → env.cells.lookup x = some c) ∧ (∀ x, (acc.lookup x).isSome = true → (cl.lookup x).isSome = true) ∧ ∀ x, names.lookup x = some .free → (cl.lookup x).isSome = true
  | [], acc, _, ha => ⟨acc, rfl, ha, fun _ h => h, fun x h => by simp at h⟩
  | (n, k) :: r, acc, hn, ha => by
    have hr : ∀ y ∈ r, y.2 = .free → ∃ c, env.cells.lookup y.1 = some c := fun y hy => hn y (List.mem_cons_of_mem _ hy)
    by_cases hk : k = .free
    · subst hk
      obtain ⟨c, hc⟩ := hn (n, .free) List.mem_cons_self rfl
      have ha' : ∀ x d, ((n, c) :: acc).lookup x = some d → env.cells.lookup x = some d := fun x d h => by
        cases hx : x == n with
        | true =>
          simp only [List.lookup_cons, hx] at h
          cases h
          rw [eq_of_beq hx]; exact hc
        | false =>
          simp only [List.lookup_cons, hx] at h
          exact ha x d h
      obtain ⟨cl, e, h1, h2, h3⟩ := xW r ((n, c) :: acc) hr ha'
      refine ⟨cl, ?_, h1, fun x h => h2 x ?_, fun x h => ?_⟩
      · rw [List.forIn_cons]
        have ec : cellOf env n = pure c := by unfold cellOf; rw [hc]
        simp only [beq_self_eq_true, if_true, ec, pure_bind]
        exact e
      · cases hx : x == n with
        | true => simp only [List.lookup_cons, hx, Option.isSome_some]
        | false => simp only [List.lookup_cons, hx]; exact h
      · cases hx : x == n with
        | true => exact h2 x (by simp only [List.lookup_cons, hx, Option.isSome_some])
        | false => simp only [List.lookup_cons, hx] at h; exact h3 x h
    · obtain ⟨cl, e, h1, h2, h3⟩ := xW r acc hr ha
      refine ⟨cl, ?_, h1, h2, fun x h => ?_⟩
      · rw [List.forIn_cons]
        have : (k == NameKind.free) = false := by simpa using hk
        simp only [this, Bool.false_eq_true, if_false, pure_bind]
        exact e
      · cases hx : x == n with
        | true => simp only [List.lookup_cons, hx] at h; cases h; exact absurd rfl hk
        | false => simp only [List.lookup_cons, hx] at h; exact h3 x h
theorem xL {env : Env} {scope : Scope} (h : ∀ y ∈ scope.names, y.2 = .free → ∃ c, env.cells.lookup y.1 = some c) :
    ∃ cl, closureFor scope env = pure cl ∧ (∀ x c, cl.lookup x = some c → env.cells.lookup x = some c) ∧ ∀ x, scope.names.lookup x = some .free → (cl.lookup x).isSome = true := by
  obtain ⟨cl, e, h1, _, h3⟩ := xW scope.names [] h (fun x c h => by simp at h)
  refine ⟨cl, ?_, h1, h3⟩
  unfold closureFor
  simp only [bind_pure]
  exact e
structure CompOk (X : Cx) (scope : Scope) (own : List Str) (caps : List Nat) (N : List Str) : Prop where
  kind : scope.kind = .function
  nocell : ∀ y ∈ scope.names, y.2 ≠ .cell
  names : ∀ y ∈ scope.names, y.2 = .local → scope.names.lookup y.1 = some .local
  free : ∀ y ∈ scope.names, y.2 = .free → X.env.kindOf y.1 = some .cell ∨ X.env.kindOf y.1 = some .free
  nd : N.Nodup
  len : N.length = own.length + caps.length
  cap : ∀ (k j : Nat), caps[k]? = some j → ∃ x, X.N[j]? = some x ∧ N[own.length + k]? = some x ∧ scope.names.lookup x = some .free
def cxC (X : Cx) (N : List Str) (scope : Scope) (cl : List (Str × Addr)) (C : Addr) (s : Shared) (H : Hp) (fp : List Addr) : Cx where
  prog := X.prog
  w := X.w
  K := X.K
  mg := X.mg
  base := X.base
  A := X.A
  N := N
  s₀ := s
  H₀ := H
  env := compEnvC scope cl C X.env
  outer := X.stack
  stack := X.stack
  ex := fp
  fn := fun _ => false
  calm := X.calm
  pn := []
  xe := fun _ _ => False
section
variable {X : Cx} {pins : List (Addr × Obj)} {σ : St} {H : Hp} {s s1 : Shared} {scope : Scope} {own N : List Str} {caps : List Nat} {cl : List (Str × Addr)} {fp : List Addr}
theorem qh {α : Type} {n : Nat} {σ : List (Option α)} {i : Nat} {v : α} (h : (capS n caps σ)[i]? = some (some v)) : ∃ k j, i = n + k ∧ caps[k]? = some j ∧ σ[j]? = some (some v) := by
  unfold capS at h
  by_cases hi : i < n
  · rw [List.getElem?_append_left (by simpa using hi), List.getElem?_replicate, if_pos hi] at h
    cases h
  · rw [List.getElem?_append_right (by simpa using hi), List.length_replicate, List.getElem?_map] at h
    obtain ⟨j, h1, h2⟩ := Option.map_eq_some_iff.mp h
    refine ⟨i - n, j, by omega, h1, ?_⟩
    cases e : σ[j]? with
    | none => rw [e] at h2; cases h2
    | some o => rw [e] at h2; exact congrArg some h2
theorem zdF (S : CompOk X scope own caps N) (I : Inv X pins σ H s) (hcl1 : ∀ x c, cl.lookup x = some c → X.env.cells.lookup x = some c) (hcl2 : ∀ x, scope.names.lookup x = some .free → (cl.lookup x).isSome = true)
    (hfp : ∀ b ∈ fp, FpOk X pins H b) (hlt : ∀ b ∈ fp, b < s.heap.objs.size) {h1 : Heap} {m : Str → Option Value} {tk : Nat} (hn : h1.Ns s.heap.objs.size m) (hk : ∀ b o, s.heap.get? b = some o → h1.get? b = some o) :
    Inv (cxC X N scope cl s.heap.objs.size s H fp) [] (capS own.length caps σ) H { s with heap := h1, toks := tk } := by
  have cellEq : ∀ {x : Str} {c c' : Addr}, cl.lookup x = some c → X.env.cells.lookup x = some c' → c = c' := fun h1 h2 => by rw [hcl1 _ _ h1] at h2; exact Option.some.inj h2
  refine ⟨⟨I.ok.mod, S.kind, I.ok.glob, I.ok.blt, Nat.le_refl _, fun x y c e1 e2 => I.ok.inj x y c (hcl1 _ _ e1) (hcl1 _ _ e2), fun x hx => ?_, fun x c h _ => absurd (show false = true from h) (by decide), I.ok.hd, I.ok.frames, .inl rfl, fun b hb => ⟨Nat.ne_of_lt (hlt b hb), fun x c e => (hfp b hb).2.2.2.2.1 x c (hcl1 _ _ e)⟩,
    I.bs, Nat.le_trans I.ok.bsz I.sz, fun b o e hb => ?_, fun b hb hb' => ?_, I.stack, I.stkFree⟩, rfl, I.bare, Un.kept hk, ⟨m, hn, fun i x v e1 e2 e3 => ?_⟩, fun x c e => ?_, I.hok.fresh (Nat.le_refl _), fun x c e => I.freeC x c (hcl1 _ _ e), fun p hp => absurd (show p ∈ ([] : List (Addr × Obj)) from hp) (by simp), I.hok.kept hk, ?_⟩
  · have hx' : (relabel scope X.env).names.lookup x = some .cell ∨ (relabel scope X.env).names.lookup x = some .free := hx
    have hf := wf S.nocell hx'
    exact Option.isSome_iff_exists.mp (hcl2 x hf)
  · obtain ⟨_, _, _, f3, _, _⟩ := hfp b hb
    rcases f3 with z | z
    · exact I.ok.noex b o e z
    · exact absurd (Nat.lt_of_lt_of_le (Heap.lt_size e) (Nat.le_trans I.ok.bsz z)) (Nat.lt_irrefl _)
  · obtain ⟨_, f1, f2, _⟩ := hfp b hb
    rcases List.mem_cons.mp (I.stkSub b hb') with z | z
    · exact f1 z
    · exact f2 z
  · obtain ⟨k, j, rfl, hj, hv⟩ := qh e2
    obtain ⟨y, hy, hy2, hfree⟩ := S.cap k j hj
    have e1 : N[own.length + k]? = some x := e1
    have hxy : y = x := Option.some.inj (hy2.symm.trans e1)
    subst hxy
    have hkind := S.free (y, .free) (PySem.mem_of_lookup hfree) rfl
    obtain ⟨m0, _, hl⟩ := I.loc
    have hvis : Vis X.env.scope y := Or.inr hkind
    obtain ⟨u, ru, lk⟩ := hl j y v hy hv hvis
    refine ⟨u, ru, ?_⟩
    rcases lk with ⟨kk, _⟩ | ⟨_, c, hc, hcell⟩
    · rcases hkind with z | z <;> (rw [z] at kk; cases kk)
    · refine .inr ⟨wc hfree, ?_⟩
      obtain ⟨c', hc'⟩ := Option.isSome_iff_exists.mp (hcl2 y hfree)
      have := cellEq hc' hc
      subst this
      obtain ⟨o, ho, hd⟩ := hcell
      exact ⟨c', hc', o, hk _ _ ho, hd⟩
  · obtain ⟨v, o, ho, hd⟩ := I.cell x c (hcl1 _ _ e)
    exact ⟨v, o, hk _ _ ho, hd⟩
  · show (capS own.length caps σ).length = N.length
    rw [S.len]
    unfold capS
    simp
theorem zbi {H' : Hp} {σ' : St} (I : Inv X pins σ H s) (hfp : ∀ b ∈ fp, FpOk X pins H b) (J : Inv (cxC X N scope cl s.heap.objs.size s H fp) [] σ' H' s1) : Inv X pins σ H' s1 :=
  I.call' (ch := fp) J.os J.base J.hok J.bare fun b hb => let ⟨_, f1, _, f3, f4, f5⟩ := hfp b hb; ⟨f3, f1, f4, f5⟩
end
def PIf (X : Cx) (ifs : List Expr) (t : TT) : Prop :=
  ∀ (pins : List (Addr × Obj)) (s : Shared) (σ : St) (H : Hp) (Q : Bool → Hp → Prop), Inv X pins σ H s → t σ H Q →
    wpAny (model X.prog X.w) X.A (forIn ifs true fun c r => if r = true then do let ok ← isTrue c X.env (eval c X.env); pure (ForInStep.yield ok) else pure (ForInStep.yield r)) (TP X pins σ Q) X.xe s
theorem zgg {X : Cx} : PIf X [] (fun _ H Q => Q true H) := fun pins s σ H Q I h => wpAny_tests_nil ⟨H, I, h⟩
theorem zfY {X : Cx} {c : Expr} {t : TT} (hc : PT X c t) : PIf X [c] t := fun pins s σ H Q I h => wpAny_tests_one (hc pins s σ H Q I h)
def zcG (g : TG) (tt : TT) (te : TE) (J : It) (D : Addr) (σ : St) (H : Hp) (Q : Hp → Prop) : Prop :=
  ∃ W : Nat → Nat → St → Hp → Prop, (∃ m, W 0 m σ H) ∧ ∀ i m σ H, W i m σ H →
    (J.stop i H ∧ Q H) ∨ (J.go i H ∧ ∃ Nx : St → Hp → Prop, (∀ σ' H', Nx σ' H' → ∃ m', m' < m ∧ W (i + 1) m' σ' H') ∧ ∀ x H', J.yld i H x H' → g x σ H' fun σ2 H2 => tt σ2 H2 fun b H3 =>
      if b = true then te σ2 H3 fun y H4 => ∃ ys, H4 D = some (.lst ys) ∧ ys.length < sizeLine ∧ Nx σ2 (upd H4 D (.lst (ys ++ [y]))) else Nx σ2 H3)
section
variable {X : Cx} {pins : List (Addr × Obj)} {σ : St} {H : Hp} {s : Shared} {scope : Scope} {own N : List Str} {caps : List Nat} {cl : List (Str × Addr)} {fp : List Addr}
variable {tg iter elt : Expr} {ifs : List Expr} {pos : Pos} {g : TG} {tt : TT} {te : TE} {J : It} {it : Addr} {tn : Nat → Heap → Prop}
theorem zbQ {D C : Addr} {R : Result → Shared → Prop} (hc : X.calm = true) (T : Turn X.prog X.w X.K tg J fp it tn)
    (hg : PG (cxC X N scope cl C s H fp) tg g) (ht : PIf (cxC X N scope cl C s H fp) ifs tt) (he : PE (cxC X N scope cl C s H fp) elt te) {Q : Hp → Prop} {σ0 : St} {H0 : Hp} {s1 : Shared} (I0 : Inv (cxC X N scope cl C s H fp) [] σ0 H0 s1) (t0 : tn 0 s1.heap)
    (f0 : ∀ b ∈ fp, H0 b = none) (hfp : ∀ b ∈ fp, b ≠ C ∧ b ∉ frs X.stack ∧ ∀ x c, cl.lookup x = some c → c ≠ b) (hw : zcG g tt te J D σ0 H0 Q)
    (hR : ∀ σ' H' s', Inv (cxC X N scope cl C s H fp) [] σ' H' s' → Q H' → R (.ok .next) s') :
    codeAny (model X.prog X.w) X.A (.compLoop (.ListComp elt [⟨tg, iter, ifs, 0⟩] scope pos) 0 (.ref it) (.ref D) (compEnvC scope cl C X.env)) R s1 := by
  obtain ⟨W, ⟨m0, w0⟩, turn⟩ := hw
  have stat : ∀ {H' : Hp}, (∀ b ∈ fp, H' b = none) → ∀ b ∈ fp, FpOk (cxC X N scope cl C s H fp) [] H' b := fun hn b hb => ⟨hn b hb, (hfp b hb).1, (hfp b hb).2.1, .inl hb, (hfp b hb).2.2, fun p hp => absurd (show p ∈ ([] : List (Addr × Obj)) from hp) (by simp)⟩
  have nox : ∀ {α : Type} {t : Sem α} {Q : α → Shared → Prop} {E : Value → Shared → Prop} {s : Shared}, wpAny (model X.prog X.w) X.A t Q (fun _ _ => False) s → wpAny (model X.prog X.w) X.A t Q E s := fun h => wpAny_mono h (fun _ _ q => q) fun _ _ q => q.elim
  refine codeAny_loop rfl (fun n s' => ∃ i σ' H', Inv (cxC X N scope cl C s H fp) [] σ' H' s' ∧ tn i s'.heap ∧ (∀ b ∈ fp, H' b = none) ∧ W i n σ' H') (fun n s3 hI => ?_) m0 ⟨0, σ0, H0, I0, t0, f0, w0⟩
  obtain ⟨i, σ3, H3, I3, st3, fr3, w3⟩ := hI
  show wpAny _ X.A ((compTurn (.ListComp elt [⟨tg, iter, ifs, 0⟩] scope pos) 0 (.ref it) (.ref D) (compEnvC scope cl C X.env)).onRaise (fun x => do noteFrame x (compEnvC scope cl C X.env); theTreesLotGoes x)) _ _ s3
  refine wpAny_noted ?_
  rw [compTurn_list]
  refine wpAny_bind (wpAny_standAt (wpAny_bind ?_))
  rcases turn i n σ3 H3 w3 with ⟨stop, qn⟩ | ⟨go, Nx, hN, step⟩
  · refine nox (thn (T.done (cxC X N scope cl C s H fp) rfl rfl rfl hc i [] s3 σ3 H3 _ I3 (stat fr3) st3 stop) fun r s4 ⟨hr, I4⟩ => ?_)
    subst hr
    exact wpAny_pure (hR _ _ _ I4 qn)
  · refine nox (thn (T.item (cxC X N scope cl C s H fp) rfl rfl rfl hc i [] s3 σ3 H3 _ I3 (stat fr3) st3 go) fun r s4 ⟨u, hr, h4⟩ => ?_)
    subst hr
    refine wpAny_bind (nox (thn h4 fun _ s5 ⟨x, H5, I5, r5, y5, st5, fr5⟩ => ?_))
    have I5' := I5.pinned (stat fr5) (T.obj _ _ st5)
    refine wpAny_bind (nox (thn (hg _ s5 σ3 H5 x u _ I5' r5 (step x H5 y5)) fun _ s6 ⟨σ6, H6, I6, q6⟩ => ?_))
    refine wpAny_bind (nox (thn (ht _ s6 σ6 H6 _ I6 q6) fun ok s7 ⟨H7, I7, q7⟩ => ?_))
    have again : ∀ {σ7 : St} {H7 : Hp} {s7 : Shared}, Inv (cxC X N scope cl C s H fp) ([] ++ kJ fp s5.heap) σ7 H7 s7 → Nx σ7 H7 → ∃ m, m < n ∧ ∃ i σ' H', Inv (cxC X N scope cl C s H fp) [] σ' H' s7 ∧ tn i s7.heap ∧ (∀ b ∈ fp, H' b = none) ∧ W i m σ' H' := fun {σ7 H7 s7} I7 n7 => by
      obtain ⟨m', hm, w7⟩ := hN σ7 H7 n7
      refine ⟨m', hm, i + 1, σ7, H7, I7.unpinned, T.keep _ _ _ st5 fun b hb o e => (I7.pin (b, o) (List.mem_append_right _ (List.mem_append_right _ (qW hb e)))).1, fun b hb => ?_, w7⟩
      obtain ⟨o, e, d⟩ := T.obj _ _ st5 b hb
      exact (I7.pin (b, o) (List.mem_append_right _ (List.mem_append_right _ (qW hb e)))).2.1
    cases ok with
    | false =>
      simp only [Bool.false_eq_true, if_false] at q7 ⊢
      exact wpAny_pure ⟨rfl, again I7 q7⟩
    | true =>
      simp only [if_true] at q7 ⊢
      refine wpAny_bind (wpAny_bind (nox (thn (he _ s7 σ6 H7 _ I7 q7) fun v s8 ⟨y, H8, I8, r8, ys, e8, z8, n8⟩ => ?_)))
      refine wpAny_bind (nox (thn (kz (X := cxC X N scope cl C s H fp) _ s8 σ6 H8 (.ref D) [y] (.ref D) [v] (fun _ H' => Nx σ6 H') I8 rfl (.cons r8 .nil) ⟨D, ys, y, rfl, rfl, e8, z8, n8⟩) fun _ s9 ⟨_, H9, I9, _, n9⟩ => ?_))
      exact wpAny_pure (wpAny_pure ⟨rfl, again I9 n9⟩)
def zfx (n : Nat) (caps : List Nat) (wi : TI) (g : TG) (tt : TT) (te : TE) : TE := fun σ H Q => wi σ H fun J H1 => ∀ D, H1 D = none → zcG g tt te J D (capS n caps σ) (upd H1 D (.lst [])) fun H' => Q (.ref D) H'
def zU (X : Cx) (N : List Str) (scope : Scope) (P : Cx → Prop) : Prop := ∀ cl C s H fp, P (cxC X N scope cl C s H fp)
theorem vU {Q : VK} {use : Option (Value → Sem Unit)} {Qu : Value → Shared → Prop} {E : Value → Shared → Prop} {itv : Value} {s2 : Shared} (S : CompOk X scope own caps N) (hc : X.calm = true)
    (hg : zU X N scope fun Y => PG Y tg g) (ht : zU X N scope fun Y => PIf Y ifs tt) (he : zU X N scope fun Y => PE Y elt te)
    (hcl1 : ∀ x c, cl.lookup x = some c → X.env.cells.lookup x = some c) (hcl2 : ∀ x, scope.names.lookup x = some .free → (cl.lookup x).isSome = true)
    (h : PIE X pins σ tg (fun J H1 => ∀ D, H1 D = none → zcG g tt te J D (capS own.length caps σ) (upd H1 D (.lst [])) fun H' => Q (.ref D) H') itv s2)
    (fin : ∀ D C s' H', Inv X pins σ H' s' → Q (.ref D) H' → (∃ m, s'.heap.Ns C m) → FpOk X pins H' C → compPost (model X.prog X.w) X.A E use Qu (.ref D) C (.ok .next) s') :
    wpAny (model X.prog X.w) X.A (newList []) (fun acc s₃ => wpAny (model X.prog X.w) X.A (newFunctionEnv scope X.env.globals cl [] X.env.qual none .none (some X.env)) (fun cenv s₄ =>
      codeAny (model X.prog X.w) X.A (.compStart (.ListComp elt [⟨tg, iter, ifs, 0⟩] scope pos) 0 itv acc { cenv with scope := relabel scope X.env }) (compPost (model X.prog X.w) X.A E use Qu acc cenv.locals) s₄) E s₃) E s2 := by
  obtain ⟨it, fp, tn, J, H2, rfl, I2, T, st2, f2, rr⟩ := h
  have hD : H2 s2.heap.objs.size = none := I2.hok.fresh (Nat.le_refl _)
  have ltf : ∀ b ∈ fp, b < s2.heap.objs.size := fun b hb => by
    obtain ⟨o, e, _⟩ := T.obj _ _ st2 b hb
    exact Heap.lt_size e
  refine wpAny_newObj_type (wpAny_newFunctionEnv S.nocell (by intro y hy; simp at hy) (fun h₁ hns₁ hsb₁ => ?_) S.kind)
  dsimp only at hns₁ hsb₁ ⊢
  have I3 : Inv X pins σ (upd H2 s2.heap.objs.size (.lst [])) { s2 with heap := s2.heap.push { cls := .type "list", dict := none, data := .seq ([] : List Value).toArray } } := Inv.newL (its := []) I2 .nil (Nat.zero_le _) s2.toks
  generalize hs3 : ({ s2 with heap := s2.heap.push { cls := .type "list", dict := none, data := .seq ([] : List Value).toArray } } : Shared) = s3 at I3
  have e3 : s3.heap = s2.heap.push { cls := .type "list", dict := none, data := .seq ([] : List Value).toArray } := by rw [← hs3]
  rw [← e3] at hns₁ hsb₁ ⊢
  have fp3 : ∀ b ∈ fp, FpOk X pins (upd H2 s2.heap.objs.size (.lst [])) b := fun b hb => ⟨by rw [zp (Nat.ne_of_lt (ltf b hb))]; exact (f2 b hb).1, (f2 b hb).2⟩
  have old3 : ∀ b o, s2.heap.get? b = some o → s3.heap.get? b = some o := fun b o e => by rw [e3]; exact Heap.get?_push_of_some _ e
  have lt3 : ∀ b ∈ fp, b < s3.heap.objs.size := fun b hb => by rw [e3, Heap.size_push]; exact Nat.lt_succ_of_lt (ltf b hb)
  have hk : ∀ b o, s3.heap.get? b = some o → h₁.get? b = some o := fun b o e => hsb₁.extBut b o (Nat.ne_of_lt (Heap.lt_size e)) (Heap.get?_push_of_some _ e)
  have I4 : Inv (cxC X N scope cl s3.heap.objs.size s3 (upd H2 s2.heap.objs.size (.lst [])) fp) [] (capS own.length caps σ) (upd H2 s2.heap.objs.size (.lst [])) { s3 with heap := h₁, toks := s3.toks + ([] : List (Str × Value)).length } := zdF S I3 hcl1 hcl2 fp3 lt3 hns₁ hk
  have st4 : tn 0 h₁ := T.keep _ _ _ st2 fun b hb o e => hk b o (old3 b o e)
  have loop : codeAny (model X.prog X.w) X.A (.compLoop (.ListComp elt [⟨tg, iter, ifs, 0⟩] scope pos) 0 (.ref it) (.ref s2.heap.objs.size) (compEnvC scope cl s3.heap.objs.size X.env)) (compPost (model X.prog X.w) X.A E use Qu (.ref s2.heap.objs.size) s3.heap.objs.size) { s3 with heap := h₁, toks := s3.toks + ([] : List (Str × Value)).length } := by
    refine zbQ (D := s2.heap.objs.size) hc T (hg _ _ _ _ _) (ht _ _ _ _ _) (he _ _ _ _ _) I4 st4 (fun b hb => (fp3 b hb).1) (fun b hb => ⟨Nat.ne_of_lt (lt3 b hb), fun hb' => ?_, fun x c e => (fp3 b hb).2.2.2.2.1 x c (hcl1 _ _ e)⟩) (rr _ hD) fun σ' H' s' J q => ?_
    · obtain ⟨_, f1, f2, _⟩ := fp3 b hb
      rcases List.mem_cons.mp (I3.stkSub b hb') with z | z
      · exact f1 z
      · exact f2 z
    · obtain ⟨m, hm, _⟩ := J.loc
      exact fin _ _ s' H' (zbi I3 fp3 J) q ⟨m, hm⟩ (I3.fpOk (Nat.le_refl _) J.free)
  have es : ({ s2 with heap := h₁, toks := s2.toks + ([] : List (Str × Value)).length } : Shared) = { s3 with heap := h₁, toks := s3.toks + ([] : List (Str × Value)).length } := by rw [← hs3]
  rw [es]
  exact codeAny_compStart_list loop (T.self X.A 0 _ _ _ st4 loop)
theorem zgc {wi : TI} (S : CompOk X scope own caps N) (hc : X.calm = true) (hi : PI X tg iter wi) (hg : zU X N scope fun Y => PG Y tg g) (ht : zU X N scope fun Y => PIf Y ifs tt) (he : zU X N scope fun Y => PE Y elt te)
    (hs : ∀ x, foldedSetIterable iter X.env x = pure x := by intro _; rfl) : PE X (.ListComp elt [⟨tg, iter, ifs, 0⟩] scope pos) (zfx own.length caps wi g tt te) := by
  intro pins s σ H Q I h
  obtain ⟨cl, hcl, hcl1, hcl2⟩ := xL (env := X.env) (scope := scope) fun y hy hf => I.ok.has y.1 (S.free y hy hf)
  rw [eval_ListComp]
  refine wpAny_comprehension_free (use := none) rfl hs hcl S.kind S.names (thn (hi pins s σ H _ I h) fun xv s1 h1 => thn h1 fun itv s2 h2 => ?_)
  refine vU (Q := Q) S hc hg ht he hcl1 hcl2 h2 fun D C s' H' I' q hm f => ?_
  obtain ⟨m, hm⟩ := hm
  refine ⟨m, hm, fun h' sb => ⟨.ref D, H', ?_, rfl, q⟩⟩
  obtain ⟨f0, f1, f2, f3, f4, f5⟩ := f
  exact I'.turned (t' := s'.toks) (fun b o hb e => (sb.2 b hb).trans e) f0 f1 f3 f4 f5
theorem zba {wi : TI} {i : Nat} {x : Str} {px spos : Pos} (S : CompOk X scope own caps N) (hc : X.calm = true) (hi : PI X tg iter wi) (hg : zU X N scope fun Y => PG Y tg g) (ht : zU X N scope fun Y => PIf Y ifs tt) (he : zU X N scope fun Y => PE Y elt te)
    (hN : X.N.Nodup) (hx : X.N[i]? = some x) (hl : X.env.scope.names.lookup x = some .local) (hsw : swapsWith (.ListComp elt [⟨tg, iter, ifs, 0⟩] scope pos) (some (.Name x px)) spos.line X.env = pure true)
    (hs : ∀ x, foldedSetIterable iter X.env x = pure x := by intro _; rfl) : PS X (.Assign [.Name x px] (.ListComp elt [⟨tg, iter, ifs, 0⟩] scope pos) spos) (tAsg (zfx own.length caps wi g tt te) (kR i)) := by
  intro pins s σ H D I h
  obtain ⟨cl, hcl, hcl1, hcl2⟩ := xL (env := X.env) (scope := scope) fun y hy hf => I.ok.has y.1 (S.free y hy hf)
  rw [exec_Assign_Name_used _ _ _ _ hsw]
  refine wpAny_bind (wpAny_standAt (wpAny_bind ?_))
  show wpAny _ X.A (do let _ ← comprehension (.ListComp elt [⟨tg, iter, ifs, 0⟩] scope pos) scope X.env _ (newList []) false (eval iter X.env) (some (assign (.Name x px) X.env))) _ _ s
  refine wpAny_bind (wpAny_mono (wpAny_comprehension_free (use := some (assign (.Name x px) X.env)) (Q := fun _ s' => SP X pins D .next s') rfl hs hcl S.kind S.names
    (thn (hi pins s σ H _ I h) fun xv s1 h1 => thn h1 fun itv s2 h2 => ?_)) (fun _ s' hq => wpAny_pure (wpAny_pure hq)) fun _ _ e => e)
  refine vU (Q := fun v H' => D.nx (σ.set i (some v)) H') S hc hg ht he hcl1 hcl2 h2 fun D' C s' H' I' q hm f => ?_
  obtain ⟨m, hm⟩ := hm
  obtain ⟨f0, f1, f2, f3, f4, f5⟩ := f
  refine wpAny_assign_Name (kx (v := .ref D') I' hN hx (.inl hl) rfl (fun s'' I'' ⟨a, sb, ha⟩ => ?_) (.inr hl))
  have hCa : C ≠ a := by
    rcases ha with z | z
    · rw [z]; exact f1
    · exact Ne.symm (f4 _ _ z)
  refine ⟨m, hm.sameBut sb hCa, fun h' sb' => ⟨_, H', ?_, q⟩⟩
  exact I''.turned (t' := s''.toks) (fun b o hb e => (sb'.2 b hb).trans e) f0 f1 f3 f4 f5
end
end L2.Y
namespace L2.Y
open PySem PySem.Spec PyProof.Rows
def Over (n : Nat) (h : GT) : Prop := ∀ d ρ ρ1, h d ρ = some ρ1 → ρ1.length = ρ.length ∧ ∀ i, n ≤ i → ρ1[i]? = ρ[i]?
def zd2 (n : Nat) (h : List D → Env' → Option Env') : Prop := ∀ d ρ ρ1, h d ρ = some ρ1 → ρ1.length = ρ.length ∧ ∀ i, n ≤ i → ρ1[i]? = ρ[i]?
theorem zF {n i : Nat} (hi : i < n) : Over n (hName i) := fun d ρ ρ1 e => by
  cases e
  exact ⟨List.length_set .., fun j hj => List.getElem?_set_ne (by omega)⟩
theorem wD {n : Nat} : zd2 n hNil := fun d ρ ρ1 e => by
  unfold hNil at e
  split at e
  · cases e; exact ⟨rfl, fun _ _ => rfl⟩
  · cases e
theorem jd {n : Nat} {h : GT} {k : List D → Env' → Option Env'} (h1 : Over n h) (h2 : zd2 n k) : zd2 n (zy h k) := fun d ρ ρ1 e => by
  unfold zy at e
  split at e
  · obtain ⟨ρ2, e1, e2⟩ := Option.bind_eq_some_iff.mp e
    obtain ⟨a1, a2⟩ := h1 _ _ _ e1
    obtain ⟨b1, b2⟩ := h2 _ _ _ e2
    exact ⟨b1.trans a1, fun i hi => (b2 i hi).trans (a2 i hi)⟩
  · cases e
theorem wy {n m : Nat} {k : List D → Env' → Option Env'} (h2 : zd2 n k) : Over n (hTup m k) := fun d ρ ρ1 e => by
  unfold hTup at e
  split at e
  · split at e
    · exact h2 _ _ _ e
    · cases e
  · cases e
section
variable {K : Frag} {F : Fx} {O : List Addr} {ρ ρ0 : Env'} {σ : St} {H : Hp}
theorem SR.forget (r : SR K F O ρ σ H) (hl : ρ0.length = ρ.length) (h : ∀ (i : Nat) e, ρ0[i]? = some (some e) → ρ[i]? = some (some e)) : SR K F O ρ0 σ H :=
  ⟨r.hb, r.vb, r.oc, r.dom, r.len.trans hl.symm, fun i d e => r.val i d (h i _ e), fun i d e => r.own i d (h i _ e), fun i j d d' p e1 e2 => r.sep i j d d' p (h i _ e1) (h j _ e2)⟩
theorem zaB {α : Type} {n : Nat} {caps : List Nat} {l : List (Option α)} : (capS n caps l).length = n + caps.length := by unfold capS; simp
theorem zcY {α : Type} {n : Nat} {caps : List Nat} {l : List (Option α)} {k j : Nat} {o : Option α} (h : caps[k]? = some j) (e : l[j]? = some o) : (capS n caps l)[n + k]? = some o := by
  unfold capS
  rw [List.getElem?_append_right (by simp), List.length_replicate, Nat.add_sub_cancel_left, List.getElem?_map, h]
  simp [e]
theorem SR.comp {D : Addr} {n : Nat} {caps : List Nat} (nd : caps.Nodup) (r : SR K F O ρ σ H) (hD : H D = none) : SR K { H0 := F.H0, Oc := D :: F.Oc, V0 := hide O H } (D :: O) (capS n caps ρ) (capS n caps σ) (upd H D (.lst [])) := by
  have eh : hide (D :: O) (upd H D (.lst [])) = hide O H := by rw [zQ List.mem_cons_self, ql hD]
  have hO : D ∉ O := r.fresh hD
  refine ⟨r.hb.trans (zK hD), by rw [eh]; exact Same.refl _, fun q hq => ?_, fun q hq => ?_, by rw [zaB, zaB], fun i d e => ?_, fun i d e => ?_, fun i j d d' p e1 e2 f1 f2 => ?_⟩
  · rcases List.mem_cons.mp hq with z | z
    · rw [z]; exact List.mem_cons_self
    · exact List.mem_cons_of_mem _ (r.oc q z)
  · by_cases e : q = D
    · subst e; exact ⟨_, zL, fun _ z => nomatch z⟩
    · rw [zp e]; exact r.dom q ((List.mem_cons.mp hq).resolve_left e)
  · obtain ⟨k, j, rfl, hj, hv⟩ := qh e
    obtain ⟨v, h1, h2⟩ := r.val j d hv
    exact ⟨v, zcY hj h1, by rw [eh]; exact h2⟩
  · obtain ⟨k, j, rfl, hj, hv⟩ := qh e
    obtain ⟨p, h1, h2, h3, h4⟩ := r.own j d hv
    have hp : p ≠ D := fun z => hO (z ▸ h2)
    refine ⟨p, zcY hj h1, List.mem_cons_of_mem _ h2, ⟨fun z => (List.mem_cons.mp z).elim hp h3.1, h3.2⟩, ?_⟩
    cases h4 with
    | lst h r => exact .lst (by rw [zp hp]; exact h) (by rw [eh]; exact r)
    | dK h r => exact .dK (by rw [zp hp]; exact h) (by rw [eh]; exact r)
    | dT h r => exact .dT (by rw [zp hp]; exact h) (by rw [eh]; exact r)
  · obtain ⟨k, a, rfl, ha, hva⟩ := qh e1
    obtain ⟨l, b, rfl, hb, hvb⟩ := qh e2
    obtain ⟨k', a', ek, ha', ga⟩ := qh f1
    obtain ⟨l', b', el, hb', gb⟩ := qh f2
    have : k' = k := by omega
    subst this
    have : l' = l := by omega
    subst this
    rw [ha] at ha'; cases ha'
    rw [hb] at hb'; cases hb'
    have := r.sep a b d d' p hva hvb ga gb
    subst this
    have h1 := (List.getElem?_eq_some_iff.mp ha)
    have h2 := (List.getElem?_eq_some_iff.mp hb)
    have := (List.getElem_inj (h₀ := h1.1) (h₁ := h2.1) nd).mp (h1.2.trans h2.2.symm)
    omega
theorem SR.accUpd {D : Addr} {o : HO} (r : SR K F (D :: O) ρ σ H) (h0 : F.H0 D = none) (hc : D ∈ F.Oc) (ho : ∀ xs, o ≠ .tup xs) : SR K F (D :: O) ρ σ (upd H D o) := by
  have eh : hide (D :: O) (upd H D o) = hide (D :: O) H := zQ List.mem_cons_self
  refine ⟨fun b u e => ?_, by rw [eh]; exact r.vb, r.oc, fun q hq => ?_, r.len, fun i d e => ?_, fun i d e => ?_, r.sep⟩
  · rw [zp (zB e h0)]; exact r.hb _ _ e
  · by_cases e : q = D
    · subst e; exact ⟨_, zL, ho⟩
    · rw [zp e]; exact r.dom q hq
  · rw [eh]; exact r.val i d e
  · obtain ⟨p, h1, h2, h3, h4⟩ := r.own i d e
    have hp : p ≠ D := fun z => h3.1 (z ▸ hc)
    refine ⟨p, h1, h2, h3, ?_⟩
    cases h4 with
    | lst h r => exact .lst (by rw [zp hp]; exact h) (by rw [eh]; exact r)
    | dK h r => exact .dK (by rw [zp hp]; exact h) (by rw [eh]; exact r)
    | dT h r => exact .dT (by rw [zp hp]; exact h) (by rw [eh]; exact r)
end
theorem vf {K : Frag} {n : Nat} {caps : List Nat} {gi : Env' → Option (List D)} {h : GT} {gt : Env' → Option Bool} {ge : Env' → Option D} {σ : St} {H : Hp} {Q : VK} (nd : caps.Nodup) (ov : Over n h) (q : tFr K (qG n caps gi h gt ge) σ H Q) :
    zfx n caps (tId K gi) (tGd K h) (tTd K gt) (tD K ge) σ H Q := by
  obtain ⟨F, O, ρ, out, r, e, k⟩ := q
  obtain ⟨ds, e1, e2⟩ := Option.bind_eq_some_iff.mp e
  split at e2
  · rename_i hz
    refine ⟨F, O, ρ, ds, r, e1, fun J H1 s1 it D hD => ?_⟩
    have r1 := r.same s1
    have hHD : H D = none := s1.free hD
    have h0D : F.H0 D = none := r1.hb.free hD
    have hDO : D ∉ O := r1.fresh hD
    refine ⟨fun i m σ' H' => m = ds.length - i ∧ i ≤ ds.length ∧ Same H1 H' ∧ ∃ dn vs, H' D = some (.lst vs) ∧ Reps K (hide (D :: O) H') dn vs ∧ dn.length ≤ i ∧ SR K { H0 := F.H0, Oc := D :: F.Oc, V0 := hide O H1 } (D :: O) (capS n caps ρ) σ' H' ∧ ∃ rest, xX h gt ge (capS n caps ρ) (ds.drop i) = some rest ∧ out = dn ++ rest,
      ⟨ds.length, rfl, Nat.zero_le _, zK hD, [], [], zL, .nil, Nat.le_refl _, SR.comp nd r1 hD, out, e2, rfl⟩, ?_⟩
    rintro i m σ2 H2 ⟨rfl, hi, sm, dn, vs, hD2, rd, hdn, r2, rest, e3, ho⟩
    have sB : Same (hide O H1) H2 := r2.vb.trans jk
    by_cases hlt : i < ds.length
    · refine .inr ⟨it.go i H2 sB hlt, ?_⟩
      rw [List.drop_eq_getElem_cons hlt] at e3
      obtain ⟨ρ3, e4, e5⟩ := Option.bind_eq_some_iff.mp e3
      obtain ⟨b, e6, e7⟩ := Option.bind_eq_some_iff.mp e5
      obtain ⟨ol, oo⟩ := ov _ _ _ e4
      have back : ∀ {σ' H'}, SR K { H0 := F.H0, Oc := D :: F.Oc, V0 := hide O H1 } (D :: O) ρ3 σ' H' → SR K { H0 := F.H0, Oc := D :: F.Oc, V0 := hide O H1 } (D :: O) (capS n caps ρ) σ' H' := fun {σ' H'} r' => r'.forget ol.symm fun j en ej => by
        obtain ⟨kk, jj, rfl, hj, hv⟩ := qh ej
        rw [oo _ (Nat.le_add_right _ _)]; exact ej
      refine ⟨fun σ' H' => Same H1 H' ∧ ∃ dn vs, H' D = some (.lst vs) ∧ Reps K (hide (D :: O) H') dn vs ∧ dn.length ≤ i + 1 ∧ SR K { H0 := F.H0, Oc := D :: F.Oc, V0 := hide O H1 } (D :: O) (capS n caps ρ) σ' H' ∧ ∃ rest', xX h gt ge (capS n caps ρ) (ds.drop (i + 1)) = some rest' ∧ out = dn ++ rest',
        fun σ' H' hh => ⟨ds.length - (i + 1), by omega, rfl, hlt, hh⟩, fun x H' y => ?_⟩
      obtain ⟨s5, r5, b5⟩ := zas r2 (it.yld i H2 x H' ds[i] sB (by simp [hlt]) y)
      refine ⟨_, _, _, ds[i], ρ3, r5, b5, e4, fun σ6 r6 => ⟨_, _, ρ3, b, r6, e6, fun H7 s7 => ?_⟩⟩
      have s27 : Same H2 H7 := s5.trans s7
      cases b with
      | false =>
        refine iteF ⟨sm.trans s27, dn, vs, s27 _ _ hD2, rd.same (zG s27), Nat.le_succ_of_le hdn, back (r6.same s7), rest, e7, ho⟩
      | true =>
        obtain ⟨yd, e8, e9⟩ := Option.bind_eq_some_iff.mp e7
        obtain ⟨rest', e10, e11⟩ := Option.map_eq_some_iff.mp e9
        refine iteT ⟨_, _, ρ3, yd, r6.same s7, e8, fun v H8 s8 b8 => ⟨vs, s8 _ _ (s27 _ _ hD2), ?_, ?_⟩⟩
        · rw [← rd.length]; omega
        · have s28 : Same H2 H8 := s27.trans s8
          have eh : hide (D :: O) (upd H8 D (.lst (vs ++ [v]))) = hide (D :: O) H8 := zQ List.mem_cons_self
          refine ⟨fun bb u eb => ?_, dn ++ [yd], vs ++ [v], zL, ?_, ?_, ?_, rest', e10, ?_⟩
          · rw [zp (zB eb hD)]; exact s28 _ _ (sm _ _ eb)
          · rw [eh]; exact (rd.same (zG s28)).append (.cons b8 .nil)
          · rw [List.length_append, List.length_singleton]; omega
          · exact SR.accUpd (back ((r6.same s7).same s8)) h0D List.mem_cons_self fun _ z => nomatch z
          · rw [ho, ← e11, List.append_assoc]; rfl
    · have ei : i = ds.length := by omega
      subst ei
      rw [List.drop_length] at e3
      cases e3
      refine .inl ⟨it.stop H2 sB, ?_⟩
      rw [List.append_nil] at ho
      subst ho
      have hH : upd (fun b => if b = D then none else H2 b) D (.lst vs) = H2 := by
        funext b
        by_cases e : b = D
        · subst e; rw [zL]; exact hD2.symm
        · rw [zp e]; exact if_neg e
      have hh : hide O (fun b => if b = D then none else H2 b) = hide (D :: O) H2 := by
        funext b
        unfold hide
        by_cases e : b = D
        · subst e; simp
        · simp [e]
      have q := k D vs (fun b => if b = D then none else H2 b) (fun b o eb => by
        have : b ≠ D := zB eb hHD
        show (if b = D then none else H2 b) = some o
        rw [if_neg this]; exact sm _ _ (s1 _ _ eb)) (if_pos rfl) (by rw [hh]; exact rd)
      rw [hH] at q
      exact q
  · cases e2
section
variable {X : Cx} {scope : Scope} {own N : List Str} {caps : List Nat} {tg iter elt : Expr} {pos : Pos} {gi : Env' → Option (List D)} {h : GT} {gt : Env' → Option Bool} {ge : Env' → Option D}
def PIfd (X : Cx) (ifs : List Expr) (g : Env' → Option Bool) : Prop := PIf X ifs (tTd X.K g)
theorem zdW : PIfd X [] (fun _ => some true) := fun pins s σ H Q I ⟨F, O, ρ, b, r, e, k⟩ => by
  cases e
  exact zgg pins s σ H Q I (k H (Same.refl _))
theorem vR {c : Expr} {g : Env' → Option Bool} (hc : PTd X c g) : PIfd X [c] g := zfY hc
theorem qI {ifs : List Expr} (S : CompOk X scope own caps N) (nd : caps.Nodup) (ov : Over own.length h) (hc : X.calm = true) (hi : PId X tg iter gi) (hg : zU X N scope fun Y => PGd Y tg h) (ht : zU X N scope fun Y => PIfd Y ifs gt) (he : zU X N scope fun Y => PD Y elt ge)
    (hs : ∀ x, foldedSetIterable iter X.env x = pure x := by intro _; rfl) : PFr X (.ListComp elt [⟨tg, iter, ifs, 0⟩] scope pos) (qG own.length caps gi h gt ge) :=
  PE.imp (zgc (g := tGd X.K h) (tt := tTd X.K gt) (te := tD X.K ge) S hc hi (fun cl C s H fp => hg cl C s H fp) (fun cl C s H fp => ht cl C s H fp) (fun cl C s H fp => he cl C s H fp) hs) fun _ _ _ q => vf nd ov q
theorem zcT {ifs : List Expr} {i : Nat} {x : Str} {px spos : Pos} (S : CompOk X scope own caps N) (nd : caps.Nodup) (ov : Over own.length h) (hc : X.calm = true) (hi : PId X tg iter gi) (hg : zU X N scope fun Y => PGd Y tg h) (ht : zU X N scope fun Y => PIfd Y ifs gt) (he : zU X N scope fun Y => PD Y elt ge)
    (hN : X.N.Nodup) (hx : X.N[i]? = some x) (hl : X.env.scope.names.lookup x = some .local) (hsw : swapsWith (.ListComp elt [⟨tg, iter, ifs, 0⟩] scope pos) (some (.Name x px)) spos.line X.env = pure true)
    (hs : ∀ x, foldedSetIterable iter X.env x = pure x := by intro _; rfl) : PSd X (.Assign [.Name x px] (.ListComp elt [⟨tg, iter, ifs, 0⟩] scope pos) spos) (sOwn i (qG own.length caps gi h gt ge)) :=
  PS.imp (zba (g := tGd X.K h) (tt := tTd X.K gt) (te := tD X.K ge) S hc hi (fun cl C s H fp => hg cl C s H fp) (fun cl C s H fp => ht cl C s H fp) (fun cl C s H fp => he cl C s H fp) hN hx hl hsw hs) fun D σ H q => by
    obtain ⟨F, O, ρ, ds, r, e, k⟩ := zch q
    exact vf nd ov ⟨F, O, ρ, ds, r, e, k⟩
end
end L2.Y
namespace L2.Y
open PySem PySem.Spec PyProof.Rows
section
variable {X : Cx}
theorem xR {i : Nat} {x : Str} {e : Expr} {p apos cpos pos : Pos} {ge : Env' → Option D} (hv : PE X (.Name x p) (tVar i)) (he : PD X e ge)
    (hbase : attributeBase (.Name x p) "append" X.env (eval (.Name x p) X.env) = eval (.Name x p) X.env := by rfl)
    (hfew : ((backTo cpos (starEach [e] X.env)).all (fun x => !x.1) && (backToKw cpos (keywordEach [] X.env)).all (fun x => x.1.isSome)
      && decide (([e] : List Expr).length + ([] : List Keyword).length + (if ([] : List Keyword).isEmpty then 0 else 1) < 30)) = true := by rfl)
    (hline : (apos.endLine == cpos.line) = true := by rfl) (hs : starEach [e] X.env = [(false, eval e X.env)] := by rfl)
    (hsw : swapsWith (.Call (.Attribute (.Name x p) "append" apos) [e] [] cpos) none pos.line X.env = pure false := by rfl) :
    PSd X (.Expr (.Call (.Attribute (.Name x p) "append" apos) [e] [] cpos) pos) (sApp i ge) :=
  PS.imp (zfp (zhy PySem.F.plainAttrs_list PySem.F.slot_list_append PySem.F.type_list_append kz hv (yr he zat hs) hbase hfew hline hs (by rfl)) hsw) fun D σ H ⟨F, O, ρ, out, r, e, k⟩ => by
    obtain ⟨d, e1, e2⟩ := Option.bind_eq_some_iff.mp e
    obtain ⟨ds, e3, e4⟩ := Option.bind_eq_some_iff.mp e2
    split at e4
    · rename_i hl
      cases e4
      have ho := ku e3
      obtain ⟨q, h1, h2, h3, h4⟩ := r.own i _ ho
      cases h4 with
      | lst hq rq =>
        rename_i xs
        refine ⟨_, h1, .inl ⟨rfl, xs, SqL.of hq⟩, F, O, ρ, d, r, e1, fun v H1 s1 b1 => ?_⟩
        refine ⟨q, xs, v, rfl, rfl, s1 _ _ hq, by rw [← rq.length]; exact hl, ?_⟩
        refine k O σ _ ((r.same s1).mut ho h1 (.lst zL ?_))
        rw [zQ h2]
        exact (rq.same (zG s1)).append (.cons b1 .nil)
    · cases e4
theorem zdE {i : Nat} {x : Str} {e ix : Expr} {p spos pos : Pos} {gi ge : Env' → Option D} (hv : PE X (.Name x p) (tVar i)) (hi : PB X ix gi) (he : PD X e ge)
    (hs : swapsWithSole [.Subscript (.Name x p) ix spos] e pos.line X.env = pure false := by rfl) (hw : swappedStores [.Subscript (.Name x p) ix spos] e X.env = pure none := by rfl)
    (h1 : (assignEach [.Subscript (.Name x p) ix spos] X.env).map (·.2) = [assign (.Subscript (.Name x p) ix spos) X.env] := by rfl)
    (ha : ∀ v, assign (.Subscript (.Name x p) ix spos) X.env v = (do
      let ov ← holding [v] (eval (.Name x p) X.env)
      let iv ← holding [v, ov] (eval ix X.env)
      standAt spos
      holding [v, ov, iv] (setItem ov iv v)
      release [v, ov, iv] []) := by intro _; rfl) :
    PSd X (.Assign [.Subscript (.Name x p) ix spos] e pos) (zeJ i gi ge) :=
  PS.imp (zaz he (zg1 hv hi set_list ha) hs hw h1) fun D σ H ⟨F, O, ρ, out, r, e, k⟩ => by
    obtain ⟨d, e1, e2⟩ := Option.bind_eq_some_iff.mp e
    obtain ⟨kd, e3, e4⟩ := Option.bind_eq_some_iff.mp e2
    split at e4
    · rename_i j
      obtain ⟨ds, e5, e6⟩ := Option.bind_eq_some_iff.mp e4
      obtain ⟨n, e7, e8⟩ := Option.bind_eq_some_iff.mp e6
      cases e8
      have ho := ku e5
      refine ⟨F, O, ρ, d, r, e1, fun v H1 s1 b1 => ?_⟩
      have r1 := r.same s1
      obtain ⟨q, g1, g2, g3, g4⟩ := r1.own i _ ho
      cases g4 with
      | lst hq rq =>
        rename_i xs
        refine ⟨_, g1, F, O, ρ, _, r1, e3, fun iv H2 s2 b2 => ?_⟩
        cases b2.int
        refine ⟨q, xs, j, n, rfl, rfl, s2 _ _ hq, by rw [← rq.length]; exact e7, ?_⟩
        refine k O σ _ ((r1.same s2).mut ho g1 (.lst zL ?_))
        rw [zQ g2]
        exact (rq.same (zG s2)).set n (b1.same (zG s2))
    · cases e4
end
def spD (K : Frag) (n : Nat) (f : List D → Option D) : Sp := fun vs H Q _ => ∃ O ds d, Dom O H ∧ Reps K (hide O H) ds vs ∧ ds.length = n ∧ f ds = some d ∧ ∀ v H', Same H H' → Rep K (hide O H') d v → Q v H'
theorem zeE {K : Frag} {O : List Addr} {H : Hp} {N : List Str} {ds : List D} {vs : List V} (hO : Dom O H) (r : Reps K (hide O H) ds vs) (hl : ds.length ≤ N.length) : SR K ⟨H, O, hide O H⟩ O (qP N.length ds) (start N vs) H := by
  have elen := r.length
  have split : ∀ {i : Nat} {e : En}, (qP N.length ds)[i]? = some (some e) → ∃ d, ds[i]? = some d ∧ e = .val d := fun {i e} h => by
    unfold qP at h
    by_cases hi : i < ds.length
    · rw [List.getElem?_append_left (by simpa using hi), List.getElem?_map] at h
      obtain ⟨d, h1, h2⟩ := Option.map_eq_some_iff.mp h
      exact ⟨d, h1, (Option.some.inj h2).symm⟩
    · rw [List.getElem?_append_right (by simpa using hi), List.getElem?_replicate] at h
      split at h <;> cases h
  refine ⟨Same.refl _, Same.refl _, fun _ h => h, hO, ?_, fun i d h => ?_, fun i d h => ?_, fun i j d d' p h => ?_⟩
  · unfold start qP
    rw [List.length_append, List.length_append, List.length_map, List.length_map, List.length_replicate, List.length_replicate]
    omega
  · obtain ⟨d', h1, h2⟩ := split h
    cases h2
    obtain ⟨v, g1, g2⟩ := r.get h1
    refine ⟨v, ?_, g2⟩
    unfold start
    have hi : i < vs.length := (List.getElem?_eq_some_iff.mp g1).1
    rw [List.getElem?_append_left (by simpa using hi), List.getElem?_map, g1]
    rfl
  · obtain ⟨d', h1, h2⟩ := split h
    cases h2
  · obtain ⟨d', h1, h2⟩ := split h
    cases h2
abbrev cxD (P : Program) (w : World) (K : Frag) (mg : Str → Option Value) (base : Heap) (N : List Str) (qual : Str) (st : Stmt) (f : Addr) (cdv : Value) (A : Around) (outer : List Env) (s : Shared) (H : Hp) (E : XK) : Cx :=
  (cxOf CX0 P w K mg base N qual (zf st) f cdv A outer s H E).nox
section
variable {P : Program} {w : World} {K : Frag} {mg : Str → Option Value} {base : Heap}
theorem xV {x qual : Str} {st : Stmt} {f : Addr} {fd : FuncData} {N ps : List Str} {k : Nat} {g : GS} (F : Fun K x qual st f fd) (S : FnScope N ps (zf st))
    (hb : ∀ (cdv : Value) (A : Around) (outer : List Env) (s : Shared) (H : Hp) (E : XK), Room k (A.deeper (envOfC qual (zf st) s.heap.objs.size f cdv)) → PSsd (cxD P w K mg base N qual st f cdv A outer s H E) (zm st) g) :
    FnOk P w K mg base CX0 (k + 1) f fd ps (spD K ps.length (qk N.length g)) := by
  have hpl : ps.length ≤ N.length := by have := congrArg List.length S.pre; rw [List.length_take] at this; omega
  refine F.ok S (fun vs H Q E h => ?_) (fun cdv A outer s H vs Q E hr h => ?_)
  · obtain ⟨O, ds, d, _, r, hl, _⟩ := h
    rw [← r.length]; exact hl
  · obtain ⟨O, ds, d, hO, r, hl, e, k⟩ := h
    obtain ⟨o, e1, e2⟩ := Option.bind_eq_some_iff.mp e
    refine ⟨_, hb cdv A outer s H E hr, ⟨H, O, hide O H⟩, O, qP N.length ds, o, zeE hO r (by omega), e1, ?_⟩
    cases o with
    | ret d' => cases e2; exact fun v H' s b => k v H' s b
    | nxt ρ' =>
      cases e2
      exact fun O' σ' H' r' => k .non H' r'.hb .non
    | brk _ => cases e2
    | cnt _ => cases e2
end
section
variable {X : Cx}
theorem zI {k n : Nat} {f : Addr} {fd : FuncData} {ps : List Str} {fn : List D → Option D} {x : Str} {p pos : Pos} {e : Expr} {es : List Expr} {g : Env' → Option (List D)} (F : FnOk X.prog X.w X.K X.mg X.base CX0 k f fd ps (spD X.K n fn)) (hr : Room k X.A) (hg : Gl X x) (hm : X.mg x = some (.ref f)) (hk : PySem.W.keepIn X.K (.ref f) = true) (hb : Binds X.K fd ps [])
    (ha : PAd X (e :: es) g) (hdb : (x == ("__debug__" : Str)) = false := by decide) (he : starEach (e :: es) X.env = (false, eval e X.env) :: starEach es X.env := by exact jC rfl) (hpl : (backTo pos (starEach es X.env)).any (·.1) = false := by rfl) :
    PD X (.Call (.Name x p) (e :: es) [] pos) (gA (zS n fn) g) :=
  PE.imp (zfs F hr hg hm hk hb .nil zhB ha hdb he hpl) fun σ H Q ⟨F', O, ρ, d, r, e, k⟩ => by
    obtain ⟨ds, e1, e2⟩ := vD e
    unfold zS at e2
    split at e2
    · rename_i hl
      refine ⟨F', O, ρ, ds, r, e1, fun vs H1 s1 b1 => ?_⟩
      show spD X.K n fn (vs ++ []) H1 Q E0
      rw [List.append_nil]
      exact ⟨O, ds, d, (r.same s1).dom, b1, hl, e2, fun v H' s2 b2 => k v H' (s1.trans s2) b2⟩
    · cases e2
def tyN : D → String
  | .none => "NoneType"
  | .bool _ => "bool"
  | .int _ => "int"
  | .str _ => "str"
  | .list _ => "list"
  | .tuple _ => "tuple"
  | .dict _ => "dict"
theorem zei (K : Frag) (d : D) : PySem.W.kitOne K (.type (tyN d)) (.type "bool") = some (zc3 d) := by cases d <;> rfl
theorem zbw {pins : List (Addr × Obj)} {σ : St} {H : Hp} {s : Shared} {d : D} {x : V} {u c : Value} {b : Bool} {Q : Value → Shared → Prop} {E : Value → Shared → Prop} (I : Inv X pins σ H s) (r : Rep X.K H d x) (nd : ∀ z, d ≠ .dict z) (rx : RelV x u) (e : PySem.W.kitOne X.K (.type (tyN d)) c = some b) (h : ∀ tk, Q (.bool b) { s with toks := tk }) :
    wpAny (model X.prog X.w) X.A (call (.builtin "isinstance") [u, c]) Q E s := by
  cases r with
  | non => exact qr I rx .non e h
  | bl y => exact qr I rx (.bl y) e h
  | int i => exact qr I rx (.int i) e h
  | str y => exact qr I rx (.str y) e h
  | @tup a xs ds sq _ =>
    obtain rfl : u = Value.ref a := rx
    obtain ⟨its, _, ⟨o, h1, h2, _⟩, _⟩ := I.tuple (.inl (.inl sq))
    exact PySem.W.kia_one PySem.W.kitx_tuple I.kIn ⟨o, h1, h2⟩ e (fun z => nomatch z) h
  | lst rd _ =>
    rcases rd with rd | ⟨o, rd⟩
    · exact qr I rx (.lst rd) e h
    · exact qr I rx (.frz rd) e h
  | dK hd _ => exact absurd rfl (nd _)
  | dT hd _ => exact absurd rfl (nd _)
  | dF hd _ => exact absurd rfl (nd _)
  | scr hd _ => exact absurd rfl (nd _)
  | adr _ => exact absurd rfl (nd _)
theorem zdT {f : D → Bool} {d r : D} (h : isI f d = some r) : r = .bool (f d) ∧ ∀ z, d ≠ .dict z := by
  cases d <;> first | (cases h; exact ⟨rfl, fun z e => nomatch e⟩) | cases h
theorem zbI {T : String} {x : Str} {f : D → Bool} {a : Expr} {p q pos : Pos} {ga : Env' → Option D} (hk : ∀ d, PySem.W.kitOne X.K (.type (tyN d)) (.type T) = some (f d)) (ha : PB X a ga) (hg : Gl X "isinstance") (hm : X.mg "isinstance" = none) (hg2 : Gl X x) (hm2 : X.mg x = none)
    (hv : bootBuiltins "isinstance" = some (.builtin "isinstance")) (hv2 : bootBuiltins x = some (.type T)) (hn : x ≠ "__name__" := by decide) (hdb : (x == ("__debug__" : Str)) = false := by decide)
    (he : starEach [a, .Name x q] X.env = (false, eval a X.env) :: starEach [.Name x q] X.env := by rfl) (hpl : (backTo pos (starEach [.Name x q] X.env)).any (·.1) = false := by rfl) : PD X (.Call (.Name "isinstance" p) [a, .Name x q] [] pos) (g1 (isI f) ga) := by
  have hc : xg X (.builtin "isinstance") (fun xs H Q => ∃ y O d, xs = [y, .ty T] ∧ RepB X.K O H d y ∧ (∀ z, d ≠ .dict z) ∧ Q (.bl (f d)) H) := by
    intro pins s σ H xs us Q I rv ⟨y, O, d, e, rb, nd, q⟩
    subst e
    cases rv with
    | cons r1 rr =>
      obtain ⟨u2, rfl, r2⟩ := vals1 rr
      obtain rfl : u2 = Value.type T := r2
      exact zbw I rb.full nd r1 (hk d) fun tk => ⟨.bl (f d), H, I.tok tk, rfl, q⟩
  exact PE.imp (wr hc hg hm hv (yr ha (yr (zf1 (v := .ty T) hg2 hm2 hv2 rfl hn hdb) zat) he) (by decide) (by decide) he hpl) fun σ H Q ⟨F, O, ρ, d, r, e, k⟩ => by
    obtain ⟨dx, e1, e2⟩ := zcB e
    obtain ⟨rfl, nd⟩ := zdT e2
    exact ⟨F, O, ρ, dx, r, e1, fun v H1 s1 b1 => ⟨v, O, dx, rfl, b1, nd, k _ H1 s1 (.bl _)⟩⟩
end
end L2.Y
namespace L2.Y
open PySem PySem.Spec PyProof.Rows
section
variable {X : Cx}
variable {a b c : Expr} {pos : Pos} {ga gb gc : Env' → Option D}
def zhc (oscope : Scope) (oN : List Str) (scope : Scope) (own : List Str) (caps : List Nat) (N : List Str) : Bool :=
  decide (scope.kind = .function) && scope.names.all (fun y => decide (y.2 ≠ .cell)) && scope.names.all (fun y => decide (y.2 = .local → scope.names.lookup y.1 = some .local)) &&
  scope.names.all (fun y => decide (y.2 = .free → oscope.names.lookup y.1 = some .cell ∨ oscope.names.lookup y.1 = some .free)) && decide N.Nodup && decide (N = own ++ caps.map fun j => oN.getD j Str.empty) &&
  caps.all (fun j => decide (j < oN.length) && decide (scope.names.lookup (oN.getD j Str.empty) = some .free)) && decide caps.Nodup
theorem jf {oscope scope : Scope} {oN own N : List Str} {caps : List Nat} (h : zhc oscope oN scope own caps N = true) (h1 : X.env.scope = oscope) (h2 : X.N = oN) : CompOk X scope own caps N := by
  unfold zhc at h
  simp only [Bool.and_eq_true, decide_eq_true_eq, List.all_eq_true] at h
  obtain ⟨⟨⟨⟨⟨⟨⟨a1, a2⟩, a3⟩, a4⟩, a5⟩, a6⟩, a7⟩, a8⟩ := h
  subst h1 h2
  refine ⟨a1, a2, a3, a4, a5, by rw [a6]; simp, fun k j hk => ?_⟩
  obtain ⟨b1, b2⟩ := a7 j (List.mem_of_getElem? hk)
  refine ⟨X.N.getD j Str.empty, by simp [List.getD, b1], ?_, b2⟩
  rw [a6, List.getElem?_append_right (Nat.le_add_right _ _), Nat.add_sub_cancel_left, List.getElem?_map, hk]
  rfl
theorem zdv {K : Frag} {H : Hp} {is : List Int} {xs : List V} {us : List Value} (r : Reps K H (is.map PyData.int) xs) (v : Vals xs us) : IntsAre us is := by
  cases r.ints
  exact intsAre_of v
theorem xP (hc : X.calm = true) : ym X (.builtin "sum") sumD := by
  intro pins s σ H O xs us ds d Q I hO rv bs e k
  have fin : ∀ {is : List Int} {h' : Heap} {tk : Nat} {t' : Tok}, d = .int is.sum → (∀ b o, s.heap.get? b = some o → h'.get? b = some o) → EP X pins σ Q (.int is.sum t') { s with heap := h', toks := tk } := fun {is h' tk t'} ed hk => by
    subst ed
    exact zfa (I.kept (t' := tk) hk) k
  unfold sumD at e
  split at e
  · obtain ⟨is, e1, e2⟩ := Option.map_eq_some_iff.mp e
    cases jU e1
    obtain ⟨v, rfl, b⟩ := bs.inv1
    obtain ⟨a, ys, rfl, sq, rs⟩ := b.lst
    obtain ⟨u, rfl, ru⟩ := vals1 rv
    obtain rfl : u = Value.ref a := ru
    obtain ⟨its, r, pl, hz⟩ := I.list sq
    have hi := zdv rs r
    obtain ⟨zs, hx⟩ := hi.allInts.items
    have hl' : s.heap.IsList a (intItems zs) := hx ▸ pl.isList
    refine sum_intListG (I.ok.hd hc) hl' fun h' tk t' hk => ?_
    have e1 : is = zs.toList.map (·.1) := by
      rw [← nums_intItems, ← hx]
      exact (show numsOf its.toArray.toList = is from hi.numsOf).symm
    have e3 : preSum (numAt zs) zs.size = is.sum := by
      rw [preSum_eq, List.take_of_length_le (by simp), e1]
    rw [e3]
    exact fin e2.symm hk
  · obtain ⟨is, e1, e2⟩ := Option.map_eq_some_iff.mp e
    cases jU e1
    obtain ⟨v, rfl, b⟩ := bs.inv1
    obtain ⟨a, ys, rfl, sq, rs⟩ := b.tup
    obtain ⟨u, rfl, ru⟩ := vals1 rv
    obtain rfl : u = Value.ref a := ru
    obtain ⟨its, r, pl, hz⟩ := I.tuple sq
    have hi := zdv rs r
    obtain ⟨zs, hx⟩ := hi.allInts.items
    have hl' : s.heap.IsTuple a (intItems zs) := hx ▸ pl
    refine PySem.W.ktm_sumG (I.ok.hd hc) hl' fun h' tk t' hk => ?_
    have e1 : is = zs.toList.map (·.1) := by
      rw [← nums_intItems, ← hx]
      exact (show numsOf its.toArray.toList = is from hi.numsOf).symm
    have e3 : preSum (numAt zs) zs.size = is.sum := by
      rw [preSum_eq, List.take_of_length_le (by simp), e1]
    rw [e3]
    exact fin e2.symm hk
  · cases e
end
end L2.Y
namespace L2.Y
open PySem PySem.Spec PyProof.Rows
section
variable {X : Cx}
def tOd (K : Frag) (g : GO) : TO := fun σ H Q => ∃ F O ρ o, SR K F O ρ σ H ∧ g ρ = some o ∧ ∀ H', Same H H' → Q o H'
def POd (X : Cx) (e : Option Expr) (g : GO) : Prop := PO X e (tOd X.K g)
theorem PO.imp {e : Option Expr} {t t' : TO} (h : PO X e t) (k : ∀ σ H Q, t' σ H Q → t σ H Q) : PO X e t' := fun pins s σ H Q I q => h pins s σ H Q I (k σ H Q q)
theorem qY : POd X none jN := PO.imp zfI fun σ H Q ⟨F, O, ρ, o, r, e, k⟩ => by
  cases e
  exact k H (Same.refl _)
theorem xb {e : Expr} {g : Env' → Option D} (h : PB X e g) : POd X (some e) (jz g) := PO.imp (zfm h) fun σ H Q ⟨F, O, ρ, o, r, e, k⟩ => by
  obtain ⟨d, e1, e2⟩ := Option.bind_eq_some_iff.mp e
  split at e2
  · rename_i i
    cases e2
    exact ⟨F, O, ρ, _, r, e1, fun v H' s b => ⟨i, b.int, k H' s⟩⟩
  · cases e2
theorem xw {t sl : Addr} {items : Array Value} {vl vu : Value} {lo hi : Option Int} {prog : Program} {w : World} {A : Around} {E : Value → Shared → Prop} {s : Shared} {Q : Value → Shared → Prop} (ht : IsTup s.heap t items) (hs : s.heap.IsSliceOf sl vl vu .none) (pl : IsPart vl lo) (pu : IsPart vu hi)
    (hw : HT.sIx items.size 0 lo = 0 ∧ HT.sIx items.size items.size hi = items.size) (h : Q (.ref t) s) : wpAny (model prog w) A (getItem (.ref t) (.ref sl)) Q E s := by
  obtain ⟨os, hos, hcs, hds⟩ := id hs
  have hTs : s.TypeIs (.ref sl) "slice" := ⟨os, hos, hcs⟩
  unfold getItem
  try with_reducible refine wpAny_holding ?_
  first | refine wpAny_bind (wpAny_pure ?_) | skip
  refine wpAny_bind (wpAny_sequenceKey ht.typeIs (by decide) ?_)
  refine wpAny_bind (wpAny_callSpecial?_slot (name := Str.ofString "__getitem__") ht.typeIs PyProof.Rows.slot_tuple_getitem
    (wpAny_call_entry PyProof.Rows.slot_tuple_getitem ht.typeIs entry_tuple_getitem ?_ (args_tuple_getitem _ _)))
  show wpAny _ _ (Builtin.Tuple.tupleItemsOf (.ref t) >>= _) _ _ s
  refine wpAny_bind (tupleItemsOf_ ht ?_)
  refine wpAny_bind (wpAny_typeOf hTs ?_)
  rw [if_pos (by decide)]
  refine wpAny_bind (HT.sliceApplied_gen hs pl pu ?_)
  have hyes : (((HT.sIx items.size 0 lo : Nat) : Int) == 0 && (1 : Int) == 1 && (HT.sIx items.size items.size hi - HT.sIx items.size 0 lo) == items.size) = true := by
    rw [hw.1, hw.2]; simp
  show wpAny _ _ (if (((HT.sIx items.size 0 lo : Nat) : Int) == 0 && (1 : Int) == 1 && (HT.sIx items.size items.size hi - HT.sIx items.size 0 lo) == items.size) = true then _ else _) _ _ s
  rw [if_pos hyes]
  refine wpAny_bind ?_
  unfold Builtin.Tuple.tupleIsExact
  refine wpAny_bind (wpAny_typeOf ht.typeIs (wpAny_pure ?_))
  rw [if_pos (by decide)]
  exact wpAny_bind (wpAny_rule (wpAny_pure ⟨_, rfl, wpAny_pure h⟩))
theorem vZ {K : Frag} {H : Hp} {ds : List D} {xs : List V} {lo hi : Option Int} (r : Reps K H ds xs) : Reps K H (cutD ds lo hi) (cutV xs lo hi) := by
  unfold cutD cutV
  rw [r.length]
  exact (r.drop _).take _
theorem zhx : SlR X (fun x lo hi H Q => ∃ O dx d, Dom O H ∧ RepB X.K O H dx x ∧ slD dx lo hi = some d ∧ ∀ z H', Same H H' → Rep X.K (hide O H') d z → Q z H') := by
  intro pins s σ H x v vl vu lo hi sl Q I rx hs pl pu ⟨O, dx, d, hO, b, e, k⟩
  unfold slD at e
  split at e
  · rename_i ds
    cases e
    obtain ⟨a, xs, rfl, sq, rs⟩ := b.tup
    by_cases hw : HT.sIx xs.length 0 lo = 0 ∧ HT.sIx xs.length xs.length hi = xs.length
    · obtain rfl : v = Value.ref a := rx
      obtain ⟨its, r, ht, hz⟩ := I.tuple sq
      have hlen : its.toArray.size = xs.length := by rw [List.size_toArray]; exact r.length.symm
      refine ⟨"tuple", _, PyProof.Rows.slot_tuple_getitem.lookup, ht.typeIs, ?_⟩
      refine xw ht hs pl pu (by rw [hlen]; exact hw) ⟨.ref a, H, I, rfl, k _ H (Same.refl _) ?_⟩
      have : cutD ds lo hi = ds := by
        unfold cutD
        rw [rs.length, hw.1, hw.2, Nat.sub_zero, List.drop_zero, ← rs.length, List.take_length]
      rw [this]
      exact xM b
    · exact zgK pins s σ H _ v vl vu lo hi sl Q I rx hs pl pu ⟨a, xs, rfl, sq, hw, fun p hp => k _ _ (zK hp) (qZ hp (hO.out hp) (vZ rs))⟩
  · cases e
    obtain ⟨a, xs, rfl, sq, rs⟩ := b.lst
    exact zfC pins s σ H _ v vl vu lo hi sl Q I rx hs pl pu ⟨a, xs, rfl, sq, fun p hp => k _ _ (zK hp) (wx hp (hO.out hp) (vZ rs))⟩
  · cases e
theorem qX {e : Expr} {lo hi : Option Expr} {p2 pos : Pos} {ga : Env' → Option D} {gl gh : GO} (he : PB X e ga) (hl : POd X lo gl) (hu : POd X hi gh) : PD X (.Subscript e (.Slice lo hi none p2) pos) (gSl ga gl gh) :=
  PE.imp (zeb zhx he hl hu) fun σ H Q ⟨F, O, ρ, d, r, e, k⟩ => by
    obtain ⟨dx, e1, e⟩ := Option.bind_eq_some_iff.mp e
    obtain ⟨l, e2, e⟩ := Option.bind_eq_some_iff.mp e
    obtain ⟨h, e3, e⟩ := Option.bind_eq_some_iff.mp e
    refine ⟨F, O, ρ, dx, r, e1, fun x H1 s1 b1 => ⟨F, O, ρ, l, r.same s1, e2, fun H2 s2 => ⟨F, O, ρ, h, (r.same s1).same s2, e3, fun H3 s3 => ?_⟩⟩⟩
    exact ⟨O, dx, d, (((r.same s1).same s2).same s3).dom, b1.same (s2.trans s3), e, fun z H' s4 b4 => k z H' (s1.trans (s2.trans (s3.trans s4))) b4⟩
end
end L2.Y
namespace L2.Y
open PySem PySem.Spec PyProof.Rows
theorem wn : fillsNumberSlot (.type "tuple") "mul" = pure false :=
  PySem.fillsNumberSlot_seq (id := "tuple.__mul__") (r := some (.builtin "tuple.__rmul__")) PySem.F.slot_tuple_mul.lookup (by decide +kernel) PySem.F.slot_tuple_rmul.lookup (by decide +kernel)
theorem kq : seqRepeat? (.type "tuple") = pure (some (.builtin "tuple.__mul__")) := by
  unfold seqRepeat?
  rw [PySem.seqSlot_of (T := "tuple") (name := "__mul__") (id := "tuple.__mul__") PySem.F.slot_tuple_mul.lookup (by decide +kernel), PySem.seqSlot_of (T := "tuple") (name := "__rmul__") (id := "tuple.__rmul__") PySem.F.slot_tuple_rmul.lookup (by decide +kernel)]
  rfl
section
open PySem.SeqAt
open PySem.AutoSeq1 (wpAny_loadPart')
open PySem.MeetsSeq PySem.MeetsSeq2 PySem.MeetsSeq3
theorem yA (a : Int) (t : Tok) (l : Addr) (items : Array Value) (n : Nat) (dd : Option Addr) (sl : Array (Option Value)) :
    Meets (Builtin.«int.__rmul__» ⟨[.int a t, .ref l], []⟩) (fun _ R s => s.heap.get? l = some { cls := .type "tuple", dict := dd, data := .seq items n, slots := sl } ∧ R (.ok (.ret Value.notImplemented)) s) :=
  .of_wp fun prog w A R s h => by obtain ⟨hp, g, d, tk, os⟩ := s; obtain ⟨hl, h⟩ := h; wp_walk; exact ⟨_, rfl, h⟩
theorem yy (l : Addr) (items : Array Value) (n : Nat) (dd : Option Addr) (sl : Array (Option Value)) (x : Int) (u : Tok) (h1 : (decide (x < -(2 ^ 63)) || decide (x ≥ 2 ^ 63)) = false) (h2 : (items.isEmpty || x == 1) = true) :
    Meets (Builtin.«tuple.__mul__» ⟨[.ref l, .int x u], []⟩) (fun _ R s => s.heap.get? l = some { cls := .type "tuple", dict := dd, data := .seq items n, slots := sl } ∧ R (.ok (.ret (.ref l))) s) :=
  .of_wp fun prog w A R s h => by
    obtain ⟨hp, g, d, tk, os⟩ := s; obtain ⟨hl, h⟩ := h
    have f1 := AutoSeq1.idx_int
    have f2 := AutoSeq1.sub_tuple_tuple
    wp_walk using wpAny_loadPart' hl
    rw [if_neg (by rw [h1]; exact Bool.false_ne_true)]
    wp_walk using wpAny_loadPart' hl
    exact ⟨_, rfl, h⟩
theorem yB (l : Addr) (items : Array Value) (n : Nat) (dd : Option Addr) (sl : Array (Option Value)) (x : Int) (u : Tok) (h1 : (decide (x < -(2 ^ 63)) || decide (x ≥ 2 ^ 63)) = false) (h2 : (items.isEmpty || x == 1) = false) (h3 : (decide (x ≤ 0) || items.isEmpty) = false)
    (h4 : ¬ (items.size : Int) * x > (2 ^ 63 - 1) / 8) (h5 : Builtin.Tuple.tupleTooMany (items.size * x) = false) (hsz : (List.foldl (fun x1 x2 => x1 ++ x2) #[] (List.replicate x.toNat items)).size ≤ sizeLine) :
    Meets (Builtin.«tuple.__mul__» ⟨[.ref l, .int x u], []⟩) (fun _ R s => s.heap.get? l = some { cls := .type "tuple", dict := dd, data := .seq items n, slots := sl } ∧
      R (.ok (.ret (.ref s.heap.objs.size))) { s with heap := s.heap.push { cls := .type "tuple", data := .seq (List.foldl (fun x1 x2 => x1 ++ x2) #[] (List.replicate x.toNat items)) } }) :=
  .of_wp fun prog w A R s h => by
    obtain ⟨hp, g, d, tk, os⟩ := s; obtain ⟨hl, h⟩ := h
    have f1 := AutoSeq1.idx_int
    have f2 := AutoSeq1.sub_tuple_tuple
    wp_walk using wpAny_loadPart' hl
    rw [if_neg (by rw [h1]; exact Bool.false_ne_true)]
    wp_walk using wpAny_loadPart' hl
    rw [if_neg h4]
    wp_walk
    exact ⟨_, rfl, h⟩
end
section
variable {X : Cx}
theorem Reps.rep {K : Frag} {H : Hp} {ds : List D} {xs : List V} (r : Reps K H ds xs) : ∀ k : Nat, Reps K H (List.replicate k ds).flatten (List.replicate k xs).flatten
  | 0 => .nil
  | k + 1 => by
    rw [List.replicate_succ, List.replicate_succ, List.flatten_cons, List.flatten_cons]
    exact r.append (Reps.rep r k)
theorem va (its : List Value) (m : Nat) : List.foldl (fun x1 x2 => x1 ++ x2) #[] (List.replicate m its.toArray) = (List.replicate m its).flatten.toArray := by
  have := foldl_rep its m []
  rw [List.nil_append] at this
  exact this
theorem jD : OpD X (binaryOp .Mult) qi := by
  intro pins s σ H O x y v u dx dy d Q I hO rx ry bx by' e k
  unfold qi at e
  split at e
  · rename_i i j
    unfold mulI at e
    split at e
    · cases e
      cases bx.int
      cases by'.int
      exact zgN pins s σ H _ _ v u Q I rx ry ⟨i, j, rfl, rfl, by assumption, k _ H (Same.refl _) (.int _)⟩
    · cases e
  · rename_i ds j
    obtain ⟨es, e1, rfl⟩ := Option.map_eq_some_iff.mp e
    unfold repD at e1
    split at e1
    · rename_i hc
      obtain ⟨c1, c2, c3⟩ := hc
      cases e1
      obtain ⟨l, xs, rfl, sq, rs⟩ := bx.lstR
      cases by'.int
      obtain rfl : v = Value.ref l := rx
      obtain ⟨t, rfl⟩ := ry
      obtain ⟨z, its, n, r, e⟩ := zaM I sq
      have hlen : its.toArray.size * j.toNat ≤ sizeLine := by rw [List.size_toArray, ← r.length, ← rs.length]; exact c3
      have hcap : ¬ its.toArray.size * j.toNat > (2 ^ 63 - 1) / 8 := by
        have : (sizeLine : Nat) ≤ (2 ^ 63 - 1) / 8 := by decide
        omega
      have hfit : ¬ (!Builtin.List.listFitsIndex j) = true := by
        rw [fitsIndex_both c1 c2]
        exact Bool.false_ne_true
      have hlong : ¬ Builtin.List.listTooLong (its.toArray.size * j.toNat) = true := by
        rw [zd6 hlen]
        exact Bool.false_ne_true
      have hnew : List.foldl (fun x1 x2 => x1 ++ x2) #[] (List.replicate (if its.toArray.isEmpty = true then 0 else j.toNat) its.toArray) = (List.replicate j.toNat its).flatten.toArray := by
        rw [va]
        cases its with
        | nil => simp
        | cons a r' => rw [if_neg (by simp)]
      refine wpAny_binaryOp_repeat_ref (T := "list") (U := "int") (by decide) ⟨_, e, rfl⟩ (fun s' => typeIs_int s' j t) noFill_list_mul F.fills_int_mul F.slot_int_rmul repeat_list F.slot_int_index.lookup
        (call_meets F.slot_int_rmul (typeIs_int s j t) F.entry_int_rmul (F.args_int_rmul_2 _ _) (int___rmul___int_list j t l its.toArray n)
          ⟨e, rfl, ⟨_, e, rfl⟩, call_meets F.slot_list_mul ⟨_, e, rfl⟩ F.entry_list_mul (F.args_list_mul_2 _ _) (AutoListH.list___mul___list_int_3 l its.toArray n j t hfit hcap hlong) ⟨e, ?_⟩⟩)
      rw [hnew]
      exact zcq (t' := s.toks) I hO (r.rep j.toNat) (by rw [len_rep, Nat.mul_comm, ← rs.length]; exact c3) (rs.rep j.toNat) k
    · cases e1
  · rename_i ds j
    split at e
    · rename_i hj
      obtain ⟨es, e1, rfl⟩ := Option.map_eq_some_iff.mp e
      unfold repD at e1
      split at e1
      · rename_i hc
        obtain ⟨c1, c2, c3⟩ := hc
        cases e1
        obtain ⟨l, xs, rfl, sq, rs⟩ := bx.tup
        cases by'.int
        obtain rfl : v = Value.ref l := rx
        obtain ⟨t, rfl⟩ := ry
        obtain ⟨its, r, ht, hz⟩ := I.tuple sq
        obtain ⟨⟨cls, dd, data, sl⟩, ho, hcl, n, hd⟩ := id ht
        simp only at hcl hd
        subst hcl hd
        have hlen : its.toArray.size * j.toNat ≤ sizeLine := by rw [List.size_toArray, ← r.length, ← rs.length]; exact c3
        have h1 : (decide (j < -(2 ^ 63)) || decide (j ≥ 2 ^ 63)) = false := by simp; omega
        refine wpAny_binaryOp_repeat_ref (T := "tuple") (U := "int") (by decide) ⟨_, ho, rfl⟩ (fun s' => typeIs_int s' j t) wn F.fills_int_mul F.slot_int_rmul kq F.slot_int_index.lookup
          (call_meets F.slot_int_rmul (typeIs_int s j t) F.entry_int_rmul (F.args_int_rmul_2 _ _) (yA j t l its.toArray n dd sl) ⟨ho, rfl, ⟨_, ho, rfl⟩, ?_⟩)
        by_cases h2 : (its.toArray.isEmpty || j == 1) = true
        · refine call_meets F.slot_tuple_mul ⟨_, ho, rfl⟩ F.entry_tuple_mul (F.args_tuple_mul_2 _ _) (yy l its.toArray n dd sl j t h1 h2) ⟨ho, ?_⟩
          have eq : (List.replicate j.toNat ds).flatten = ds := by
            rcases Bool.or_eq_true_iff.mp h2 with q | q
            · have : its = [] := by simpa using q
              have : xs = [] := (r.nil_iff).mp this
              subst this
              cases rs
              simp
            · have : j = 1 := by simpa using q
              subst this
              simp
          rw [eq] at k
          exact ⟨.ref l, H, I, rfl, k _ H (Same.refl _) (xM bx)⟩
        · have h2 : (its.toArray.isEmpty || j == 1) = false := by simpa using h2
          have h2' := Bool.or_eq_false_iff.mp h2
          have ej : ((its.toArray.size : Nat) : Int) * j = ((its.toArray.size * j.toNat : Nat) : Int) := by
            rw [Int.natCast_mul, Int.toNat_of_nonneg (by omega)]
          refine call_meets F.slot_tuple_mul ⟨_, ho, rfl⟩ F.entry_tuple_mul (F.args_tuple_mul_2 _ _) (yB l its.toArray n dd sl j t h1 h2 ?_ ?_ ?_ ?_) ⟨ho, ?_⟩
          · rw [h2'.1, Bool.or_false]; exact decide_eq_false (by omega)
          · rw [ej]
            have : (sizeLine : Nat) ≤ (2 ^ 63 - 1) / 8 := by decide
            omega
          · unfold Builtin.Tuple.tupleTooMany
            rw [ej]
            exact decide_eq_false (by omega)
          · rw [va, List.size_toArray, len_rep, Nat.mul_comm]
            simpa using hlen
          · rw [va]
            exact zdm (t' := s.toks) I hO (r.rep j.toNat) (by rw [len_rep, Nat.mul_comm, ← rs.length]; exact c3) (rs.rep j.toNat) k
      · cases e1
    · cases e
  · cases e
end
end L2.Y
namespace L2.Y
open PySem PySem.Spec PyProof.Rows
theorem vH {A : Around} {k : Nat} (hr : Room k A) : A.units + 66 < cLine := by have := hr.un; omega
theorem xt {A : Around} {k : Nat} (hr : Room k A) : A.units + 64 < cLine := by have := hr.un; omega
theorem zcE {A : Around} {k : Nat} (hr : Room k A) : A.units < cLine := by have := hr.un; omega
end L2.Y
namespace L2.Y
open PySem PySem.Spec PyProof.Rows
theorem zeX (kvs : List (Key × V)) (ds : List D) : tabT (.dict ((kvs.map fun p => keyD p.1).zip ds)) = none := by
  cases kvs with
  | nil => rfl
  | cons p r =>
    obtain ⟨k, v⟩ := p
    cases ds with
    | nil => rfl
    | cons d ds => cases k <;> rfl
theorem zgO {κ : Type} {f : κ → D} {K : Frag} {H : Hp} {kvs : List (κ × V)} {ds : List D} (r : Reps K H ds (kvs.map (·.2))) : ((kvs.map fun p => f p.1).zip ds).length = kvs.length := by
  have := r.length
  rw [List.length_map] at this
  rw [List.length_zip, List.length_map, this, Nat.min_self]
section
variable {K : Frag} {O : List Addr} {H : Hp} {d : D} {v : V} {p : Addr} {kds : List (D × D)}
theorem OwnAt.tabT (h : OwnAt K O H d p) (e : Y.tabT d = some kds) : ∃ kvs ds, H p = some (.dT kvs) ∧ Reps K (hide O H) ds (kvs.map (·.2)) ∧ kds = (kvs.map fun q => xF q.1).zip ds := by
  cases h with
  | lst h r => cases e
  | dK h r => rw [zeX] at e; cases e
  | dT h r => cases e; exact ⟨_, _, h, r, rfl⟩
theorem RepB.tabT (h : RepB K O H d v) (e : Y.tabT d = some kds) : ∃ a kvs ds, v = .ref a ∧ Rd H a (.dT kvs) ∧ Reps K (hide O H) ds (kvs.map (·.2)) ∧ kds = (kvs.map fun q => xF q.1).zip ds := by
  cases h with
  | val h =>
    cases h with
    | dK h r => rw [zeX] at e; cases e
    | dT h r => cases e; exact ⟨_, _, _, rfl, .inl (jJ h).2, r, rfl⟩
    | dF h r => cases e; exact ⟨_, _, _, rfl, .inr ⟨_, (jJ h).2⟩, r, rfl⟩
    | _ => cases e
  | own _ h =>
    obtain ⟨kvs, ds, h1, h2, h3⟩ := h.tabT e
    exact ⟨_, kvs, ds, rfl, .inl h1, h2, h3⟩
theorem Rep.keyV {k : Key} (h : Rep K H (keyD k) v) : v = kV k := by
  cases k with
  | inl i => cases h; rfl
  | inr x => cases h; rfl
theorem RepB.keyV {k : Key} (h : RepB K O H (keyD k) v) : v = kV k := by
  cases k with
  | inl i => exact RepB.int h
  | inr x => exact RepB.str h
theorem Reps.keysV : ∀ {ks : List Key} {vs : List V}, Reps K H (ks.map keyD) vs → vs = ks.map kV
  | [], _, h => by cases h; rfl
  | k :: ks, _, h => by
    cases h with
    | cons h r => rw [h.keyV, Reps.keysV r]; rfl
theorem RepB.tupH {ds : List D} (h : RepB K O H (.tuple ds) v) : ∃ a xs, v = .ref a ∧ H a = some (.tup xs) ∧ Reps K (hide O H) ds xs := by
  cases h with
  | val h =>
    cases h with
    | tup h r => exact ⟨_, _, rfl, (jJ h).2, r⟩
  | own _ h => cases h
theorem RepB.keysV {ks : List Key} (h : RepB K O H (xF ks) v) : ∃ b, v = .ref b ∧ H b = some (.tup (ks.map kV)) := by
  obtain ⟨a, xs, e, h1, h2⟩ := RepB.tupH h
  rw [h2.keysV] at h1
  exact ⟨a, e, h1⟩
end
section
variable {X : Cx}
theorem zdZ {a b : Expr} {pos : Pos} {ga gb : Env' → Option D} (hu : X.A.units + 1 < cLine) (ha : PB X a ga) (hb : PB X b gb) (hs : NoSl b) : PD X (.Subscript a b pos) (g2 zeo ga gb) :=
  PE.imp (zfA hu ha hb hs) fun σ H Q ⟨F, O, ρ, d, r, e, k⟩ => by
    obtain ⟨dx, dy, e1, e2, e3⟩ := vK e
    refine ⟨F, O, ρ, dx, r, e1, fun x H1 s1 b1 => ⟨F, O, ρ, dy, r.same s1, e2, fun y H2 s2 b2 => ?_⟩⟩
    obtain ⟨kds, e4, e⟩ := Option.bind_eq_some_iff.mp e3
    obtain ⟨key, e5, e⟩ := Option.bind_eq_some_iff.mp e
    obtain ⟨a, kvs, ds, rfl, ha, rs, rfl⟩ := (b1.same s2).tabT e4
    cases yO e5
    obtain ⟨b, rfl, hb⟩ := b2.keysV
    obtain ⟨v, hv, rv⟩ := (zaF kG key rs).1 d e
    exact ⟨a, v, rfl, .inr ⟨kvs, key, b, ha, rfl, hb, hv.symm⟩, k v H2 (s1.trans s2) rv⟩
theorem zbN {i : Nat} {ρ : Env'} {d : D} (h : ownD i ρ = some d) : ρ[i]? = some (some (.own d)) := by
  unfold ownD at h
  split at h
  · cases h; assumption
  · cases h
theorem vT {i : Nat} {x : Str} {e ix : Expr} {p spos pos : Pos} {gk ge : Env' → Option D} (hu : X.A.units + 1 < cLine) (hv : PE X (.Name x p) (tVar i)) (hk : PD X ix gk) (he : PD X e ge)
    (hs : swapsWith e (some (.Subscript (.Name x p) ix spos)) pos.line X.env = pure false := by rfl) : PSd X (.Assign [.Subscript (.Name x p) ix spos] e pos) (kU i gk ge) :=
  PS.imp (zfh hu hv hk he hs) fun D σ H ⟨F, O, ρ, out, r, e, k⟩ => by
    obtain ⟨d, e1, e⟩ := Option.bind_eq_some_iff.mp e
    obtain ⟨key, e2, e⟩ := Option.bind_eq_some_iff.mp e
    obtain ⟨dd, e3, e⟩ := Option.bind_eq_some_iff.mp e
    obtain ⟨kds, e4, e⟩ := Option.bind_eq_some_iff.mp e
    obtain ⟨kk, e5, e⟩ := Option.bind_eq_some_iff.mp e
    split at e
    · rename_i hl
      cases e
      have ho := zbN e3
      refine ⟨F, O, ρ, d, r, e1, fun v H1 s1 b1 => ?_⟩
      have r1 := r.same s1
      obtain ⟨q, g1, g2, g3, g4⟩ := r1.own i _ ho
      refine ⟨_, g1, F, O, ρ, key, r1, e2, fun y H2 s2 b2 => ?_⟩
      obtain ⟨kvs, ds, hq, rq, rfl⟩ := (g4.same s2).tabT e4
      cases yO e5
      obtain ⟨b, rfl, hb⟩ := (RepB.val b2).keysV
      obtain ⟨ds', e', rs'⟩ := zfJ kG kk (b1.same (zG s2)) rq
      refine ⟨q, _, rfl, DPut.t hq hb (by rw [zgO rq] at hl; exact hl), k O σ _ ((r1.same s2).mut ho g1 ?_)⟩
      rw [e']
      exact .dT zL (by rw [zQ g2]; exact rs')
    · cases e
theorem zco {tg : Expr} {i : Nat} {dpos pos : Pos} (hg : PG X tg (kR i)) (hs : swapsWithSole [tg] (.Dict [] [] dpos) pos.line X.env = pure false := by rfl) (hw : swappedStores [tg] (.Dict [] [] dpos) X.env = pure none := by rfl)
    (h1 : (assignEach [tg] X.env).map (·.2) = [assign tg X.env] := by rfl) : PSd X (.Assign [tg] (.Dict [] [] dpos) pos) (zeY i) := PS.imp (zaz zdN hg hs hw h1) fun D σ H ⟨F, O, ρ, out, r, e, k⟩ => by
  cases e
  intro p hp
  exact k (p :: O) _ _ (r.newOwn hp (.dT (kvs := []) (ds := []) zL .nil))
theorem RepB.scr {K : Frag} {O : List Addr} {H : Hp} {d : D} {v : V} {ds : List D} (h : RepB K O H d v) (e : scrQ d = some ds) : ∃ a xs, v = .ref a ∧ SqL K H a xs ∧ Reps K (hide O H) ds xs := by
  cases h with
  | val h =>
    cases h with
    | @dK a kvs es h r =>
      cases kvs with
      | nil => cases e
      | cons p r =>
        obtain ⟨k, w⟩ := p
        cases es with
        | nil => cases e
        | cons d es => cases k <;> cases e
    | dT h r => cases e
    | @scr a xs es h r =>
      have e' := (zb1 es).symm.trans e
      cases e'
      exact ⟨_, _, rfl, SqL.same jk h, r⟩
    | _ => cases e
  | own _ h =>
    cases h with
    | lst h r => cases e
    | @dK p kvs es h r =>
      cases kvs with
      | nil => cases e
      | cons p r =>
        obtain ⟨k, w⟩ := p
        cases es with
        | nil => cases e
        | cons d es => cases k <;> cases e
    | dT h r => cases e
theorem zgy {a b : Expr} {pos : Pos} {ga gb : Env' → Option D} (ha : PB X a ga) (hb : PB X b gb) (hs : zan b) : PD X (.Subscript a b pos) (g2 ixS ga gb) :=
  PE.imp (zgJ zce ha hb hs) fun σ H Q ⟨F, O, ρ, d, r, e, k⟩ => by
    obtain ⟨dx, dy, e1, e2, e3⟩ := vK e
    obtain ⟨ds, e4, e5⟩ := Option.bind_eq_some_iff.mp e3
    refine ⟨F, O, ρ, dx, r, e1, fun x H1 s1 b1 => ⟨F, O, ρ, dy, r.same s1, e2, fun y H2 s2 b2 => ?_⟩⟩
    split at e5
    · rename_i i
      obtain ⟨p, xs, rfl, sq, rs⟩ := (b1.same s2).scr e4
      cases b2.int
      obtain ⟨v, h1, h2⟩ := xr rs e5
      exact ⟨p, xs, i, v, rfl, rfl, sq, h1, k v H2 (s1.trans s2) h2⟩
    · cases e5
theorem zbm : ym X (.builtin "len") lenS := by
  intro pins s σ H O xs us ds d Q I hO rv bs e k
  unfold lenS at e
  split at e
  · obtain ⟨es, e1, rfl⟩ := Option.map_eq_some_iff.mp e
    obtain ⟨v, rfl, b⟩ := bs.inv1
    obtain ⟨a, ys, rfl, sq, rs⟩ := b.scr e1
    exact qQ pins s σ H _ us Q I rv ⟨a, ys, rfl, .inl sq, by rw [← rs.length]; exact k _ H (Same.refl _) (.int _)⟩
  · cases e
end
end L2.Y
namespace L2.Y
open PySem PySem.Spec PyProof.Rows PySem.W
def jr {α : Type} (lt : Nat → Nat → Bool) : KasT α → α
  | .ret a => a
  | .ask i j k => jr lt (k (lt i j))
theorem jB {α β : Type} {lt : Nat → Nat → Bool} {f : α → KasT β} : ∀ t : KasT α, jr lt (t.bind f) = jr lt (f (jr lt t))
  | .ret _ => rfl
  | .ask i j k => jB (k (lt i j))
section
variable {O : KeyOrd} (key : Nat → O.α)
def kLt (i j : Nat) : Bool := O.blt (key i) (key j)
def kk (p : Array Nat) (i : Nat) : O.α := key (p.getD i 0)
def SoT (p : Array Nat) (n : Nat) : Prop := ∀ i j, i ≤ j → j < n → O.kle (kk key p i) (kk key p j)
def NiT (p : Array Nat) (n : Nat) : Prop := ∀ i j, i ≤ j → j < n → O.kle (kk key p j) (kk key p i)
variable {key}
theorem zbZ {p q : Array Nat} {i j : Nat} (h : p[i]? = q[j]?) : kk key p i = kk key q j := by
  unfold kk
  rw [Array.getD_eq_getD_getElem?, Array.getD_eq_getD_getElem?, h]
theorem ky {p : Array Nat} {src d : Nat} (hs : src < p.size) (hd : d ≤ src) (k : Nat) :
    kk key (bubble p src d) k = if k = src - d then kk key p src else if src - d < k ∧ k ≤ src then kk key p (k - 1) else kk key p k := by
  have e := getElem?_bubble hs d hd k
  by_cases h1 : k = src - d
  · rw [if_pos h1] at e ⊢; exact zbZ e
  · rw [if_neg h1] at e ⊢
    by_cases h2 : src - d < k ∧ k ≤ src
    · rw [if_pos h2] at e ⊢; exact zbZ e
    · rw [if_neg h2] at e ⊢; exact zbZ e
theorem zcd {p : Array Nat} {i j : Nat} (hj : j ≤ p.size) (k : Nat) : kk key (kas_rev p i j) k = if i ≤ k ∧ k < j then kk key p (i + j - 1 - k) else kk key p k := by
  have e := getElem?_mirror_all (i := i) hj k
  by_cases h1 : i ≤ k ∧ k < j
  · rw [if_pos h1] at e ⊢; exact zbZ e
  · rw [if_neg h1] at e ⊢; exact zbZ e
theorem qS {p : Array Nat} {i j : Nat} (hj : j ≤ p.size) (heq : ∀ k, i ≤ k → k < j → kk key p k = kk key p (j - 1)) (k : Nat) : kk key (kas_rev p i j) k = kk key p k := by
  rw [zcd hj]
  split
  · rw [heq _ (by omega) (by omega), heq k (by omega) (by omega)]
  · rfl
theorem jQ (p : Array Nat) (i j : Nat) : (kas_rev p i j).Perm p := mirror_perm _ _ _ _
theorem wC (p : Array Nat) (i j : Nat) : (kas_rev p i j).size = p.size := mirror_size _ _ _ _
theorem zcl {p : Array Nat} : ∀ (f n : Nat), 1 ≤ n → n + f ≤ p.size → SoT key p n → ∃ m, jr (kLt key) (kas_asc p f n) = m ∧ n ≤ m ∧ m ≤ n + f ∧ SoT key p m ∧ (m = n + f ∨ O.klt (kk key p m) (kk key p (m - 1)))
  | 0, n, h1, hz, hs => ⟨n, rfl, Nat.le_refl _, Nat.le_refl _, hs, .inl rfl⟩
  | f + 1, n, h1, hz, hs => by
    show ∃ m, jr (kLt key) (if kLt key (p.getD n 0) (p.getD (n - 1) 0) = true then .ret n else kas_asc p f (n + 1)) = m ∧ _
    cases hless : kLt key (p.getD n 0) (p.getD (n - 1) 0) with
    | true =>
      rw [if_pos rfl]
      exact ⟨n, rfl, Nat.le_refl _, by omega, hs, .inr hless⟩
    | false =>
      rw [if_neg (by simp)]
      obtain ⟨m, e, a1, a2, a3, a4⟩ := zcl (p := p) f (n + 1) (by omega) (by omega) (fun i j hij hj => by
        by_cases hjx : j < n
        · exact hs i j hij hjx
        · have hj' : j = n := by omega
          subst hj'
          by_cases hi' : i = j
          · subst hi'; exact KeyOrd.kle_refl _
          · exact KeyOrd.kle_trans (hs i (j - 1) (by omega) (by omega)) hless)
      exact ⟨m, e, by omega, by omega, a3, a4.imp (fun z => by omega) id⟩
theorem za6 {p : Array Nat} {n nrem : Nat} (h1 : 1 ≤ n) (hn : n ≤ nrem) (hz : nrem ≤ p.size) (hs : NiT key p n) : ∃ m q, jr (kLt key) (kas_tail3 n nrem p) = (m, q) ∧ 1 ≤ m ∧ m ≤ nrem ∧ q.Perm p ∧ SoT key q m := by
  unfold kas_tail3
  rw [jB]
  have hsz : n ≤ p.size := by omega
  obtain ⟨m, e, a1, a2, a3, _⟩ := zcl (key := key) (p := kas_rev p 0 n) (nrem - n) n h1 (by rw [wC]; omega) (fun i j hij hj => by
    rw [zcd hsz, zcd hsz, if_pos (by omega), if_pos (by omega)]
    exact hs _ _ (by omega) (by omega))
  rw [e]
  exact ⟨m, _, rfl, by omega, by omega, jQ _ _ _, a3⟩
theorem vO : ∀ (f : Nat) (p : Array Nat) (n q : Nat), 1 ≤ n → n + f ≤ p.size → NiT key p n → q + 1 ≤ n → (∀ i, n - (q + 1) ≤ i → i < n → kk key p i = kk key p (n - 1)) →
    ∃ p' m q', jr (kLt key) (kas_desc f p n q) = (p', m, q') ∧ p'.Perm p ∧ n ≤ m ∧ m ≤ n + f ∧ NiT key p' m ∧ q' + 1 ≤ m ∧ (∀ i, m - (q' + 1) ≤ i → i < m → kk key p' i = kk key p' (m - 1))
  | 0, p, n, q, h1, hz, hs, hq, he => ⟨p, n, q, rfl, .refl _, Nat.le_refl _, Nat.le_refl _, hs, hq, he⟩
  | f + 1, p, n, q, h1, hz, hs, hq, he => by
    show ∃ p' m q', jr (kLt key) (if kLt key (p.getD n 0) (p.getD (n - 1) 0) = true then (if q > 0 then kas_desc f (kas_rev p (n - (q + 1)) n) (n + 1) 0 else kas_desc f p (n + 1) 0)
      else .ask (p.getD (n - 1) 0) (p.getD n 0) fun d => if d = true then .ret (p, n, q) else kas_desc f p (n + 1) (q + 1)) = (p', m, q') ∧ _
    have hsz : n ≤ p.size := by omega
    cases hless : kLt key (p.getD n 0) (p.getD (n - 1) 0) with
    | true =>
      rw [if_pos rfl]
      have step1 : ∀ xs : Array Nat, (∀ k, kk key xs k = kk key p k) → NiT key xs (n + 1) := by
        intro xs hk i j hij hj
        rw [hk, hk]
        by_cases hjx : j < n
        · exact hs i j hij hjx
        · have hj' : j = n := by omega
          subst hj'
          by_cases hi' : i = j
          · subst hi'; exact KeyOrd.kle_refl _
          · exact KeyOrd.kle_trans (KeyOrd.kle_of_klt hless) (hs i (j - 1) (by omega) (by omega))
      by_cases hneq : q > 0
      · rw [if_pos hneq]
        obtain ⟨p', m, q', e, b1, b2, b3, b4, b5, b6⟩ := vO f (kas_rev p (n - (q + 1)) n) (n + 1) 0 (by omega) (by rw [wC]; omega) (step1 _ (qS hsz he)) (by omega) (fun i h1 h2 => by congr 1; omega)
        exact ⟨p', m, q', e, b1.trans (jQ _ _ _), by omega, by omega, b4, b5, b6⟩
      · rw [if_neg hneq]
        obtain ⟨p', m, q', e, b1, b2, b3, b4, b5, b6⟩ := vO f p (n + 1) 0 (by omega) (by omega) (step1 _ (fun _ => rfl)) (by omega) (fun i h1 h2 => by congr 1; omega)
        exact ⟨p', m, q', e, b1, by omega, by omega, b4, b5, b6⟩
    | false =>
      rw [if_neg (by simp)]
      show ∃ p' m q', jr (kLt key) (if kLt key (p.getD (n - 1) 0) (p.getD n 0) = true then .ret (p, n, q) else kas_desc f p (n + 1) (q + 1)) = (p', m, q') ∧ _
      cases hlarger : kLt key (p.getD (n - 1) 0) (p.getD n 0) with
      | true =>
        rw [if_pos rfl]
        exact ⟨p, n, q, rfl, .refl _, Nat.le_refl _, by omega, hs, hq, he⟩
      | false =>
        rw [if_neg (by simp)]
        have heqx : kk key p n = kk key p (n - 1) := KeyOrd.kle_antisymm hlarger hless
        obtain ⟨p', m, q', e, b1, b2, b3, b4, b5, b6⟩ := vO f p (n + 1) (q + 1) (by omega) (by omega) (fun i j hij hj => by
            by_cases hjx : j < n
            · exact hs i j hij hjx
            · have hj' : j = n := by omega
              subst hj'
              by_cases hi' : i = j
              · subst hi'; exact KeyOrd.kle_refl _
              · rw [heqx]; exact hs i (j - 1) (by omega) (by omega)) (by omega) (fun i h1 h2 => by
          rw [show n + 1 - 1 = n by omega]
          by_cases hix : i = n
          · subst hix; rfl
          · rw [heqx]; exact he i (by omega) (by omega))
        exact ⟨p', m, q', e, b1, by omega, by omega, b4, b5, b6⟩
theorem wO {p : Array Nat} {n nrem : Nat} (hn : n + 1 ≤ nrem) (hz : nrem ≤ p.size) (hs : NiT key p (n + 1)) : ∃ m q, jr (kLt key) (kas_descPart n nrem p) = (m, q) ∧ 1 ≤ m ∧ m ≤ nrem ∧ q.Perm p ∧ SoT key q m := by
  unfold kas_descPart
  rw [jB]
  obtain ⟨p', m, q', e, b1, b2, b3, b4, b5, b6⟩ := vO (nrem - (n + 1)) p (n + 1) 0 (by omega) (by omega) hs (by omega) (fun i h1 h2 => by congr 1; omega)
  rw [e]
  have hpz : p'.size = p.size := b1.size_eq
  have hsz : m ≤ p'.size := by omega
  show ∃ m' q, jr (kLt key) (if q' > 0 then kas_tail3 m nrem (kas_rev p' (m - (q' + 1)) m) else kas_tail3 m nrem p') = (m', q) ∧ _
  by_cases hq : q' > 0
  · rw [if_pos hq]
    obtain ⟨m', q2, e2, c1, c2, c3, c4⟩ := za6 (key := key) (p := kas_rev p' (m - (q' + 1)) m) (n := m) (nrem := nrem) (by omega) (by omega) (by rw [wC]; omega) (fun i j hij hj => by
      rw [qS hsz b6, qS hsz b6]
      exact b4 i j hij hj)
    exact ⟨m', q2, e2, c1, c2, c3.trans ((jQ _ _ _).trans b1), c4⟩
  · rw [if_neg hq]
    obtain ⟨m', q2, e2, c1, c2, c3, c4⟩ := za6 (key := key) (p := p') (n := m) (nrem := nrem) (by omega) (by omega) (by omega) b4
    exact ⟨m', q2, e2, c1, c2, c3.trans b1, c4⟩
theorem zdz {p : Array Nat} {nrem : Nat} (h1 : 1 ≤ nrem) (hz : nrem ≤ p.size) : ∃ m q, jr (kLt key) (kas_count nrem p) = (m, q) ∧ 1 ≤ m ∧ m ≤ nrem ∧ q.Perm p ∧ SoT key q m := by
  unfold kas_count
  rw [jB]
  obtain ⟨n, e, a1, a2, a3, a4⟩ := zcl (key := key) (p := p) (nrem - 1) 1 (Nat.le_refl _) (by omega) (fun i j hij hj => by have : i = j := (by omega); subst this; exact KeyOrd.kle_refl _)
  rw [e]
  by_cases hnn : n = nrem
  · rw [if_pos (by simpa using hnn)]
    exact ⟨n, p, rfl, a1, by omega, .refl _, a3⟩
  · rw [if_neg (by simpa using hnn)]
    have hlt : O.klt (kk key p n) (kk key p (n - 1)) := a4.resolve_left (by omega)
    by_cases hgt : n > 1
    · rw [if_pos hgt]
      show ∃ m q, jr (kLt key) (if kLt key (p.getD 0 0) (p.getD (n - 1) 0) = true then .ret (n, p) else kas_descPart n nrem (kas_rev p 0 n)) = (m, q) ∧ _
      cases hrose : kLt key (p.getD 0 0) (p.getD (n - 1) 0) with
      | true =>
        rw [if_pos rfl]
        exact ⟨n, p, rfl, a1, by omega, .refl _, a3⟩
      | false =>
        rw [if_neg (by simp)]
        have hsz : n ≤ p.size := by omega
        have hall : ∀ k, 0 ≤ k → k < n → kk key p k = kk key p (n - 1) := by
          intro k _ hk
          have a1 := a3 0 k (by omega) hk
          have a2 := a3 k (n - 1) (by omega) (by omega)
          exact KeyOrd.kle_antisymm a2 (KeyOrd.kle_trans hrose a1)
        obtain ⟨m', q2, e2, c1, c2, c3, c4⟩ := wO (key := key) (p := kas_rev p 0 n) (n := n) (nrem := nrem) (by omega) (by rw [wC]; omega) (fun i j hij hj => by
          rw [qS hsz hall, qS hsz hall]
          by_cases hjn : j < n
          · rw [hall i (by omega) (by omega), hall j (by omega) hjn]; exact KeyOrd.kle_refl _
          · have hj' : j = n := by omega
            subst hj'
            by_cases hi' : i = j
            · subst hi'; exact KeyOrd.kle_refl _
            · rw [hall i (by omega) (by omega)]; exact KeyOrd.kle_of_klt hlt)
        exact ⟨m', q2, e2, c1, c2, c3.trans (jQ _ _ _), c4⟩
    · rw [if_neg hgt]
      have hn1' : n = 1 := by omega
      subst hn1'
      refine wO (by omega) (by omega) ?_
      intro i j hij hj
      by_cases hi' : i = j
      · subst hi'; exact KeyOrd.kle_refl _
      · have hi0 : i = 0 := by omega
        have hj1 : j = 1 := by omega
        subst hi0; subst hj1
        exact KeyOrd.kle_of_klt hlt
theorem vw {p : Array Nat} {k : Nat} (hk : k < p.size) (hs : SoT key p k) : ∀ (f l r : Nat), l ≤ r → r ≤ k → r - l ≤ f → (∀ i, i < l → O.kle (kk key p i) (kk key p k)) → (∀ i, r ≤ i → i < k → O.klt (kk key p k) (kk key p i)) →
    ∃ m, jr (kLt key) (kas_place p k f l r) = m ∧ m ≤ k ∧ (∀ i, i < m → O.kle (kk key p i) (kk key p k)) ∧ (∀ i, m ≤ i → i < k → O.klt (kk key p k) (kk key p i))
  | 0, l, r, hlr, hrk, hf, hlo, hhi => ⟨l, rfl, by omega, hlo, fun i h1 h2 => hhi i (by omega) h2⟩
  | f + 1, l, r, hlr, hrk, hf, hlo, hhi => by
    unfold kas_place
    by_cases hge : l ≥ r
    · rw [if_pos hge]
      exact ⟨l, rfl, by omega, hlo, fun i h1 h2 => hhi i (by omega) h2⟩
    · rw [if_neg hge]
      show ∃ m, jr (kLt key) (if kLt key (p.getD k 0) (p.getD ((l + r) / 2) 0) = true then kas_place p k f l ((l + r) / 2) else kas_place p k f ((l + r) / 2 + 1) r) = m ∧ _
      cases hless : kLt key (p.getD k 0) (p.getD ((l + r) / 2) 0) with
      | true =>
        rw [if_pos rfl]
        exact vw hk hs f l ((l + r) / 2) (by omega) (by omega) (by omega) hlo fun i h1 h2 => KeyOrd.klt_of_klt_of_kle hless (hs _ _ h1 h2)
      | false =>
        rw [if_neg (by simp)]
        exact vw hk hs f ((l + r) / 2 + 1) r (by omega) (by omega) (by omega) (fun i h1 => KeyOrd.kle_trans (hs i ((l + r) / 2) (by omega) (by omega)) (show O.kle _ _ from hless)) hhi
theorem zfc : ∀ (f : Nat) (p : Array Nat) (k : Nat), k + f ≤ p.size → SoT key p k → ∃ q, jr (kLt key) (kas_bin f p k) = q ∧ q.Perm p ∧ SoT key q (k + f)
  | 0, p, k, _, hs => ⟨p, rfl, .refl _, hs⟩
  | f + 1, p, k, hz, hs => by
    unfold kas_bin
    rw [jB]
    have hk : k < p.size := by omega
    obtain ⟨m, e, a1, a2, a3⟩ := vw hk hs k 0 k (by omega) (by omega) (by omega) (fun i hi => by omega) (fun i h1 h2 => by omega)
    rw [e]
    obtain ⟨q, e2, b1, b2⟩ := zfc f (bubble p k (k - m)) (k + 1) (by rw [bubble_size]; omega) (fun i j hij hj => by
      rw [ky hk (by omega), ky hk (by omega), show k - (k - m) = m by omega]
      repeat' split
      all_goals first
        | (exfalso; omega)
        | exact KeyOrd.kle_refl _
        | exact a2 _ (by omega)
        | exact KeyOrd.kle_of_klt (a3 _ (by omega) (by omega))
        | exact hs _ _ (by omega) (by omega))
    exact ⟨q, e2, b1.trans (bubble_perm _ _ _), by rw [show k + (f + 1) = k + 1 + f by omega]; exact b2⟩
theorem zc5 {n : Nat} (h1 : 1 ≤ n) : ∃ q, jr (kLt key) (kas_sort n) = q ∧ q.toList.Perm (List.range n) ∧ SoT key q n := by
  unfold kas_sort
  rw [jB]
  obtain ⟨m, q, e, a1, a2, a3, a4⟩ := zdz (key := key) (p := List.toArray (List.range n)) (nrem := n) h1 (by simp)
  rw [e]
  have hq : q.size = n := by rw [a3.size_eq]; simp
  have pl : ∀ {x : Array Nat}, x.Perm (List.toArray (List.range n)) → x.toList.Perm (List.range n) := fun h => Array.perm_iff_toList_perm.mp h
  by_cases hm : m < n
  · rw [if_pos hm]
    obtain ⟨q2, e2, b1, b2⟩ := zfc (n - max m 1) q (max m 1) (by omega) (by rw [show max m 1 = m by omega]; exact a4)
    exact ⟨q2, e2, pl (b1.trans a3), by rw [show max m 1 + (n - max m 1) = n by omega] at b2; exact b2⟩
  · rw [if_neg hm]
    have : m = n := by omega
    subst this
    exact ⟨q, rfl, pl a3, a4⟩
end
def KIn {α : Type} (n : Nat) (P : α → Prop) : KasT α → Prop
  | .ret a => P a
  | .ask i j k => i < n ∧ j < n ∧ ∀ b, KIn n P (k b)
theorem KIn.bind {α β : Type} {n : Nat} {P : α → Prop} {R : β → Prop} {f : α → KasT β} (hf : ∀ a, P a → KIn n R (f a)) : ∀ {t : KasT α}, KIn n P t → KIn n R (t.bind f)
  | .ret a, h => hf a h
  | .ask _ _ _, h => ⟨h.1, h.2.1, fun b => KIn.bind hf (h.2.2 b)⟩
def Lo (n : Nat) (p : Array Nat) : Prop := ∀ k, p.getD k 0 < n
theorem zgM {n : Nat} {p : Array Nat} (h0 : 0 < n) (h : ∀ x ∈ p.toList, x < n) : Lo n p := fun k => by
  rw [Array.getD_eq_getD_getElem?]
  by_cases hk : k < p.size
  · rw [Array.getElem?_eq_getElem hk]; exact h _ (by simp)
  · rw [Array.getElem?_eq_none (by omega)]; exact h0
theorem Lo.perm {n : Nat} {p q : Array Nat} (h0 : 0 < n) (h : Lo n p) (hp : q.Perm p) : Lo n q := zgM h0 fun x hx => by
  have hx' : x ∈ p.toList := (Array.perm_iff_toList_perm.mp hp).mem_iff.mp hx
  obtain ⟨i, hi, e⟩ := List.getElem_of_mem hx'
  have := h i
  rw [Array.getD_eq_getD_getElem?, Array.getElem?_eq_getElem (by simpa using hi)] at this
  rw [← e]; simpa using this
theorem zdr {n : Nat} {p : Array Nat} (h : Lo n p) : ∀ f k, KIn n (fun _ => True) (kas_asc p f k)
  | 0, _ => trivial
  | f + 1, k => ⟨h _, h _, fun b => by
    cases b with
    | true => simp only [if_true]; exact trivial
    | false => simp only [Bool.false_eq_true, if_false]; exact zdr h f (k + 1)⟩
theorem vv {n : Nat} (h0 : 0 < n) : ∀ (f : Nat) (p : Array Nat) (k q : Nat), Lo n p → KIn n (fun r : Array Nat × Nat × Nat => Lo n r.1) (kas_desc f p k q)
  | 0, _, _, _, h => h
  | f + 1, p, k, q, h => ⟨h _, h _, fun b => by
    cases b with
    | true =>
      simp only [if_true]
      split
      · exact vv h0 f _ _ _ (h.perm h0 (jQ _ _ _))
      · exact vv h0 f _ _ _ h
    | false =>
      simp only [Bool.false_eq_true, if_false]
      refine ⟨h _, h _, fun d => ?_⟩
      cases d with
      | true => simp only [if_true]; exact h
      | false => simp only [Bool.false_eq_true, if_false]; exact vv h0 f _ _ _ h⟩
theorem zaO {n k r : Nat} {p : Array Nat} (h0 : 0 < n) (h : Lo n p) : KIn n (fun r : Nat × Array Nat => Lo n r.2) (kas_tail3 k r p) := by
  unfold kas_tail3
  refine KIn.bind (P := fun _ => True) (fun a _ => ?_) (zdr (h.perm h0 (jQ _ _ _)) _ _)
  exact h.perm h0 (jQ p 0 k)
theorem yp {n k r : Nat} {p : Array Nat} (h0 : 0 < n) (h : Lo n p) : KIn n (fun r : Nat × Array Nat => Lo n r.2) (kas_descPart k r p) :=
  (vv h0 _ p _ _ h).bind fun a ha => by
    split
    · exact zaO h0 (ha.perm h0 (jQ _ _ _))
    · exact zaO h0 ha
theorem zdG {n r : Nat} {p : Array Nat} (h0 : 0 < n) (h : Lo n p) : KIn n (fun r : Nat × Array Nat => Lo n r.2) (kas_count r p) :=
  (zdr h _ _).bind fun a _ => by
    split
    · exact h
    · split
      · refine ⟨h _, h _, fun b => ?_⟩
        cases b with
        | true => simp only [if_true]; exact h
        | false => simp only [Bool.false_eq_true, if_false]; exact yp h0 (h.perm h0 (jQ _ _ _))
      · exact yp h0 h
theorem vJ {n : Nat} {p : Array Nat} {k : Nat} (h : Lo n p) : ∀ f l r, KIn n (fun _ => True) (kas_place p k f l r)
  | 0, _, _ => trivial
  | f + 1, l, r => by
    unfold kas_place
    split
    · exact trivial
    · refine ⟨h _, h _, fun b => ?_⟩
      cases b with
      | true => simp only [if_true]; exact vJ h f _ _
      | false => simp only [Bool.false_eq_true, if_false]; exact vJ h f _ _
theorem ze3 {n : Nat} (h0 : 0 < n) : ∀ (f : Nat) (p : Array Nat) (k : Nat), Lo n p → KIn n (fun _ => True) (kas_bin f p k)
  | 0, _, _, _ => trivial
  | f + 1, p, k, h => (vJ h _ _ _).bind fun a _ => ze3 h0 f _ _ (h.perm h0 (bubble_perm _ _ _))
theorem zcK {n : Nat} (h0 : 0 < n) : KIn n (fun _ => True) (kas_sort n) :=
  (zdG h0 (zgM h0 fun x hx => List.mem_range.mp (by simpa using hx))).bind fun a ha => by
    split
    · exact ze3 h0 _ _ _ ha
    · exact trivial
theorem vS {α : Type} {n : Nat} {cmp : Nat → Nat → (Bool → Shared → Prop) → Shared → Prop} {lt : Nat → Nat → Bool} {s : Shared} {P : α → Prop} (h : ∀ i j (C : Bool → Shared → Prop), i < n → j < n → C (lt i j) s → cmp i j C s) :
    ∀ (t : KasT α) (Q : α → Shared → Prop), KIn n P t → Q (jr lt t) s → t.kasWp cmp Q s
  | .ret _, _, _, q => q
  | .ask i j k, Q, hi, q => h i j _ hi.1 hi.2.1 (vS h (k (lt i j)) Q (hi.2.2 _) q)
theorem range_getD {α : Type} (l : List α) (d : α) : (List.range l.length).map (fun i => l.getD i d) = l := by
  apply List.ext_getElem
  · simp
  · intro i h1 h2; simp [h2]
section
variable {prog : Program} {w : World} {A : Around} {E : Value → Shared → Prop} {s : Shared}
theorem zd0 {b fin : Bool} {Q : Bool → Shared → Prop} : ∀ {us vs : List Value} {is js : List Int} (i : Nat), IntsAre us is → IntsAre vs js → fin = decide (us.length < vs.length) → Q (HT.lexLt is js) s → KatLex prog w A b fin Q (us.zip vs) i s := by
  intro us vs is js i hu
  induction hu generalizing vs js i with
  | nil =>
    intro hv hf h
    cases hv with
    | nil => subst hf; exact kat_nil h
    | cons c u hv => subst hf; exact kat_nil h
  | cons a t hu ih =>
    intro hv hf h
    cases hv with
    | nil => subst hf; exact kat_nil h
    | cons c u hv =>
      rw [HT.lexLt_cons] at h
      rw [List.zip_cons_cons]
      refine kat_cons (wpAny_eqBool_int (kat_go (fun e => kat_yes ?_) fun e => kat_no ?_))
      · rw [if_pos (eq_of_beq e)] at h
        exact ih (i + 1) hv (by rw [hf]; simp) h
      · have ne : ¬ a = c := fun z => by subst z; simp at e
        rw [if_neg ne] at h
        cases hb : (b && i == 0) with
        | true => exact oneLt_int h
        | false => exact kat_one _ _ (lt_int h)
def TupI (h : Heap) (v : Value) (is : List Int) : Prop := ∃ b o xs m, v = .ref b ∧ h.get? b = some o ∧ o.cls = .type "tuple" ∧ o.data = .seq xs m ∧ IntsAre xs.toList is ∧ is ≠ []
theorem TupI.lt {b : Bool} {u v : Value} {is js : List Int} {Q : Bool → Shared → Prop} (h1 : TupI s.heap u is) (h2 : TupI s.heap v js) (h : Q (HT.lexLt is js) s) : wpAny (model prog w) A (keyLt' (tuples' b) u v) Q E s := by
  obtain ⟨x, ox, xs, n, rfl, g1, c1, d1, i1, _⟩ := h1
  obtain ⟨y, oy, ys, m, rfl, g2, c2, d2, i2, _⟩ := h2
  exact kat_lt g1 d1 g2 d2 (zd0 0 i1 i2 (by simp) h)
theorem TupI.keeps {h h' : Heap} {v : Value} {is : List Int} {a : Addr} (x : TupI h v is) (k : ∀ b o, b ≠ a → h.get? b = some o → h'.get? b = some o) (hv : v ≠ .ref a) : TupI h' v is := by
  obtain ⟨b, o, xs, n, rfl, g, r⟩ := x
  exact ⟨b, o, xs, n, rfl, k b o (fun z => hv (by rw [z])) g, r⟩
theorem zcQ {h : Heap} : ∀ {vs : List Value} {ks : List (List Int)}, vs.length = ks.length → (∀ (i : Nat) v k, vs[i]? = some v → ks[i]? = some k → TupI h v k) → ∃ fs, KatTups h vs fs ∧ fs.length = vs.length ∧ ∀ f ∈ fs, ∃ z t, f = .int z t
  | [], [], _, _ => ⟨[], trivial, rfl, fun _ h => by simp at h⟩
  | [], _ :: _, hl, _ => by simp at hl
  | _ :: _, [], hl, _ => by simp at hl
  | v :: vs, k :: ks, hl, hk => by
    obtain ⟨fs, t, l, q⟩ := zcQ (vs := vs) (ks := ks) (by simpa using hl) (fun i u c h1 h2 => hk (i + 1) u c (by simpa using h1) (by simpa using h2))
    obtain ⟨b, o, xs, n, rfl, g, c, d, hi, hn⟩ := hk 0 v k rfl rfl
    have hx : ∃ z t, xs[0]? = some (.int z t) := by
      rw [← Array.getElem?_toList]
      generalize xs.toList = zs at hi
      cases hi with
      | nil => exact absurd rfl hn
      | cons z t r => exact ⟨z, t, rfl⟩
    obtain ⟨z, t', hz⟩ := hx
    exact ⟨.int z t' :: fs, .cons g c d hz t, by simp [l], fun f hf => by
      rcases List.mem_cons.mp hf with e | e
      · exact ⟨z, t', e⟩
      · exact q f e⟩
theorem zeO {M : Model} {h : Heap} (z : Int) (t : Tok) : Looks M h (typeOf (.int z t)) (.type "int") := fun _ _ _ _ _ q => wpAny_pure q
def zZ (ks : List (List Int)) (i : Nat) : List Int := ks.getD i []
theorem vL {a : Addr} {vs : List Value} {ks : List (List Int)} {n : Nat} {P : PySem.Fin → Shared → Prop} (ho : s.heap.get? a = some (seqObj "list" vs.toArray n)) (hl : vs.length = ks.length) (hk : ∀ (i : Nat) v k, vs[i]? = some v → ks[i]? = some k → TupI s.heap v k) (ha : ∀ v ∈ vs, v ≠ .ref a) (h64 : vs.length < 64)
    (h : ∀ p : List Nat, p.Perm (List.range vs.length) → (p.map (zZ ks)).Pairwise LeL → P (.done (.ret .none)) { s with heap := sortedHeap s.heap a vs (p.map fun i => vs.getD i Value.none).toArray }) :
    wpAny (model prog w) A (Builtin.«list.sort» ⟨[.ref a], []⟩) P E s := by
  have lta : a < s.heap.objs.size := Heap.lt_size ho
  have fit : vs.toArray.size ≤ sizeLine := by rw [List.size_toArray, sizeLine_eq]; omega
  rw [list_sort_plain]
  refine wpAny_bind (listItems_at ho rfl (wpAny_bind (listUpdate_at ho rfl ?_ fit (Nat.zero_le _))))
  obtain ⟨e1, ho1⟩ : ∃ e1, (s.heap.update a (Obj.mapSeq fun _ => (#[] : Array Value))).get? a = some (seqObj "list" #[] e1) := ⟨_, get?_update_seq ho (fun _ => #[])⟩
  refine wpAny_bind (seqEpoch_at ho1 rfl (wpAny_bind (wpAny_newTuple ?_ fit)))
  refine wpAny_bind (wpAny_newList ?_ (Nat.zero_le _))
  refine wpAny_holding ?_
  have keep : ∀ b o, b ≠ a → s.heap.get? b = some o → (((s.heap.update a (Obj.mapSeq fun _ => (#[] : Array Value))).push (seqObj "tuple" vs.toArray 0)).push (seqObj "list" #[] 0)).get? b = some o := fun b o hb e =>
    Heap.get?_push_of_some _ (Heap.get?_push_of_some _ (by rw [Heap.get?_update_ne _ _ _ _ hb]; exact e))
  have ho6 : (((s.heap.update a (Obj.mapSeq fun _ => (#[] : Array Value))).push (seqObj "tuple" vs.toArray 0)).push (seqObj "list" #[] 0)).get? a = some (seqObj "list" #[] e1) := Heap.get?_push_of_some _ (Heap.get?_push_of_some _ ho1)
  show wpAny (model prog w) A _ P E { s with heap := ((s.heap.update a (Obj.mapSeq fun _ => (#[] : Array Value))).push (seqObj "tuple" vs.toArray 0)).push (seqObj "list" #[] 0) }
  generalize hg : ({ s with heap := ((s.heap.update a (Obj.mapSeq fun _ => (#[] : Array Value))).push (seqObj "tuple" vs.toArray 0)).push (seqObj "list" #[] 0) } : Shared) = s6
  have eh : s6.heap = ((s.heap.update a (Obj.mapSeq fun _ => (#[] : Array Value))).push (seqObj "tuple" vs.toArray 0)).push (seqObj "list" #[] 0) := by rw [← hg]
  have fin : ∀ out : Array Value, ({ s6 with heap := s6.heap.update a (Obj.mapSeq fun _ => out) } : Shared) = { s with heap := sortedHeap s.heap a vs out } := fun out => by rw [← hg]; rfl
  rw [← eh] at ho6 keep
  dsimp only
  by_cases h2 : vs.toArray.size < 2
  · rw [if_pos h2, if_pos h2]
    refine wpAny_bind (wpAny_pure ?_)
    rw [StateT.run_pure]
    refine wpAny_bind (wpAny_pure ?_)
    dsimp only
    have e0 : (arrOf (SortSt.mk' general' (vs.toArray.zip vs.toArray) #[] 7 none)).map (·.2) = ((List.range vs.length).map fun i => vs.getD i Value.none).toArray := by
      rw [range_getD]
      show (vs.toArray.zip vs.toArray).map (·.2) = vs.toArray
      apply Array.toList_inj.mp
      rw [Array.toList_map, Array.toList_zip]
      exact List.map_snd_zip (Nat.le_refl _)
    rw [e0]
    refine wpAny_bind (seqEpoch_at ho6 rfl (wpAny_bind (listUpdate_at ho6 rfl ?_ (Nat.zero_le _) (by simp; rw [sizeLine_eq]; omega))))
    simp only [bne_self_eq_false, Bool.false_eq_true, if_false]
    rw [fin]
    refine wpAny_pure (h (List.range vs.length) (.refl _) ?_)
    rw [List.size_toArray] at h2
    match vs.length, h2 with
    | 0, _ => exact .nil
    | 1, _ => exact List.pairwise_singleton _ _
  · rw [if_neg h2, if_neg h2]
    have h2' : 2 ≤ vs.length := by rw [List.size_toArray] at h2; omega
    have hk6 : ∀ (i : Nat) v k, vs[i]? = some v → ks[i]? = some k → TupI s6.heap v k := fun i v k g1 g2 => (hk i v k g1 g2).keeps keep (ha v (List.mem_of_getElem? g1))
    obtain ⟨fs, tf, lf, qf⟩ := zcQ hl hk6
    refine wpAny_bind (kat_kind tf (by omega) (T := .type "int") (fun v hv => by obtain ⟨z, t, rfl⟩ := qf v hv; exact zeO z t) rfl ?_)
    obtain ⟨q, eq, pq, sq⟩ := zc5 (O := wd) (key := zZ ks) (n := vs.length) (by omega)
    have runs := kat_run (prog := prog) (w := w) (A := A) (E := E) (s := s6) (κ := tuples' ((Value.type "int") != Value.type "tuple")) (ks := vs) (vs := vs)
      (Q := fun st' s' => s' = s6 ∧ failedOf st' = none ∧ arrOf st' = q.map (kas_item (vs.toArray.zip vs.toArray))) (G := fun p s' => s' = s6 ∧ p = q) rfl h2' h64 (fun p st' s' a1 a2 a3 a4 => by obtain ⟨rfl, rfl⟩ := a4; exact ⟨rfl, a3, a2⟩)
      (vS (n := vs.length) (lt := kLt (O := wd) (zZ ks)) (fun i j C hi hj hc => by
        have gi : vs[i]? = some (vs.getD i Value.none) := by simp [hi]
        have gj : vs[j]? = some (vs.getD j Value.none) := by simp [hj]
        have ki : ks[i]? = some (zZ ks i) := by unfold zZ; simp [hl ▸ hi]
        have kj : ks[j]? = some (zZ ks j) := by unfold zZ; simp [hl ▸ hj]
        exact TupI.lt (hk6 i _ _ gi ki) (hk6 j _ _ gj kj) hc) _ _ (zcK (by omega)) ⟨rfl, eq⟩)
    refine wpAny_bind (wpAny_mono runs ?_ fun _ _ e => e)
    rintro ⟨⟨⟩, st'⟩ s' ⟨rfl, hf, har⟩
    dsimp only
    have hout := kat_snds rfl har
    have hqs : q.size = vs.length := by have := pq.length_eq; simpa using this
    rw [hout]
    refine wpAny_bind (seqEpoch_at ho6 rfl (wpAny_bind (listUpdate_at ho6 rfl ?_ (Nat.zero_le _) (by simp [hqs]; rw [sizeLine_eq]; omega))))
    rw [hf]
    simp only [bne_self_eq_false, Bool.false_eq_true, if_false]
    rw [fin]
    refine wpAny_pure (h q.toList pq ?_)
    rw [List.pairwise_map, List.pairwise_iff_getElem]
    intro i j hi hj hij
    have := sq i j (by omega) (by rw [← hqs]; simpa using hj)
    unfold kk at this
    rw [Array.getD_eq_getD_getElem?, Array.getD_eq_getD_getElem?, Array.getElem?_eq_getElem (by simpa using hi), Array.getElem?_eq_getElem (by simpa using hj)] at this
    have this' : wd.kle (zZ ks q[i]) (zZ ks q[j]) := by simpa using this
    simpa using (show LeL (zZ ks q[i]) (zZ ks q[j]) from this')
theorem yg {l : Addr} {T : String} {o : Obj} {vs : List Value} {n : Nat} {Q : List Value → Shared → Prop} (hT : T = "list" ∨ T = "tuple") (ho : s.heap.get? l = some o) (hc : o.cls = .type T) (hd : o.data = .seq vs.toArray n) (hz : vs.length ≤ sizeLine)
    (h : Q vs { s with heap := (s.heap.push (seqObj "list" #[] 0)).update s.heap.objs.size (Obj.mapSeq (· ++ vs.toArray)) }) : wpAny (model prog w) A (collect (.ref l)) Q E s := by
  unfold collect
  refine wpAny_bind (wpAny_runValue (codeAny_builtin entry_proto_collect' ?_))
  show wpAny _ _ (do again (.builtin "list.__iadd__" ⟨[← newList [], .ref l], []⟩)) _ _ s
  refine wpAny_bind (wpAny_newList (wpAny_pure ⟨Code.quiet_builtin _ (by decide +kernel), codeAny_builtin entry_list_iadd' ?_⟩))
  show wpAny _ _ (Builtin.List.listExtendWith (.ref s.heap.objs.size) (.ref l) (.ref s.heap.objs.size)) _ _ { s with heap := s.heap.push (seqObj "list" #[] 0) }
  unfold Builtin.List.listExtendWith
  have ho' : (s.heap.push (seqObj "list" #[] 0)).get? l = some o := Heap.get?_push_of_some _ ho
  refine wpAny_bind (wpAny_typeOf (T := T) ⟨o, ho', hc⟩ ?_)
  have y1 : (Value.type "list" == Value.type "list") = true := rfl
  have y2 : (Value.type "tuple" == Value.type "tuple") = true := rfl
  rw [if_pos (by rcases hT with rfl | rfl <;> simp only [y1, y2, Bool.or_true, Bool.true_or])]
  refine wpAny_bind (listItems_at ho' hd (wpAny_bind (listItems_at (xs := #[]) (n := 0) (Heap.get?_push_size _ rfl) rfl ?_)))
  rw [if_neg (by simp)]
  refine wpAny_bind (listUpdate_at (xs := #[]) (n := 0) (Heap.get?_push_size _ rfl) rfl ?_ (Nat.zero_le _) (by show (#[] ++ vs.toArray).size ≤ sizeLine + 1; simp only [Array.size_append, List.size_toArray, List.length_nil]; omega))
  refine wpAny_pure (wpAny_bind (wpAny_load (get?_update_seq (Heap.get?_push_size _ rfl) _) ?_))
  show wpAny _ _ (pure ((#[] : Array Value) ++ vs.toArray).toList) Q E _
  rw [show ((#[] : Array Value) ++ vs.toArray).toList = vs by simp]
  exact wpAny_pure h
theorem kX {l : Addr} {T : String} {o : Obj} {vs : List Value} {ks : List (List Int)} {n : Nat} {Q : Value → Shared → Prop} (hT : T = "list" ∨ T = "tuple") (ho : s.heap.get? l = some o) (hc : o.cls = .type T) (hd : o.data = .seq vs.toArray n)
    (hl : vs.length = ks.length) (hk : ∀ (i : Nat) v k, vs[i]? = some v → ks[i]? = some k → TupI s.heap v k) (h64 : vs.length < 64)
    (h : ∀ p : List Nat, p.Perm (List.range vs.length) → (p.map (zZ ks)).Pairwise LeL → Q (.ref (s.heap.objs.size + 1)) { s with heap := sortedAll s.heap vs (p.map fun i => vs.getD i Value.none).toArray }) :
    wpAny (model prog w) A (call (.builtin "sorted") [.ref l]) Q E s := by
  have fit : vs.length ≤ sizeLine := by rw [sizeLine_eq]; omega
  refine Calls.call_function_entry kind_sorted plain_sorted entry_sorted (args_sorted1 _) ?_
  unfold Builtin.«sorted»
  refine wpAny_bind (m := checkCount "sorted" 1 1 _) (wpAny_pure (wpAny_bind (yg hT ho hc hd fit (wpAny_bind (wpAny_newList ?_ (by simpa using fit))))))
  have hsz : ((s.heap.push (seqObj "list" #[] 0)).update s.heap.objs.size (Obj.mapSeq (· ++ vs.toArray))).objs.size = s.heap.objs.size + 1 := by rw [Heap.size_update, size_push']
  have hoL : (((s.heap.push (seqObj "list" #[] 0)).update s.heap.objs.size (Obj.mapSeq (· ++ vs.toArray))).push (seqObj "list" vs.toArray 0)).get? (s.heap.objs.size + 1) = some (seqObj "list" vs.toArray 0) := by
    rw [← hsz]; exact Heap.get?_push_size _ rfl
  have keep : ∀ b u, s.heap.get? b = some u → (((s.heap.push (seqObj "list" #[] 0)).update s.heap.objs.size (Obj.mapSeq (· ++ vs.toArray))).push (seqObj "list" vs.toArray 0)).get? b = some u := fun b u e =>
    Heap.get?_push_of_some _ (by rw [Heap.get?_update_ne _ _ _ _ (Nat.ne_of_lt (Heap.lt_size e))]; exact Heap.get?_push_of_some _ e)
  have ltv : ∀ v ∈ vs, v ≠ .ref (s.heap.objs.size + 1) := fun v hv z => by
    obtain ⟨i, hi, e⟩ := List.getElem_of_mem hv
    obtain ⟨b, ob, _, _, eb, g, _⟩ := hk i v (ks[i]'(by omega)) (by rw [← e]; simp [hi]) (by simp [← hl, hi])
    rw [z] at eb; cases eb
    exact absurd (Nat.lt_of_succ_lt (Heap.lt_size g)) (Nat.lt_irrefl _)
  show wpAny _ _ _ _ _ { s with heap := ((s.heap.push (seqObj "list" #[] 0)).update s.heap.objs.size (Obj.mapSeq (· ++ vs.toArray))).push (seqObj "list" vs.toArray 0) }
  rw [hsz]
  refine wpAny_bind (wpAny_holding (wpAny_call_entry slot_list_sort ⟨_, hoL, rfl⟩ entry_list_sort (vL (ks := ks) hoL hl (fun i v k g1 g2 => ?_) ltv h64 fun p a1 a2 => ⟨_, rfl, wpAny_pure ⟨_, rfl, h p a1 a2⟩⟩) (args_list_sort _)))
  obtain ⟨b, ob, xs, m, eb, g, r⟩ := hk i v k g1 g2
  exact ⟨b, ob, xs, m, eb, keep b ob g, r⟩
end
section
variable {X : Cx}
theorem kD {d : D} {is : List Int} (h : xm d = some is) : d = .tuple (is.map PyData.int) ∧ is ≠ [] := by
  unfold xm at h
  split at h
  · obtain ⟨js, e1, e2⟩ := Option.bind_eq_some_iff.mp h
    split at e2
    · cases e2
    · cases e2; exact ⟨by rw [jU e1], by assumption⟩
  · cases h
theorem zaE : ∀ {ds : List D} {ks : List (List Int)}, ds.mapM xm = some ks → ds = ks.map (fun k => .tuple (k.map PyData.int)) ∧ ∀ k ∈ ks, k ≠ []
  | [], _, h => by cases h; exact ⟨rfl, fun _ h => by simp at h⟩
  | d :: ds, _, h => by
    rw [List.mapM_cons] at h
    obtain ⟨k, h1, h⟩ := Option.bind_eq_some_iff.mp h
    obtain ⟨r, h2, h⟩ := Option.bind_eq_some_iff.mp h
    cases h
    obtain ⟨e1, e2⟩ := kD h1
    obtain ⟨e3, e4⟩ := zaE (ds := ds) h2
    exact ⟨by rw [e1, e3]; rfl, fun k' hk => by
      rcases List.mem_cons.mp hk with e | e
      · subst e; exact e2
      · exact e4 k' e⟩
theorem yf {K : Frag} {H : Hp} {ds : List D} {vs : List V} (r : Reps K H ds vs) : ∀ p : List Nat, (∀ i ∈ p, i < ds.length) → Reps K H (p.map fun i => ds.getD i .none) (p.map fun i => vs.getD i .non)
  | [], _ => .nil
  | i :: p, h => by
    have hi := h i List.mem_cons_self
    obtain ⟨v, h1, h2⟩ := r.get (i := i) (d := ds[i]) (by simp [hi])
    refine .cons ?_ (yf r p fun j hj => h j (List.mem_cons_of_mem _ hj))
    have e1 : ds.getD i .none = ds[i] := by simp [hi]
    have e2 : vs.getD i .non = v := by rw [List.getD_eq_getElem?_getD, h1]; rfl
    show Rep K H (ds.getD i .none) (vs.getD i .non)
    rw [e1, e2]; exact h2
theorem kn {vs : List V} {us : List Value} {i : Nat} {u : Value} (r : Vals vs us) (h : us[i]? = some u) : ∃ v, vs[i]? = some v ∧ RelV v u := by
  have hi : i < us.length := (List.getElem?_eq_some_iff.mp h).1
  have hl : vs.length = us.length := r.length
  obtain ⟨u', h1, h2⟩ := r.get (i := i) (x := vs[i]'(by omega)) (by simp [hl, hi])
  rw [h] at h1; cases h1
  exact ⟨_, by simp [hl, hi], h2⟩
theorem yb {vs : List V} {us : List Value} (r : Vals vs us) : ∀ p : List Nat, (∀ i ∈ p, i < vs.length) → Vals (p.map fun i => vs.getD i .non) (p.map fun i => us.getD i Value.none)
  | [], _ => .nil
  | i :: p, h => by
    have hi := h i List.mem_cons_self
    obtain ⟨u, h1, h2⟩ := r.get (i := i) (x := vs[i]) (by simp [hi])
    refine .cons ?_ (yb r p fun j hj => h j (List.mem_cons_of_mem _ hj))
    have e1 : vs.getD i .non = vs[i] := by simp [hi]
    have e2 : us.getD i Value.none = u := by rw [List.getD_eq_getElem?_getD, h1]; rfl
    show RelV (vs.getD i .non) (us.getD i Value.none)
    rw [e1, e2]; exact h2
theorem zbb {α : Type} {p : List Nat} {n : Nat} (h : p.Perm (List.range n)) (f : Nat → α) : (p.map f).Perm ((List.range n).map f) := h.map f
theorem zcb {p pos : Pos} {e : Expr} {g : Env' → Option (List D)} (hg : Gl X "sorted") (hm : X.mg "sorted" = none) (ha : PAb X [e] g) (he : starEach [e] X.env = [(false, eval e X.env)] := by rfl) :
    PFr X (.Call (.Name "sorted" p) [e] [] pos) (gItL vN g) := by
  have hc : xg X (.builtin "sorted") (fun xs H Q => ∃ O a ds ks ys, xs = [.ref a] ∧ Dom O H ∧ (SqL X.K H a ys ∨ SqT X.K H a ys) ∧ Reps X.K (hide O H) ds ys ∧ ds.mapM xm = some ks ∧ ks.length < 64 ∧
      ∀ l zs, H l = none → Reps X.K (hide O H) ((qx ks).map fun k => .tuple (k.map PyData.int)) zs → Q (.ref l) (upd H l (.lst zs))) := by
    intro pins s σ H xs us Q I rv ⟨O, a, ds, ks, ys, e, hO, sq, rs, em, h64, k⟩
    subst e
    obtain ⟨u, rfl, ru⟩ := vals1 rv
    obtain rfl : u = Value.ref a := ru
    obtain ⟨eds, kne⟩ := zaE em
    have hseq : ∃ T o its n, (T = "list" ∨ T = "tuple") ∧ s.heap.get? a = some o ∧ o.cls = .type T ∧ o.data = .seq its.toArray n ∧ Vals ys its := by
      rcases sq with sq | sq
      · obtain ⟨its, r, ⟨o, n, e, c, _, dd⟩, _⟩ := I.list sq
        exact ⟨"list", o, its, n, .inl rfl, e, c, dd, r⟩
      · obtain ⟨its, r, ⟨o, e, c, n, dd⟩, _⟩ := I.tuple sq
        exact ⟨"tuple", o, its, n, .inr rfl, e, c, dd, r⟩
    obtain ⟨T, o, its, n, hT, ho, hcl, hd, rv⟩ := hseq
    have l1 : ds.length = ys.length := rs.length
    have l2 : ys.length = its.length := rv.length
    have l3 : ds.length = ks.length := by rw [eds]; simp
    have hfree : H (s.heap.objs.size + 1) = none := I.hok.fresh (Nat.le_succ _)
    refine kX hT ho hcl hd (ks := ks) (by omega) (fun i v c g1 g2 => ?_) (by omega) fun q pq sq => ?_
    · obtain ⟨y, gy, ry⟩ := kn rv g1
      obtain ⟨d, gd, rd⟩ := rs.getV gy
      rw [eds, List.getElem?_map, g2] at gd
      cases gd
      cases rd with
      | tup ht rt =>
        rename_i b zs
        obtain rfl : v = Value.ref b := ry
        cases rt.ints
        obtain ⟨its', r', ⟨o', e', c', n', dd'⟩, _⟩ := I.tuple (.inl (.inl (jk _ _ ht)))
        exact ⟨b, o', its'.toArray, n', rfl, e', c', dd', by simpa using intsAre_of r', kne c (List.mem_of_getElem? g2)⟩
    · have inq : ∀ i ∈ q, i < ys.length := fun i hi => by have := List.mem_range.mp (pq.mem_iff.mp hi); omega
      obtain ⟨e2, he2⟩ := sortedAll_at s.heap its (q.map fun i => its.getD i Value.none).toArray
      have ek : q.map (zZ ks) = qx ks := zaN (by
        have := zbb pq (zZ ks)
        rw [show its.length = ks.length by omega] at this
        unfold zZ at this ⊢
        rw [range_getD] at this
        exact this) sq
      have hR : Reps X.K (hide O H) ((qx ks).map fun k => .tuple (k.map PyData.int)) (q.map fun i => ys.getD i .non) := by
        have := yf rs q (fun i hi => by have := inq i hi; omega)
        rw [← ek, List.map_map]
        have ee : q.map (fun i => ds.getD i .none) = q.map ((fun k => PyData.tuple (k.map PyData.int)) ∘ zZ ks) := by
          apply List.map_congr_left
          intro i hi
          have hi' : i < ks.length := by have := inq i hi; omega
          unfold zZ
          simp [eds, hi']
        rw [← ee]; exact this
      refine ⟨.ref (s.heap.objs.size + 1), upd H (s.heap.objs.size + 1) (.lst (q.map fun i => ys.getD i .non)), ?_, rfl, k _ _ hfree hR⟩
      refine I.laid (t' := s.toks) (fun b u e => sortedAll_old e) (Nat.le_succ _) ⟨by rw [List.length_map, pq.length_eq, List.length_range, sizeLine_eq]; omega, q.map fun i => its.getD i Value.none, e2, yb rv q inq, he2⟩
  exact PE.imp (wr hc hg hm boot_sorted ha (by decide) (by decide) he (by rfl)) fun σ H Q ⟨F, O, ρ, ds, r, e, k⟩ => by
    obtain ⟨as, e1, e2⟩ := Option.bind_eq_some_iff.mp e
    refine ⟨F, O, ρ, as, r, e1, fun vs H1 s1 b1 => ?_⟩
    have go : ∀ {es : List D}, zbY es = some ds → ∃ ks, es.mapM xm = some ks ∧ ks.length < 64 ∧ ds = (qx ks).map fun k => .tuple (k.map PyData.int) := fun {es} h => by
      obtain ⟨ks, a1, a2⟩ := Option.bind_eq_some_iff.mp h
      split at a2
      · cases a2; exact ⟨ks, a1, by assumption, rfl⟩
      · cases a2
    unfold vN at e2
    split at e2
    · obtain ⟨ks, a1, a2, rfl⟩ := go e2
      obtain ⟨v, rfl, b⟩ := b1.inv1
      obtain ⟨a, ys, rfl, sq, rs⟩ := b.lst
      exact ⟨O, a, _, ks, ys, rfl, (r.same s1).dom, .inl sq, rs, a1, a2, fun l zs hl rz => k l zs H1 s1 hl rz⟩
    · obtain ⟨ks, a1, a2, rfl⟩ := go e2
      obtain ⟨v, rfl, b⟩ := b1.inv1
      obtain ⟨a, ys, rfl, sq, rs⟩ := b.tup
      exact ⟨O, a, _, ks, ys, rfl, (r.same s1).dom, .inr sq, rs, a1, a2, fun l zs hl rz => k l zs H1 s1 hl rz⟩
    · cases e2
end
end L2.Y
namespace L2.Y
open PySem PySem.Spec PyProof.Rows
section
variable {prog : Program} {w : World} {A : Around} {E : Value → Shared → Prop} {s : Shared} {it d : Addr} {i ep : Nat} {es : Array DictEntry} {od : Obj} {Q : Option Value → Shared → Prop}
theorem zcr {Q : Value → Shared → Prop} (hT : s.TypeIs (.ref d) "dict") (hd : (d == sysModules) = false) (hod : s.heap.get? d = some od) (hdd : od.data = .dict es ep)
    (hQ : Q (.ref s.heap.objs.size) { s with heap := s.heap.push { cls := .type "dict_keyiterator", data := .fields #[.ref d, .int 0 0, .int es.size 0, .int ep 0] } }) : wpAny (model prog w) A (pyIter (.ref d)) Q E s := by
  refine wpAny_pyIter_slot hT F.slot_dict_iter (wpAny_call_entry F.slot_dict_iter hT F.entry_dict_iter ?_ (F.args_dict_iter_1 _))
  unfold Builtin.«dict.__iter__» Builtin.Dict.dictSlotNone
  refine wpAny_bind (wpAny_bind (wpAny_notOrdered_dict hT (wpAny_pure ?_)))
  show wpAny _ _ (Builtin.Dict.showsAll d >>= _) _ _ s
  unfold Builtin.Dict.showsAll
  rw [if_neg (by rw [hd]; exact Bool.false_ne_true)]
  refine wpAny_bind (wpAny_pure (wpAny_bind (wpAny_dictEntries hod hdd (wpAny_bind (wpAny_dictEpoch hod hdd ?_)))))
  refine wpAny_bind (wpAny_newObj_type (wpAny_pure ⟨_, rfl, "dict_keyiterator", _, ⟨_, Heap.get?_push_size _ rfl, rfl⟩, F.slot_dict_keyiterator_next.lookup, ?_⟩))
  simpa [rawInt] using hQ
theorem zci {e : DictEntry} (hit : s.heap.IsKeyIter it d i es.size ep) (hod : s.heap.get? d = some od) (hdd : od.data = .dict es ep) (he : es[i]? = some e)
    (hQ : ∀ h', h'.IsKeyIter it d (i + 1) es.size ep → Heap.SameBut it s.heap h' → Q (some e.key) { s with heap := h' }) : wpAny (model prog w) A (pyNext (.ref it)) Q E s := by
  obtain ⟨o, ho, hc, hd⟩ := id hit
  have hlt : i < es.size := (Array.getElem?_eq_some_iff.mp he).1
  have hown : Builtin.Dict_items.ownsTuple "dict_keyiterator" = false := by decide
  unfold pyNext
  refine wpAny_bind (wpAny_attempt (wpAny_callSpecial?_slot (name := Str.ofString "__next__") hit.typeIs F.slot_dict_keyiterator_next (wpAny_call_entry F.slot_dict_keyiterator_next hit.typeIs F.entry_dict_keyiterator_next ?_ (F.args_dict_keyiterator_next_1 _))))
  refine wpAny_bind (wpAny_pure (wpAny_bind (wpAny_bind ?_)))
  first | refine wpAny_bind (wpAny_typeNameOfWhole_keyiter hit.typeIs (wpAny_pure ?_)) | refine wpAny_bind (wpAny_typeNameOf_keyiter hit.typeIs (wpAny_pure (?_)))
  refine wpAny_bind (wpAny_fieldsOf ho hd ?_)
  simp only [hown, Bool.false_eq_true, if_false]
  show wpAny _ _ (if (Value.ref d == Value.none) = true then _ else _) _ _ s
  rw [if_neg (show ¬ ((Value.ref d == Value.none) = true) from Bool.false_ne_true)]
  refine wpAny_bind (wpAny_pure (wpAny_bind (wpAny_dictEntries hod hdd ?_)))
  rw [if_neg (by simp)]
  refine wpAny_bind (wpAny_pure (wpAny_bind (wpAny_dictEpoch hod hdd ?_)))
  rw [if_neg (by simp)]
  refine wpAny_pure ?_
  simp only [show ¬ ((i : Int) < 0) from by omega, if_false, Int.toNat_natCast, he]
  refine wpAny_bind ?_
  first | refine wpAny_bind (wpAny_typeNameOfWhole_keyiter hit.typeIs (wpAny_pure ?_)) | refine wpAny_bind (wpAny_typeNameOf_keyiter hit.typeIs (wpAny_pure (?_)))
  refine wpAny_bind (wpAny_isOneOf_keyiter hit.typeIs ?_)
  show wpAny _ _ (setField (.ref it) 1 (rawInt ((i : Int) + 1)) >>= _) _ _ s
  have hit' : (s.heap.update it (Obj.mapFields (·.setIfInBounds 1 (rawInt ((i : Int) + 1))))).IsKeyIter it d (i + 1) es.size ep :=
    ⟨_, Heap.get?_update_self _ ho (Obj.isFreed_of_fields (Obj.data_mapFields hd _)), (Obj.cls_mapFields ..).trans hc, by rw [Obj.data_mapFields hd]; simp [rawInt]⟩
  refine wpAny_bind (wpAny_setField ho hd (by simp) (wpAny_bind (wpAny_holding ?_)))
  refine wpAny_bind (wpAny_isOneOf_keyiter (s := { s with heap := s.heap.update it (Obj.mapFields (·.setIfInBounds 1 (rawInt ((i : Int) + 1)))) }) hit'.typeIs ?_)
  show wpAny _ _ (pure e.key) _ _ _
  exact wpAny_pure (wpAny_pure ⟨_, rfl, wpAny_pure (hQ _ hit' (Heap.SameBut.update ..))⟩)
theorem zet (hh : A.handled = none) (hit : s.heap.IsKeyIter it d i es.size ep) (hod : s.heap.get? d = some od) (hdd : od.data = .dict es ep) (he : es.size ≤ i)
    (hQ : ∀ h', Heap.ExtBut it s.heap h' → Q none { s with heap := h' }) : wpAny (model prog w) A (pyNext (.ref it)) Q E s := by
  obtain ⟨o, ho, hc, hd⟩ := id hit
  have hown : Builtin.Dict_items.ownsTuple "dict_keyiterator" = false := by decide
  unfold pyNext
  refine wpAny_bind (wpAny_attempt (wpAny_callSpecial?_slot (name := Str.ofString "__next__") hit.typeIs F.slot_dict_keyiterator_next (wpAny_call_entry F.slot_dict_keyiterator_next hit.typeIs F.entry_dict_keyiterator_next ?_ (F.args_dict_keyiterator_next_1 _))))
  refine wpAny_bind (wpAny_pure (wpAny_bind (wpAny_bind ?_)))
  first | refine wpAny_bind (wpAny_typeNameOfWhole_keyiter hit.typeIs (wpAny_pure ?_)) | refine wpAny_bind (wpAny_typeNameOf_keyiter hit.typeIs (wpAny_pure (?_)))
  refine wpAny_bind (wpAny_fieldsOf ho hd ?_)
  simp only [hown, Bool.false_eq_true, if_false]
  show wpAny _ _ (if (Value.ref d == Value.none) = true then _ else _) _ _ s
  rw [if_neg (show ¬ ((Value.ref d == Value.none) = true) from Bool.false_ne_true)]
  refine wpAny_bind (wpAny_pure (wpAny_bind (wpAny_dictEntries hod hdd ?_)))
  rw [if_neg (by simp)]
  refine wpAny_bind (wpAny_pure (wpAny_bind (wpAny_dictEpoch hod hdd ?_)))
  rw [if_neg (by simp)]
  refine wpAny_pure ?_
  simp only [show ¬ ((i : Int) < 0) from by omega, if_false, Int.toNat_natCast, Array.getElem?_eq_none he]
  refine wpAny_bind ?_
  first | refine wpAny_bind (wpAny_typeNameOfWhole_keyiter hit.typeIs (wpAny_pure ?_)) | refine wpAny_bind (wpAny_typeNameOf_keyiter hit.typeIs (wpAny_pure (?_)))
  show wpAny _ _ (setField (.ref it) 0 .none >>= _) _ _ s
  refine wpAny_bind (wpAny_setField ho hd (by simp) ?_)
  show wpAny _ _ (newExc (.type "StopIteration") [] >>= _) _ _ _
  refine wpAny_bind ?_
  simp only [newExc, newTuple]
  refine wpAny_bind (wpAny_newObj_type (wpAny_bind (m := firstArgMember _ _) (wpAny_of_eq (a := Value.none) (by first | rfl | (simp only [firstArgMember]; rfl)) (wpAny_newObj_type ?_ (by size_fits)))) (by size_fits))
  simp only [raiseNew]
  refine wpAny_bind (wpAny_handled ?_)
  rw [show A.in1.handled = none from hh]
  refine wpAny_bind (wpAny_pure (wpAny_throw ?_))
  refine wpAny_bind (wpAny_isInstance (T := "StopIteration") (b := true) ⟨_, Heap.get?_push_size _ rfl, rfl⟩ isSubtype_stop (wpAny_pure ?_))
  exact hQ _ (((Heap.SameBut.update ..).extBut.push _).push _)
end
theorem yU {P : Program} {w : World} {H : Hp} {h : Heap} {a : Addr} {kvs : List (List Key × V)} (ok : jb P w H h a (.dT kvs)) : ∃ o es ep, h.get? a = some o ∧ o.cls = .type "dict" ∧ o.data = .dict es ep ∧ (a == sysModules) = false ∧ es.size = kvs.length ∧
    ∀ (i : Nat) p, kvs[i]? = some p → ∃ b ent, es[i]? = some ent ∧ ent.key = .ref b ∧ H b = some (.tup (p.1.map kV)) := by
  obtain ⟨z, hs, xs, rel, o, es, ep, h1, h2, h3, h4, h5⟩ := ok
  have hl := Paired.length rel
  refine ⟨o, es, ep, h1, h2.1, h3, hs, ?_, fun i p hp => ?_⟩
  · have := congrArg List.length h4
    rw [List.length_map, Array.length_toList] at this
    omega
  · have get : ∀ {kvs : List (List Key × V)} {xs : List (List Key × Addr × Value)} {i : Nat}, Paired (fun (p : List Key × V) (q : List Key × Addr × Value) => p.1 = q.1 ∧ H q.2.1 = some (.tup (p.1.map kV)) ∧ RelV p.2 q.2.2) kvs xs → kvs[i]? = some p → ∃ q, xs[i]? = some q ∧ H q.2.1 = some (.tup (p.1.map kV)) := by
      intro kvs xs i r
      induction r generalizing i with
      | nil => intro hp; simp at hp
      | cons hh t ih =>
        intro hp
        cases i with
        | zero => simp at hp; subst hp; exact ⟨_, rfl, hh.2.1⟩
        | succ i => obtain ⟨q, a1, a2⟩ := ih (i := i) (by simpa using hp); exact ⟨q, by simpa using a1, a2⟩
    obtain ⟨q, a1, a2⟩ := get rel hp
    refine ⟨q.2.1, entryOfKey (tupleKind (jh P w)) q, ?_, rfl, a2⟩
    rw [← Array.getElem?_toList, h4, List.getElem?_map, a1]
    rfl
theorem Inv.hold {X : Cx} {pins : List (Addr × Obj)} {σ : St} {H : Hp} {s : Shared} {a : Addr} {kvs : List (List Key × V)} (I : Inv X pins σ H s) (e : H a = some (.dT kvs)) : ∃ o, Inv X pins σ (upd H a (.frz o (.dT kvs))) s := by
  have ok : jb X.prog X.w H s.heap a (.dT kvs) := I.hok a _ e
  obtain ⟨z, hs, xs, rel, o, es, ep, h1, h2⟩ := id ok
  refine ⟨o, I.write (x := a) (e := a) (t' := s.toks) (h' := s.heap) (by rw [e]; exact True.intro) (.inl rfl) (fun b u _ q => q) ⟨o, h1⟩ ⟨h1, z, hs, xs, ?_, o, es, ep, h1, h2⟩⟩
  exact KT.keeps rel fun c ys ec => by
    rw [zp (zgZ ec e (fun z => nomatch z))]
    exact ec
theorem SR.hold {K : Frag} {F : Fx} {O : List Addr} {ρ : Env'} {σ : St} {H : Hp} {i : Nat} {p : Addr} {o : Obj} {kvs : List (List Key × V)} {ds : List D} {d : D} (r : SR K F O ρ σ H) (he : ρ[i]? = some (some (.own d))) (hs : σ[i]? = some (some (.ref p))) (hp : H p = some (.dT kvs)) (rd : Reps K (hide O H) ds (kvs.map (·.2))) :
    SR K F (O.filter (· ≠ p)) (ρ.set i (some (.val (.dict ((.none, .int 0) :: (kvs.map fun q => xF q.1).zip ds))))) σ (upd H p (.frz o (.dT kvs))) := by
  obtain ⟨p', h1, hO, h0, _⟩ := r.own i _ he
  rw [hs] at h1; cases h1
  have sub : ∀ q ∈ O.filter (· ≠ p), q ∈ O := fun q hq => (List.mem_filter.mp hq).1
  have np : p ∉ O.filter (· ≠ p) := fun z => by simpa using (List.mem_filter.mp z).2
  have grow : Same (hide O H) (hide (O.filter (· ≠ p)) (upd H p (.frz o (.dT kvs)))) := fun b u e => by
    obtain ⟨e1, e2⟩ := jJ e
    rw [jG (fun z => e1 (sub b z)), zp (fun z : b = p => e1 (by rw [z]; exact hO))]
    exact e2
  refine ⟨fun b u e => ?_, r.vb.trans grow, fun q hq => List.mem_filter.mpr ⟨r.oc q hq, ?_⟩, fun q hq => ?_, by rw [List.length_set]; exact r.len, fun j d' e => ?_, fun j d' e => ?_, fun j k d1 d2 q e1 e2 f1 f2 => ?_⟩
  · rw [zp (zB e h0.2)]; exact r.hb _ _ e
  · have : q ≠ p := fun z => h0.1 (z ▸ hq)
    simpa using this
  · rw [zp (fun z : q = p => np (by rw [z] at hq; exact hq))]; exact r.dom q (sub q hq)
  · rcases get_set e with ⟨rfl, e2, hl⟩ | ⟨ne, e2⟩
    · cases e2
      exact ⟨_, hs, .dF (o := o) (by rw [jG np, zL]) (rd.same grow)⟩
    · obtain ⟨v, h1, h2⟩ := r.val j d' e2
      exact ⟨v, h1, h2.same grow⟩
  · rcases get_set e with ⟨rfl, e2, hl⟩ | ⟨ne, e2⟩
    · cases e2
    · obtain ⟨q, h1, h2, h3, h4⟩ := r.own j d' e2
      have hq : q ≠ p := fun z => by subst z; exact ne (r.sep i j _ d' q he e2 hs h1)
      refine ⟨q, h1, List.mem_filter.mpr ⟨h2, by simpa using hq⟩, h3, ?_⟩
      cases h4 with
      | lst h r => exact .lst (by rw [zp hq]; exact h) (r.same grow)
      | dK h r => exact .dK (by rw [zp hq]; exact h) (r.same grow)
      | dT h r => exact .dT (by rw [zp hq]; exact h) (r.same grow)
  · rcases get_set e1 with ⟨rfl, e1, _⟩ | ⟨ne1, e1⟩
    · cases e1
    rcases get_set e2 with ⟨rfl, e2, _⟩ | ⟨ne2, e2⟩
    · cases e2
    exact r.sep j k d1 d2 q e1 e2 f1 f2
section
variable {X : Cx}
theorem zfZ (i : Nat) (ρ : Env') : frzT i ρ = ρ ∨ ∃ r, ρ[i]? = some (some (.own (.dict ((.none, .none) :: r)))) ∧ frzT i ρ = ρ.set i (some (.val (.dict ((.none, .int 0) :: r)))) := by
  unfold frzT
  split
  · exact .inr ⟨_, by assumption, rfl⟩
  · exact .inl rfl
theorem zex {st : Stmt} {g : GS} (i : Nat) (h1 : PSd X st g) : PSd X st (fun ρ => g (frzT i ρ)) := fun pins s σ H D I ⟨F, O, ρ, out, r, e, k⟩ => by
  have e : g (frzT i ρ) = some out := e
  rcases zfZ i ρ with q | ⟨rr, he, q⟩
  · rw [q] at e
    exact h1 pins s σ H D I ⟨F, O, ρ, out, r, e, k⟩
  · rw [q] at e
    obtain ⟨p, hs, hO, h0, ho⟩ := r.own i _ he
    obtain ⟨kvs, ds, hp, rd, rfl⟩ := ho.tabT rfl
    obtain ⟨o, I'⟩ := Inv.hold I hp
    exact h1 pins s σ _ D I' ⟨F, _, _, out, r.hold he hs hp rd, e, k⟩
def ItF (a : Addr) (o : Obj) (kvs : List (List Key × V)) : It :=
  ⟨fun i H => H a = some (.frz o (.dT kvs)) ∧ i < kvs.length, fun i H x H' => H' = H ∧ ∃ p b, kvs[i]? = some p ∧ x = .ref b ∧ H b = some (.tup (p.1.map kV)), fun i H => H a = some (.frz o (.dT kvs)) ∧ kvs.length ≤ i⟩
theorem wk {P : Program} {w : World} {H : Hp} {h : Heap} {a : Addr} {o : Obj} {kvs : List (List Key × V)} {es : Array DictEntry} {ep : Nat} (ok : HOk P w H h) (e : H a = some (.frz o (.dT kvs))) (hd : o.data = .dict es ep) : h.get? a = some o ∧ es.size = kvs.length ∧
    ∀ (i : Nat) p, kvs[i]? = some p → ∃ b ent, es[i]? = some ent ∧ ent.key = .ref b ∧ H b = some (.tup (p.1.map kV)) := by
  obtain ⟨h1, h2⟩ := (show jb P w H h a (.frz o (.dT kvs)) from ok a _ e)
  obtain ⟨o', es', ep', g1, g2, g3, g4, g5, g6⟩ := yU h2
  rw [h1] at g1; cases g1
  rw [hd] at g3; cases g3
  exact ⟨h1, g5, g6⟩
theorem zde {P : Program} {w : World} {K : Frag} {tg : Expr} {a it : Addr} {o : Obj} {kvs : List (List Key × V)} {es : Array DictEntry} {ep : Nat} (hd : o.data = .dict es ep) : Turn P w K tg (ItF a o kvs) [it] it (fun i h => h.IsKeyIter it a i es.size ep) where
  mem := by simp
  obj := fun i h st b hb => by
    have e : b = it := by simpa using hb
    subst e
    obtain ⟨o, e, c, d⟩ := st
    exact ⟨o, e, fun v z => by rw [d] at z; cases z⟩
  keep := fun i h h' st k => st.at fun o e => k it (by simp) o e
  item := by
    intro X hP hw hK hc i pins s σ H E I hf st ⟨ha, hi⟩
    subst hP hw hK
    obtain ⟨e1, e2, e3⟩ := wk I.hok ha hd
    obtain ⟨b, ent, g1, g2, g3⟩ := e3 i kvs[i] (by simp [hi])
    obtain ⟨f0, f1, f2, f3, f4, f5⟩ := hf it (by simp)
    refine zci st e1 hd g1 fun h' st' sb => ?_
    rw [g2]
    have I1 : Inv X pins σ H { s with heap := h' } := I.turned (t' := s.toks) (fun b o hb e => (sb.2 b hb).trans e) f0 f1 f3 f4 f5
    obtain ⟨o', e, c, d⟩ := id st'
    exact ⟨_, rfl, zd7 (s := { s with heap := h' }) e c d (by decide) ⟨.ref b, H, I1, rfl, ⟨rfl, kvs[i], b, by simp [hi], rfl, g3⟩, st', fun b hb => (hf b hb).1⟩⟩
  done := by
    intro X hP hw hK hc i pins s σ H E I hf st ⟨ha, hi⟩
    subst hP hw hK
    obtain ⟨e1, e2, e3⟩ := wk I.hok ha hd
    obtain ⟨f0, f1, f2, f3, f4, f5⟩ := hf it (by simp)
    exact zet (I.ok.hd hc) st e1 hd (by omega) fun h' eb => ⟨rfl, I.turned (t' := s.toks) (fun b o hb e => eb b o hb e) f0 f1 f3 f4 f5⟩
  self := fun _ _ _ _ _ st h => wpAny_pyIter_keyiter st h
theorem yh {K : Frag} {H : Hp} : ∀ ks : List Key, Reps K H (ks.map keyD) (ks.map kV)
  | [] => .nil
  | .inl i :: ks => .cons (.int i) (yh ks)
  | .inr x :: ks => .cons (.str x) (yh ks)
theorem zeR {K : Frag} {B : Hp} {a : Addr} {o : Obj} {kvs : List (List Key × V)} (h : B a = some (.frz o (.dT kvs))) : ItD K B (ItF a o kvs) (kvs.map fun p => xF p.1) where
  go := fun i H s hi => ⟨s _ _ h, by simpa using hi⟩
  yld := fun i H x H' d s hd y => by
    obtain ⟨rfl, p, b, hp, rfl, hb⟩ := y
    rw [List.getElem?_map, hp] at hd
    cases hd
    exact .old fun O sm dm => .tup (by rw [jG (dm.tup hb)]; exact hb) (yh p.1)
  stop := fun H s => ⟨s _ _ h, by simp⟩
theorem zdd {tg e : Expr} {ge : Env' → Option D} (h : PD X e ge) : PId X tg e (gIt ze5 ge) := by
  intro pins s σ H R I ⟨F, O, ρ, ds, r, e, k⟩
  obtain ⟨d, e1, e2⟩ := Option.bind_eq_some_iff.mp e
  refine thn (h pins s σ H (fun v H1 => Same H H1 ∧ Rep X.K (hide O H1) d v) I ⟨F, O, ρ, d, r, e1, fun v H1 s1 rb => ⟨s1, rb⟩⟩) fun v s1 ⟨x, H1, I1, r1, sm, rb⟩ => ?_
  have hF : ∃ a o kvs, x = .ref a ∧ hide O H1 a = some (.frz o (.dT kvs)) ∧ ds = kvs.map (fun p => xF p.1) := by
    cases rb with
    | @dF a o kvs ds' h r =>
      refine ⟨a, o, kvs, rfl, h, ?_⟩
      have hl := r.length
      rw [List.length_map] at hl
      have e2' : some (((kvs.map fun p => xF p.1).zip ds').map (·.1)) = some ds := e2
      rw [← Option.some.inj e2']
      exact List.map_fst_zip (by simp [hl])
    | @dK a kvs es h r =>
      exfalso
      cases kvs with
      | nil => cases e2
      | cons p r =>
        obtain ⟨k, w⟩ := p
        cases es with
        | nil => cases e2
        | cons d es => cases k <;> cases e2
    | _ => cases e2
  obtain ⟨a, o, kvs, rfl, ha, rfl⟩ := hF
  obtain rfl : v = Value.ref a := r1
  have ok := I1.hok a _ (jJ ha).2
  obtain ⟨q1, q2⟩ := (show jb X.prog X.w H1 s1.heap a (.frz o (.dT kvs)) from ok)
  obtain ⟨o', es, ep, g1, g2, g3, g4, g5, g6⟩ := yU q2
  rw [q1] at g1; cases g1
  refine zcr ⟨o, q1, g2⟩ g4 q1 g3 ?_
  refine ⟨s1.heap.objs.size, [s1.heap.objs.size], _, _, H1, rfl, I1.kept (t' := s1.toks) fun b o e => Heap.get?_push_of_some _ e, zde (kvs := kvs) g3, ⟨_, Heap.get?_push_size _ rfl, rfl, rfl⟩, fun b hb => ?_, k _ H1 sm (zeR ha)⟩
  have e : b = s1.heap.objs.size := by simpa using hb
  subst e
  exact I1.fpOk (Nat.le_refl _) (I1.hok.fresh (Nat.le_refl _))
end
end L2.Y
namespace L2.Y
open PySem PySem.Spec PyProof.Rows
theorem zf6 {fs ch : List Addr} {H : Hp} {h h' : Heap} {a : Addr} {o : HO} (k : ∀ b u, b ∉ ch → h.get? b = some u → h'.get? b = some u) (hp : h.objs.size ≤ a) (hn : H a = none) : Un fs ch H (upd H a o) h h' where
  keep := fun b u q _ _ hx => k b u hx q
  slot := fun b u q _ _ hx => ⟨u.slots, k b u hx q⟩
  free := fun b u q n _ => by rw [zp (Nat.ne_of_lt (Nat.lt_of_lt_of_le (Heap.lt_size q) hp))]; exact n
  there := fun b u q hx => ⟨u, k b u hx q⟩
  tups := fun b xs q => by rw [zp (zB q hn)]; exact q
  frzs := fun b u xs q => by rw [zp (zB q hn)]; exact q
  tbls := fun b ps q => ⟨#[], by rw [zp (zB q hn), q]; simp⟩
theorem zdK {P : Program} {w : World} {ch : List Addr} {H : Hp} {h h' : Heap} {a : Addr} {o : HO} (ok : HOk P w H h) (k : ∀ b u, b ∉ ch → h.get? b = some u → h'.get? b = some u) (hc : ∀ b ∈ ch, H b = none) (hn : H a = none) (new : jb P w (upd H a o) h' a o) : HOk P w (upd H a o) h' := fun b u q => by
  by_cases e : b = a
  · subst e; rw [zL] at q; cases q; exact new
  · rw [zp e] at q
    refine (ok b u q).stay (fun c v hcc r => k c v (fun z => ?_) r) (fun c r => by rw [zp (zB r hn)]; exact r) fun c xs r => by rw [zp (zB r hn)]; exact r
    have z0 := hc c z
    rcases hcc with rfl | hcc
    · rw [q] at z0; cases z0
    · rw [hcc] at z0; cases z0
section
variable {X : Cx}
end
end L2.Y
namespace L2.Y
open PySem PySem.Spec PyProof.Rows
section
variable {prog : Program} {w : World} {A : Around} {E : Value → Shared → Prop} {s : Shared}
end
section
variable {X : Cx}
theorem zbL {scope : Scope} {own N : List Str} {caps : List Nat} {tg iter elt : Expr} {pos : Pos} {gi : Env' → Option (List D)} {h : GT} {gt : Env' → Option Bool} {ge : Env' → Option D} {ifs : List Expr} {i : Nat} {x : Str} {px spos : Pos} (S : CompOk X scope own caps N) (nd : caps.Nodup) (ov : Over own.length h) (hc : X.calm = true) (hi : PId X tg iter gi) (hg : zU X N scope fun Y => PGd Y tg h) (ht : zU X N scope fun Y => PIfd Y ifs gt) (he : zU X N scope fun Y => PD Y elt ge)
    (hN : X.N.Nodup) (hx : X.N[i]? = some x) (hl : X.env.scope.names.lookup x = some .local) (hsw : swapsWith (.ListComp elt [⟨tg, iter, ifs, 0⟩] scope pos) (some (.Name x px)) spos.line X.env = pure true)
    (hs : ∀ x, foldedSetIterable iter X.env x = pure x := by intro _; rfl) : PSd X (.Assign [.Name x px] (.ListComp elt [⟨tg, iter, ifs, 0⟩] scope pos) spos) (zcf i (qG own.length caps gi h gt ge)) :=
  PS.imp (zba (g := tGd X.K h) (tt := tTd X.K gt) (te := tD X.K ge) S hc hi (fun cl C s H fp => hg cl C s H fp) (fun cl C s H fp => ht cl C s H fp) (fun cl C s H fp => he cl C s H fp) hN hx hl hsw hs) fun D σ H ⟨F, O, ρ, out, r, e, k⟩ => by
    obtain ⟨ds, e1, e2⟩ := Option.map_eq_some_iff.mp e
    subst e2
    refine vf nd ov ⟨F, O, ρ, ds, r, e1, fun p xs H1 s1 hp b1 => ?_⟩
    exact k O _ _ ((r.same (s1.trans (zK hp))).setVal (wx hp ((r.same s1).fresh hp) b1))
end
section
variable {P : Program} {w : World} {K : Frag} {mg : Str → Option Value} {base : Heap}
theorem zdA {x qual : Str} {st : Stmt} {f : Addr} {fd : FuncData} {N ps : List Str} {k n : Nat} (F : Fun K x qual st f fd) (S : FnScope N ps (zf st)) : FnOk P w K mg base CX0 (k + 1) f fd ps (spD K n fun _ => none) := by
  refine F.ok S (fun vs H Q E h => ?_) (fun cdv A outer s H vs Q E hr h => ?_)
  · obtain ⟨O, ds, d, _, r, hl, e, _⟩ := h
    cases e
  · obtain ⟨O, ds, d, _, r, hl, e, _⟩ := h
    cases e
end
theorem kO {K : Frag} {H : Hp} : ∀ ns : List Int, Reps K H (ns.map PyData.int) (ns.map V.int)
  | [] => .nil
  | n :: ns => .cons (.int n) (kO ns)
theorem zcH {K : Frag} {H : Hp} {a : Addr} {ns : List Int} {f : List D → Option D} {E : XK} (hS : SqL K H a (ns.map V.int)) (h : f [scrD (ns.map PyData.int)] = some (.bool true)) : spD K 1 f [.ref a] H (fun v _ => v = .bl true) E :=
  ⟨[], [scrD (ns.map PyData.int)], .bool true, fun p hp => absurd hp (by simp), .cons (.scr (by rw [zeU]; exact hS) (kO ns)) .nil, rfl, h, fun v H' s b => wv b⟩
theorem nd_ (l : List Str) (h : l.Nodup := by decide +kernel) : l.Nodup := h
theorem zk {X : Cx} {e : Expr} {es : List Expr} {ga : Env' → Option D} {gr : Env' → Option (List D)} (hs : zcg e = true) (ha : PD X e ga) (hr : PAd X es gr) : PAd X (e :: es) (zc ga gr) := zeP ha hr (jC hs)
theorem jZ {X : Cx} {e : Expr} {es : List Expr} {ga : Env' → Option D} {gr : Env' → Option (List D)} (hs : zcg e = true) (ha : PB X e ga) (hr : PAb X es gr) : PAb X (e :: es) (zc ga gr) := zd8 ha hr (jC hs)
section
variable {X : Cx} {tg e : Expr} {pos : Pos}
theorem zx {h : GT} {ge : Env' → Option D} (hs : swapsWithSole [tg] e pos.line X.env = pure false) (hw : swappedStores [tg] e X.env = pure none) (h1 : (assignEach [tg] X.env).map (·.2) = [assign tg X.env]) (hg : PGd X tg h) (he : PD X e ge) : PSd X (.Assign [tg] e pos) (sAsg h ge) := zgh hg he hs hw h1
theorem xc {i : Nat} {ge : Env' → Option (List D)} (hs : swapsWithSole [tg] e pos.line X.env = pure false) (hw : swappedStores [tg] e X.env = pure none) (h1 : (assignEach [tg] X.env).map (·.2) = [assign tg X.env]) (hg : PG X tg (kR i)) (he : PFr X e ge) : PSd X (.Assign [tg] e pos) (sOwn i ge) := zfg hg he hs hw h1
end
section
variable {X : Cx} {e : Expr} {pos : Pos} {st : Stmt}
theorem zh {i j} : PD X (.Constant (.int i) j pos) (gK (.int i)) := zgS
theorem zgn {i j} : PD X (.Constant (.bool i) j pos) (gK (.bool i)) := zhC
theorem PFr.d_ {g : Env' → Option (List D)} (h : PFr X e g) : PD X e (gLs g) := PFr.d h
theorem zM {ge : Env' → Option D} (he : PD X e ge) : PSd X (.Return (some e) pos) (sRet ge) := zfS he
theorem wt {g : GS} (i : Nat) (h1 : PSd X st g) : PSd X st (sFrz i g) := zfw i h1
theorem zcm {g : GS} (i : Nat) (h1 : PSd X st g) : PSd X st (zg3 i g) := zex i h1
theorem jX : PIfd X [] xQ := zdW
end
end L2.Y
namespace L2.Y
open PySem PySem.Spec PyProof.Rows
end L2.Y
namespace L2.Y
open PySem PySem.Spec PyProof.Rows
theorem zaP {X : Cx} {pins : List (Addr × Obj)} {σ : St} {H : Hp} {s : Shared} {h' : Heap} {tk : Nat} {fp : List Addr} (I : Inv X pins σ H s) (hf : ∀ b ∈ fp, FpOk X pins H b) (k : ∀ c o, c ∉ fp → s.heap.get? c = some o → h'.get? c = some o) : Inv X pins σ H { s with heap := h', toks := tk } := by
  refine I.call' (ch := fp) rfl ⟨fun b u q _ _ hx => k b u hx q, fun b u q _ _ hx => ⟨u.slots, k b u hx q⟩, fun b u q n _ => n, fun b u q hx => ⟨u, k b u hx q⟩, fun _ _ q => q, fun _ _ _ q => q, fun b ps q => ⟨#[], by rw [q]; simp⟩⟩ (fun b u q => ?_) I.bare
    fun c hcm => let ⟨_, f1, _, f3, f4, f5⟩ := hf c hcm; ⟨f3, f1, f4, f5⟩
  refine (I.hok b u q).stay (fun c v hcc r => k c v (fun zz => ?_) r) (fun c r => r) fun c xs r => r
  have z0 := (hf c zz).1
  rcases hcc with rfl | hcc
  · rw [q] at z0; cases z0
  · rw [hcc] at z0; cases z0
theorem kA {X : Cx} {pins : List (Addr × Obj)} {σ : St} {H : Hp} {s : Shared} {h' : Heap} {tk : Nat} {fp : List Addr} {x y : V} {ux uy : Value} (I : Inv X pins σ H s) (hf : ∀ b ∈ fp, FpOk X pins H b) (k : ∀ c o, c ∉ fp → s.heap.get? c = some o → h'.get? c = some o) (rx : RelV x ux) (ry : RelV y uy) (g : IsPair h' s.heap.objs.size ux uy) :
    Inv X pins σ (upd H s.heap.objs.size (.tup [x, y])) { s with heap := h', toks := tk } := by
  have hfree : H s.heap.objs.size = none := I.hok.fresh (Nat.le_refl _)
  have new : jb X.prog X.w (upd H s.heap.objs.size (.tup [x, y])) h' s.heap.objs.size (.tup [x, y]) := ⟨by show 2 ≤ sizeLine; decide, [ux, uy], .cons rx (.cons ry .nil), ⟨_, g, rfl, 0, rfl⟩⟩
  exact I.call' (s' := { s with heap := h', toks := tk }) (ch := fp) rfl (zf6 k (Nat.le_refl _) hfree) (zdK I.hok k (fun c hcm => (hf c hcm).1) hfree new) I.bare fun c hcm => let ⟨_, f1, _, f3, f4, f5⟩ := hf c hcm; ⟨f3, f1, f4, f5⟩
section
variable {X : Cx}
end
theorem yk : ∀ (ds : List D) (k i : Nat) {d : D}, (qu k ds)[i]? = some d → ∃ x, ds[i]? = some x ∧ d = .tuple [.int ((k + i : Nat) : Int), x]
  | [], _, _, _, h => by simp [qu] at h
  | x :: ds, k, 0, d, h => by simp [qu] at h; exact ⟨x, rfl, h.symm⟩
  | x :: ds, k, i + 1, d, h => by
    obtain ⟨y, h1, h2⟩ := yk ds (k + 1) i (d := d) (by simpa [qu] using h)
    exact ⟨y, by simpa using h1, by rw [h2, show k + 1 + i = k + (i + 1) by omega]⟩
theorem qU : ∀ (ds : List D) (k : Nat), (qu k ds).length = ds.length
  | [], _ => rfl
  | x :: ds, k => by rw [qu, List.length_cons, List.length_cons, qU ds]
end L2.Y
namespace L2.Y
open PySem PySem.Spec PyProof.Rows
def Iet (K : Frag) (a : Addr) : It :=
  ⟨fun i H => ∃ xs x, SqT K H a xs ∧ xs[i]? = some x, fun i H v H' => ∃ p x, v = .ref p ∧ H p = none ∧ H' = upd H p (.tup [.int i, x]) ∧ ∀ xs, SqT K H a xs → xs[i]? = some x, fun i H => ∃ xs, SqT K H a xs ∧ xs.length = i⟩
def Iel (K : Frag) (a : Addr) : It :=
  ⟨fun i H => ∃ xs x, SqL K H a xs ∧ xs[i]? = some x, fun i H v H' => ∃ p x, v = .ref p ∧ H p = none ∧ H' = upd H p (.tup [.int i, x]) ∧ ∀ xs, SqL K H a xs → xs[i]? = some x, fun i H => ∃ xs, SqL K H a xs ∧ xs.length = i⟩
theorem mem2 {b e it : Addr} (h : b ∈ [e, it]) : b = e ∨ b = it := by simpa using h
theorem zek {P : Program} {w : World} {K : Frag} {elts : List Expr} {k : Nat} {pos : Pos} {e it a : Addr} (h1 : e ≠ it) (h2 : e ≠ a) (h3 : a ≠ it) : Turn P w K (.Tuple elts k pos) (Iet K a) [e, it] e (fun i h => (∃ old, IsEnum h e it i old) ∧ h.IsTupleIter it a i) where
  mem := by simp
  obj := fun i h st b hb => by
    obtain ⟨⟨old, s1⟩, ⟨o, e2, c, d⟩⟩ := st
    rcases mem2 hb with rfl | rfl
    · exact ⟨_, s1, fun v q => by have q' : Data.fields _ = Data.cell v := q; cases q'⟩
    · exact ⟨o, e2, fun v q => by rw [d] at q; cases q⟩
  keep := fun i h h' st kk => ⟨let ⟨old, s1⟩ := st.1; ⟨old, kk e (by simp) _ s1⟩, zbM st.2 fun o q => kk it (by simp) o q⟩
  item := by
    intro X hP hw hK hc i pins s σ H E I hf st hg
    subst hP hw hK
    obtain ⟨⟨old, s1⟩, s2⟩ := st
    obtain ⟨xs, x, q1, hx⟩ := hg
    obtain ⟨its, rv, p, hz⟩ := I.tuple q1
    have hfree : H s.heap.objs.size = none := I.hok.fresh (Nat.le_refl _)
    have hi : i < its.toArray.size := by rw [List.size_toArray, ← rv.length]; exact (List.getElem?_eq_some_iff.mp hx).1
    refine wpAny_pyNext_enum_itemD (vY (A := X.A.in1) (show X.A.in1.handled = none from I.ok.hd hc) it a h3 its.toArray) s1 ⟨s2, (show s.heap.IsTuple a its.toArray from p)⟩ hi h1 (by simp [h1, h2]) fun u h' tk hu b1 b2 b3 b4 b5 => ?_
    refine ⟨_, rfl, wpAny_letOwnedTupleGo_enum (s := { s with heap := h', toks := tk + 1 }) b1 fun h'' c1 sb => ?_⟩
    have hTe : s.heap.objs.size ≠ e := Nat.ne_of_gt (Heap.lt_size s1)
    have ex : its[i]? = some u := by simpa using hu
    obtain ⟨u', hv, rvu⟩ := rv.get hx
    rw [ex] at hv; cases hv
    have keep2 : ∀ c o, c ∉ [e, it] → s.heap.get? c = some o → h''.get? c = some o := fun c o hcn q => by
      simp only [List.mem_cons, List.mem_nil_iff, or_false, not_or] at hcn
      exact (sb.2 c hcn.1).trans (b5 c o hcn.1 hcn.2 q)
    have g5 : IsPair h'' s.heap.objs.size (.int i tk) u := (sb.2 _ hTe).trans b3
    refine ⟨.ref s.heap.objs.size, _, kA (s := s) (tk := tk + 1) (x := .int i) (y := x) I hf keep2 ⟨_, rfl⟩ rvu g5, rfl, ⟨_, x, rfl, hfree, rfl, fun xs' q => by rw [I.tuple_inj q q1]; exact hx⟩, ⟨⟨_, c1⟩, zbM b2.1 fun o q => (sb.2 it h1.symm).trans q⟩, fun c hcm => ?_⟩
    have lt : ∃ o, s.heap.get? c = some o := by
      rcases mem2 hcm with rfl | rfl
      · exact ⟨_, s1⟩
      · obtain ⟨o, q, _⟩ := s2; exact ⟨o, q⟩
    obtain ⟨o, q⟩ := lt
    rw [zp (Nat.ne_of_lt (Heap.lt_size q))]
    exact (hf c hcm).1
  done := by
    intro X hP hw hK hc i pins s σ H E I hf st hg
    subst hP hw hK
    obtain ⟨⟨old, s1⟩, s2⟩ := st
    obtain ⟨xs, q1, hl⟩ := hg
    obtain ⟨its, rv, p, hz⟩ := I.tuple q1
    have hi : i = its.toArray.size := by rw [List.size_toArray, ← rv.length]; exact hl.symm
    subst hi
    exact wpAny_pyNext_enum_endD (vY (A := X.A.in1) (show X.A.in1.handled = none from I.ok.hd hc) it a h3 its.toArray) s1 ⟨s2, (show s.heap.IsTuple a its.toArray from p)⟩ fun h' eb => ⟨rfl, zaP (s := s) (tk := s.toks) I hf fun c o hcn q => eb c o (fun z => hcn (by rw [z]; simp)) q⟩
  self := fun _ _ _ _ _ st h => let ⟨_, s1⟩ := st.1; wpAny_pyIter_enum s1 h
theorem zfn {K : Frag} {B : Hp} {a : Addr} {xs : List V} {ds : List D} (s1 : SqT K B a xs) (r1 : Reps K B ds xs) : ItD K B (Iet K a) (qu 0 ds) where
  go := fun i H s hi => by
    rw [qU] at hi
    obtain ⟨v, g1, _⟩ := r1.get (i := i) (d := ds[i]) (by simp [hi])
    exact ⟨xs, v, SqT.same s s1, g1⟩
  yld := fun i H x H' d s hd y => by
    obtain ⟨p, vx, rfl, hp, rfl, f1⟩ := y
    obtain ⟨dx, h1, rfl⟩ := yk ds 0 i hd
    obtain ⟨d1, e1, q1⟩ := r1.getV (f1 xs (SqT.same s s1))
    rw [h1] at e1; cases e1
    rw [Nat.zero_add]
    exact .new hp (.cons (.int _) (.cons q1 .nil))
  stop := fun H s => ⟨xs, SqT.same s s1, by rw [qU, r1.length]⟩
theorem zep {P : Program} {w : World} {K : Frag} {elts : List Expr} {k : Nat} {pos : Pos} {e it a : Addr} (h1 : e ≠ it) (h2 : e ≠ a) (h3 : a ≠ it) : Turn P w K (.Tuple elts k pos) (Iel K a) [e, it] e (fun i h => (∃ old, IsEnum h e it i old) ∧ h.IsListIter it a i) where
  mem := by simp
  obj := fun i h st b hb => by
    obtain ⟨⟨old, s1⟩, ⟨o, e2, c, d⟩⟩ := st
    rcases mem2 hb with rfl | rfl
    · exact ⟨_, s1, fun v q => by have q' : Data.fields _ = Data.cell v := q; cases q'⟩
    · exact ⟨o, e2, fun v q => by rw [d] at q; cases q⟩
  keep := fun i h h' st kk => ⟨let ⟨old, s1⟩ := st.1; ⟨old, kk e (by simp) _ s1⟩, st.2.at fun o q => kk it (by simp) o q⟩
  item := by
    intro X hP hw hK hc i pins s σ H E I hf st hg
    subst hP hw hK
    obtain ⟨⟨old, s1⟩, s2⟩ := st
    obtain ⟨xs, x, q1, hx⟩ := hg
    obtain ⟨its, rv, p, hz⟩ := I.list q1
    have hfree : H s.heap.objs.size = none := I.hok.fresh (Nat.le_refl _)
    have hi : i < its.toArray.size := by rw [List.size_toArray, ← rv.length]; exact (List.getElem?_eq_some_iff.mp hx).1
    refine wpAny_pyNext_enum_itemD (Draws.list (A := X.A.in1) (show X.A.in1.handled = none from I.ok.hd hc) it a h3 its.toArray) s1 ⟨s2, p.isList⟩ hi h1 (by simp [h1, h2]) fun u h' tk hu b1 b2 b3 b4 b5 => ?_
    refine ⟨_, rfl, wpAny_letOwnedTupleGo_enum (s := { s with heap := h', toks := tk + 1 }) b1 fun h'' c1 sb => ?_⟩
    have hTe : s.heap.objs.size ≠ e := Nat.ne_of_gt (Heap.lt_size s1)
    have ex : its[i]? = some u := by simpa using hu
    obtain ⟨u', hv, rvu⟩ := rv.get hx
    rw [ex] at hv; cases hv
    have keep2 : ∀ c o, c ∉ [e, it] → s.heap.get? c = some o → h''.get? c = some o := fun c o hcn q => by
      simp only [List.mem_cons, List.mem_nil_iff, or_false, not_or] at hcn
      exact (sb.2 c hcn.1).trans (b5 c o hcn.1 hcn.2 q)
    have g5 : IsPair h'' s.heap.objs.size (.int i tk) u := (sb.2 _ hTe).trans b3
    refine ⟨.ref s.heap.objs.size, _, kA (s := s) (tk := tk + 1) (x := .int i) (y := x) I hf keep2 ⟨_, rfl⟩ rvu g5, rfl, ⟨_, x, rfl, hfree, rfl, fun xs' q => by rw [I.list_inj q q1]; exact hx⟩, ⟨⟨_, c1⟩, b2.1.at fun o q => (sb.2 it h1.symm).trans q⟩, fun c hcm => ?_⟩
    have lt : ∃ o, s.heap.get? c = some o := by
      rcases mem2 hcm with rfl | rfl
      · exact ⟨_, s1⟩
      · obtain ⟨o, q, _⟩ := s2; exact ⟨o, q⟩
    obtain ⟨o, q⟩ := lt
    rw [zp (Nat.ne_of_lt (Heap.lt_size q))]
    exact (hf c hcm).1
  done := by
    intro X hP hw hK hc i pins s σ H E I hf st hg
    subst hP hw hK
    obtain ⟨⟨old, s1⟩, s2⟩ := st
    obtain ⟨xs, q1, hl⟩ := hg
    obtain ⟨its, rv, p, hz⟩ := I.list q1
    have hi : i = its.toArray.size := by rw [List.size_toArray, ← rv.length]; exact hl.symm
    subst hi
    exact wpAny_pyNext_enum_endD (Draws.list (A := X.A.in1) (show X.A.in1.handled = none from I.ok.hd hc) it a h3 its.toArray) s1 ⟨s2, p.isList⟩ fun h' eb => ⟨rfl, zaP (s := s) (tk := s.toks) I hf fun c o hcn q => eb c o (fun z => hcn (by rw [z]; simp)) q⟩
  self := fun _ _ _ _ _ st h => let ⟨_, s1⟩ := st.1; wpAny_pyIter_enum s1 h
theorem zf7 {K : Frag} {B : Hp} {a : Addr} {xs : List V} {ds : List D} (s1 : SqL K B a xs) (r1 : Reps K B ds xs) : ItD K B (Iel K a) (qu 0 ds) where
  go := fun i H s hi => by
    rw [qU] at hi
    obtain ⟨v, g1, _⟩ := r1.get (i := i) (d := ds[i]) (by simp [hi])
    exact ⟨xs, v, SqL.same s s1, g1⟩
  yld := fun i H x H' d s hd y => by
    obtain ⟨p, vx, rfl, hp, rfl, f1⟩ := y
    obtain ⟨dx, h1, rfl⟩ := yk ds 0 i hd
    obtain ⟨d1, e1, q1⟩ := r1.getV (f1 xs (SqL.same s s1))
    rw [h1] at e1; cases e1
    rw [Nat.zero_add]
    exact .new hp (.cons (.int _) (.cons q1 .nil))
  stop := fun H s => ⟨xs, SqL.same s s1, by rw [qU, r1.length]⟩
section
variable {X : Cx}
theorem vt {a : Expr} {elts : List Expr} {k : Nat} {tpos p pos : Pos} {ga : Env' → Option (List D)} (hg : Gl X "enumerate") (hm : X.mg "enumerate" = none) (ha : PAd X [a] ga) (hs : starEach [a] X.env = [(false, eval a X.env)] := by rfl) :
    PId X (.Tuple elts k tpos) (.Call (.Name "enumerate" p) [a] [] pos) (gItA zfW ga) := by
  intro pins s σ H R I ⟨F, O, ρ, ds, r, e, kk⟩
  obtain ⟨as, e1, e2⟩ := Option.bind_eq_some_iff.mp e
  refine Call_ (wg I hg hm (by decide +kernel : bootBuiltins "enumerate" = some (.type "enumerate")) (PyProof.Rows.callWith_type1 (thn (ha pos pins s σ H (fun vs H1 => Same H H1 ∧ Reps X.K (hide O H1) as vs) I ⟨F, O, ρ, as, r, e1, fun vs H1 s1 rb => ⟨s1, rb⟩⟩) fun us s1 ⟨vs, H1, I1, r1, sm, rb⟩ => ?_) (by rw [hs]; rfl) (by rfl)))
  have apart : ∀ {n c : Nat}, c ∈ [n + 1, n] → n ≤ c := fun {n c} h => by
    have : c = n + 1 ∨ c = n := by simpa using h
    omega
  unfold zfW at e2
  split at e2
  · cases e2
    obtain ⟨v, rfl, b1⟩ := rb.inv1
    obtain ⟨u, rfl, q1⟩ := vals1 r1
    cases b1 with
    | @tup la xs d1 sq1 rs1 =>
      obtain rfl : u = Value.ref la := q1
      have t1 : SqT X.K (hide O H1) la xs := .inl (.inl sq1)
      obtain ⟨its, rv, p, _⟩ := I1.tuple (SqT.same jk t1)
      have lta : la < s1.heap.objs.size := by obtain ⟨o, e, _⟩ := p; exact Heap.lt_size e
      refine zbC (show s1.heap.IsTuple la its.toArray from p) fun h' g1 g2 kp => wpAny_pyIter_enum g1 ?_
      refine ⟨_, [s1.heap.objs.size + 1, s1.heap.objs.size], _, _, H1, rfl, I1.kept (t' := s1.toks) kp, zek (Nat.succ_ne_self _) (Nat.ne_of_gt (Nat.lt_succ_of_lt lta)) (Nat.ne_of_lt lta), ⟨⟨_, g1⟩, g2⟩, fun c hc => I1.fpOk (apart hc) (I1.hok.fresh (apart hc)), kk _ H1 sm (zfn t1 rs1)⟩
  · cases e2
    obtain ⟨v, rfl, b1⟩ := rb.inv1
    obtain ⟨u, rfl, q1⟩ := vals1 r1
    cases b1 with
    | @lst la xs d1 sq1 rs1 =>
      obtain rfl : u = Value.ref la := q1
      have t1 : SqL X.K (hide O H1) la xs := .inl sq1
      obtain ⟨z, its, n, rv, p⟩ := zaM I1 (Rd.same jk sq1)
      have lta : la < s1.heap.objs.size := Heap.lt_size p
      refine call_enumerate_1 p fun h' g1 g2 _ kp => wpAny_pyIter_enum g1 ?_
      refine ⟨_, [s1.heap.objs.size + 1, s1.heap.objs.size], _, _, H1, rfl, I1.kept (t' := s1.toks) kp, zep (Nat.succ_ne_self _) (Nat.ne_of_gt (Nat.lt_succ_of_lt lta)) (Nat.ne_of_lt lta), ⟨⟨_, g1⟩, g2⟩, fun c hc => I1.fpOk (apart hc) (I1.hok.fresh (apart hc)), kk _ H1 sm (zf7 t1 rs1)⟩
  · cases e2
end
end L2.Y
namespace L2.Y
open PySem PySem.Spec PyProof.Rows
section
variable {X : Cx}
theorem zdw : ym X (.type "int") intOfD := by
  intro pins s σ H O xs us ds d Q I hO rv bs e k
  unfold intOfD at e
  split at e
  · cases e
    obtain ⟨v, rfl, b⟩ := bs.inv1
    cases b.bl
    exact kN pins s σ H _ us Q I rv (.inr ⟨_, rfl, k _ H (Same.refl _) (.int _)⟩)
  · cases e
    obtain ⟨v, rfl, b⟩ := bs.inv1
    cases b.int
    exact kN pins s σ H _ us Q I rv (.inl ⟨_, rfl, k _ H (Same.refl _) (.int _)⟩)
  · cases e
end
end L2.Y
namespace L2.Y
open PySem PySem.Spec PySem.Calls PyProof.Rows PySem.W
section
open PySem.AutoSeq1 (wpAny_loadPart')
variable {prog : Program} {w : World} {A : Around} {E : Value → Shared → Prop} {s : Shared}
theorem vP {Q : List Value → Shared → Prop} {r : Addr} {a b c : Int} {t u v : Tok} {n : Nat} (hh : A.handled = none) (hr : IsRange s.heap r a b c t u v) (hsmall : Builtin.Range.small a b c = true)
    (hn : Builtin.Range.rangeSize a b c = n) (hlen : n ≤ 2 ^ 24)
    (hQ : ∀ (h' : Heap) (tk : Nat) (acc : Array Value), (∀ b o, s.heap.get? b = some o → h'.get? b = some o) → ItemsOf (fun i v => ∃ t, v = .int (a + i * c) t) acc n → Q acc.toList { s with heap := h', toks := tk }) :
    wpAny (model prog w) A (collect (.ref r)) Q E s := by
  unfold collect
  refine wpAny_bind (wpAny_runValue (codeAny_builtin F.entry_proto_collect ?_))
  rw [Around.under_plainId F.plain_proto_collect _]
  show wpAny _ A.in1 (newList [] >>= fun l => again (.builtin "list.__iadd__" ⟨[l, .ref r], []⟩)) _ _ s
  refine wpAny_bind (wpAny_newObj_type ?_)
  refine wpAny_pure ⟨plainId_quiet F.plain_list_iadd _, codeAny_builtin F.entry_list_iadd ?_⟩
  rw [Around.under_plainId F.plain_list_iadd _]
  show wpAny _ A.in1 (Builtin.List.listExtendWith (.ref s.heap.objs.size) (.ref r) (.ref s.heap.objs.size)) _ _ _
  have hS : (s.heap.push { cls := .type "list", data := .seq ([] : List Value).toArray }).get? s.heap.objs.size = some { cls := .type "list", data := .seq #[] 0 } := Heap.get?_push_size _ rfl
  have fin' : ∀ (h' : Heap) (tk : Nat) (acc' : Array Value) (c' : Nat), (∀ b o, b ≠ s.heap.objs.size → (s.heap.push { cls := .type "list", data := .seq ([] : List Value).toArray }).get? b = some o → h'.get? b = some o) →
      h'.get? s.heap.objs.size = some { cls := .type "list", dict := none, data := .seq acc' c', slots := #[] } → ItemsOf (fun i v => ∃ t, v = .int (a + i * c) t) acc' n → wpAny (model prog w) A (match Value.ref s.heap.objs.size with
      | Value.ref a => do
        match (← load a).data with
          | Data.seq xs _ => pure xs.toList
          | _ => unsupported "internal:collect"
      | _ => unsupported "internal:collect") Q E { s with heap := h', toks := tk } := fun h' tk acc' c' kp hS' it => by
    show wpAny _ A (load s.heap.objs.size >>= _) _ _ _
    refine wpAny_bind (wpAny_load hS' ?_)
    refine wpAny_pure ?_
    exact hQ h' tk acc' (fun b o e => kp b o (Nat.ne_of_lt (Heap.lt_size e)) (Heap.get?_push_of_some _ e)) it
  refine wpAny_mono (wpAny_extend_range (A := A) (R := fun r s' => r = .ok (.ret (.ref s.heap.objs.size)) ∧ ∃ (h' : Heap) (tk : Nat) (acc' : Array Value) (c' : Nat), s' = { s with heap := h', toks := tk } ∧ (∀ b o, b ≠ s.heap.objs.size → (s.heap.push { cls := .type "list", data := .seq ([] : List Value).toArray }).get? b = some o → h'.get? b = some o) ∧
      h'.get? s.heap.objs.size = some { cls := .type "list", dict := none, data := .seq acc' c', slots := #[] } ∧ ItemsOf (fun i v => ∃ t, v = .int (a + i * c) t) acc' n)
    (s := { s with heap := s.heap.push { cls := .type "list", data := .seq ([] : List Value).toArray } }) hh (Heap.get?_push_of_some _ hr) hsmall hn hlen s.heap.objs.size (.ref s.heap.objs.size) 0 hS (fun h' tk acc' c' kp hS' it => ⟨rfl, h', tk, acc', c', rfl, kp, hS', it⟩)) (fun fin s' h => ?_) (fun e s' h => ?_)
  · cases fin with
    | done f =>
      obtain ⟨e, h', tk, acc', c', rfl, kp, hS', it⟩ := h
      cases e
      exact fin' h' tk acc' c' kp hS' it
    | again c' => exact ⟨h.1, codeAny_mono h.2 fun r s'' hr => by obtain ⟨rfl, h', tk, acc', c', rfl, kp, hS', it⟩ := hr; exact fin' h' tk acc' c' kp hS' it⟩
  · exact absurd h.1 (by simp)
theorem xh {Q₁ : Value → Shared → Prop} {r : Addr} {a b c : Int} {t u v : Tok} {n : Nat} (hh : A.handled = none) (hr : IsRange s.heap r a b c t u v) (hsmall : Builtin.Range.small a b c = true)
    (hn : Builtin.Range.rangeSize a b c = n) (hlen : n ≤ 2 ^ 24)
    (h : ∀ (h' : Heap) (tk : Nat) (acc : Array Value), (∀ b o, s.heap.get? b = some o → h'.get? b = some o) → ItemsOf (fun i v => ∃ t, v = .int (a + i * c) t) acc n → Q₁ (.ref h'.objs.size) { s with heap := h'.push { cls := .type "tuple", data := .seq acc }, toks := tk }) :
    codeAny (model prog w) A (.call (.builtin "tuple.__new__") ⟨[.type "tuple", .ref r], []⟩) (wants Q₁ E) s := by
  refine codeAny_of_tree ?_
  show wpAny _ A.in1 (do checkBuiltinCall "tuple.__new__" ⟨[.type "tuple", .ref r], []⟩; again (.builtin "tuple.__new__" ⟨[.type "tuple", .ref r], []⟩)) _ _ s
  refine wpAny_bind (wpAny_of_eq (F.newCall_tuple_1 _) (wpAny_pure ⟨plainId_quiet F.plain_tuple_new _, codeAny_builtin F.entry_tuple_new ?_⟩))
  rw [Around.under_plainId F.plain_tuple_new _]
  have hsub := sub_tuple_self
  have hinit := init_tuple_lookup
  have hmh := madeHere_tuple
  have hTI : s.TypeIs (.ref r) "range" := ⟨_, hr, rfl⟩
  have hh' : A.in1.handled = none := hh
  wp_walk using wpAny_typeOf hTI, vP hh' hr hsmall hn hlen
  intro h' tk acc kp it
  show wpAny _ _ (Builtin.Tuple.tupleExact acc.toList.toArray >>= fun v => ret v) _ _ _
  unfold Builtin.Tuple.tupleExact
  refine wpAny_bind (wpAny_newObj_type ?_ (by show acc.toList.toArray.size ≤ sizeLine; simp only [Array.toArray_toList]; rw [it.1, sizeLine_eq]; exact hlen))
  refine wpAny_pure ?_
  have e : acc.toList.toArray = acc := by simp
  rw [e]
  exact h h' tk acc kp it
theorem wo {Q : Value → Shared → Prop} {r : Addr} {a b c : Int} {t u v : Tok} {n : Nat} (hh : A.handled = none) (hr : IsRange s.heap r a b c t u v) (hsmall : Builtin.Range.small a b c = true)
    (hn : Builtin.Range.rangeSize a b c = n) (hlen : n ≤ 2 ^ 24)
    (hQ : ∀ (h' : Heap) (tk : Nat) (acc : Array Value), (∀ b o, s.heap.get? b = some o → h'.get? b = some o) → ItemsOf (fun i v => ∃ t, v = .int (a + i * c) t) acc n → Q (.ref h'.objs.size) { s with heap := h'.push { cls := .type "tuple", data := .seq acc }, toks := tk }) :
    wpAny (model prog w) A (call (.type "tuple") [.ref r]) Q E s := by
  refine callType_codes (Q₁ := fun obj s₁ => s₁.TypeIs obj "tuple" ∧ Q obj s₁) F.called_tuple (F.typeCall_tuple_1 _) F.entry_object_init
    (xh (A := A.in1) hh hr hsmall hn hlen fun h' tk acc kp it => ⟨⟨_, Heap.get?_push_size _ rfl, rfl⟩, hQ h' tk acc kp it⟩) fun obj s₁ h₁ => ?_
  exact ⟨h₁.1, F.args_object_init_2 obj _, object_init_meets F.called_tuple.init.lookup F.called_tuple.made (by decide) prog w A.in1 _ s₁ ⟨h₁.1, rfl, h₁.2⟩⟩
end
theorem kr {K : PySem.W.Frag} {H : Hp} : ∀ l : List Nat, Reps K H (l.map fun (k : Nat) => .int (0 + (k : Int))) (l.map fun (k : Nat) => V.int (0 + (k : Int)))
  | [] => .nil
  | k :: l => .cons (.int _) (kr l)
theorem zaJ {P : Nat → Value → Prop} {f : Nat → V} (hp : ∀ i v, P i v → RelV (f i) v) : ∀ (l : List Value) (i : Nat), (∀ j v, l[j]? = some v → P (i + j) v) → Vals ((List.range' i l.length).map f) l
  | [], _, _ => .nil
  | v :: l, i, h => by
    have h0 := h 0 v rfl
    have h1 := zaJ hp l (i + 1) fun j w hj => by have := h (j + 1) w (by simpa using hj); rwa [show i + (j + 1) = i + 1 + j by omega] at this
    rw [List.length_cons, List.range'_succ, List.map_cons]
    exact .cons (hp i v h0) h1
section
variable {X : Cx}
theorem zd5 {a : Expr} {ga : Env' → Option (List D)} {p pos p2 pos2 : Pos} (hc : X.calm = true) (hgl : Gl X "tuple") (hml : X.mg "tuple" = none) (hbl : bootBuiltins "tuple" = some (.type "tuple")) (hgr : Gl X "range") (hmr : X.mg "range" = none) (ha : PAd X [a] ga)
    (hs : starEach [a] X.env = [(false, eval a X.env)] := by rfl)
    (hs3 : starEach [.Call (.Name "range" p2) [a] [] pos2] X.env = [(false, eval (.Call (.Name "range" p2) [a] [] pos2) X.env)] := by rfl) :
    PD X (.Call (.Name "tuple" p) [.Call (.Name "range" p2) [a] [] pos2] [] pos) (zfv (gItA wq ga)) := by
  intro pins s σ H Q I ⟨F, O, ρ, d, r, e, k⟩
  obtain ⟨ds', e1, e2⟩ := Option.bind_eq_some_iff.mp e
  obtain ⟨as, e3, e4⟩ := Option.bind_eq_some_iff.mp e1
  split at e2
  case isFalse => cases e2
  rename_i hlen
  cases e2
  unfold wq at e4
  split at e4
  case h_2 => cases e4
  rename_i j
  split at e4
  case isFalse => cases e4
  rename_i hb
  cases e4
  have hn : (zu 0 j.toNat).length = j.toNat := jR _ _
  rw [hn] at hlen
  refine wpAny_Call_Name_kw (wg I hgl hml hbl ?_)
  refine PyProof.Rows.callWith_type1 ?_ hs3 rfl
  rw [hs3]
  refine Calls.spliced_cons ?_
  refine Call_ (wg I hgr hmr boot_range (PyProof.Rows.callWith_type1 (thn (ha pos2 pins s σ H (fun vs H1 => vs = [.int j] ∧ Same H H1) I ⟨F, O, ρ, [.int j], r, e3, fun vs H' sm rb => ⟨by
    cases rb with
    | cons r1 rb =>
      cases rb
      cases r1
      rfl, sm⟩⟩) fun us s1 ⟨vs, H1, I1, r1, q1, sm⟩ => ?_) hs rfl))
  subst q1
  cases r1 with
  | cons r1 rr =>
    cases rr
    obtain ⟨t, rfl⟩ := r1
    refine call_range_1 (Calls.spliced_nil ?_)
    have I2 : Inv X pins σ H1 { s1 with heap := s1.heap.push { cls := .type "range", data := .fields #[.int 0 s1.toks, .int j t, .int 1 (s1.toks + 1)] }, toks := s1.toks + 1 + 1 } := I1.kept fun b o e => Heap.get?_push_of_some _ e
    refine wo (n := j.toNat) (I.ok.hd hc) (IsRange.new ..) (small_one (by omega) (by omega) hb.1 hb.2) (by rw [rangeSize_one]; split <;> omega) hlen fun h' tk acc kp it => ?_
    have hv : Vals ((List.range j.toNat).map fun (m : Nat) => V.int (0 + (m : Int))) acc.toList := by
      have := zaJ (P := fun (m : Nat) v => ∃ t, v = .int (0 + m * 1) t) (f := fun (m : Nat) => V.int (0 + (m : Int))) (fun m v ⟨t, e⟩ => ⟨t, by rw [e, Int.mul_one]⟩) acc.toList 0 fun m v hm => by rw [Nat.zero_add]; exact it.2 m v (by simpa using hm)
      rw [show acc.toList.length = j.toNat by rw [Array.length_toList]; exact it.1, ← List.range_eq_range'] at this
      exact this
    have I3 : Inv X pins σ H1 { s1 with heap := h', toks := tk } := I2.kept kp
    have I4 : Inv X pins σ (upd H1 h'.objs.size (.tup ((List.range j.toNat).map fun (m : Nat) => V.int (0 + (m : Int))))) { s1 with heap := h'.push { cls := .type "tuple", data := .seq acc }, toks := tk } :=
      I3.laid (fun b o e => Heap.get?_push_of_some _ e) (Nat.le_refl _) (show jb X.prog X.w _ _ _ (.tup _) from ⟨by rw [List.length_map, List.length_range]; exact hlen, acc.toList, hv, by simpa using IsTup.new h' acc⟩)
    exact ⟨.ref h'.objs.size, _, I4, rfl, k _ _ (sm.trans (zK (I3.hok.fresh (Nat.le_refl _)))) (qZ (I3.hok.fresh (Nat.le_refl _)) ((r.same sm).fresh (I3.hok.fresh (Nat.le_refl _))) (kr _))⟩
end
end L2.Y
namespace L2.Y
open PySem PySem.Spec PyProof.Rows PySem.W
def pqD (p : Int × Int) : D := .tuple [.int p.1, .int p.2]
def flP (ps : List (Int × Int)) : List Int := ps.flatMap fun p => [p.1, p.2]
theorem zbW (p : Int × Int) (ps : List (Int × Int)) : flP (p :: ps) = p.1 :: p.2 :: flP ps := rfl
theorem zaf (a b c d : Int) (r r' : List Int) : HT.lexLt (a :: b :: r) (c :: d :: r') = if a = c ∧ b = d then HT.lexLt r r' else HT.lexLt [a, b] [c, d] := by
  rw [xI, xI, xI, xI, zbk]
  by_cases h1 : a = c
  · by_cases h2 : b = d
    · rw [if_pos h1, if_pos h2, if_pos ⟨h1, h2⟩]
    · rw [if_pos h1, if_neg h2, if_neg fun h => h2 h.2, if_pos h1, if_neg h2]
  · rw [if_neg h1, if_neg fun h => h1 h.1, if_neg h1]
theorem ze8 (p q : Int × Int) : PyData.eqv (pqD p) (pqD q) = decide (p.1 = q.1 ∧ p.2 = q.2) := by
  unfold pqD
  simp only [PyData.eqv, PyData.eqvAll, Bool.and_true]
  by_cases h1 : p.1 = q.1 <;> by_cases h2 : p.2 = q.2 <;> simp [h1, h2]
theorem zb6 (p : Int × Int) : (pqD p).canLay0 = true := rfl
theorem vF : ∀ ps : List (Int × Int), PyData.canLayAll0 (ps.map pqD) = true
  | [] => rfl
  | p :: ps => by rw [List.map_cons, PyData.canLayAll0, zb6, vF ps]; rfl
theorem zb9 (p : Int × Int) : (pqD p).depth = 1 := by simp [pqD, PyData.depth, PyData.depthAll]
theorem zbT : ∀ ps : List (Int × Int), PyData.depthAll (ps.map pqD) ≤ 1
  | [] => by rw [List.map_nil, PyData.depthAll]; omega
  | p :: ps => by rw [List.map_cons, PyData.depthAll, zb9]; have := zbT ps; omega
theorem zcI : ∀ ps qs : List (Int × Int), PyData.eqvAll (ps.map pqD) (qs.map pqD) = decide (ps = qs)
  | [], [] => rfl
  | [], q :: qs => by simp [PyData.eqvAll]
  | p :: ps, [] => by simp [PyData.eqvAll]
  | (a, b) :: ps, (c, d) :: qs => by
    rw [List.map_cons, List.map_cons, PyData.eqvAll, ze8, zcI ps qs]
    by_cases h1 : a = c <;> by_cases h2 : b = d <;> by_cases h3 : ps = qs <;> simp [h1, h2, h3]
theorem zaW {h : Heap} {vs : List Value} {a b : Int} {as : List Addr} (r : ReadsAll h vs [.int a, .int b] as) : IntsAre vs [a, b] := by
  cases r with
  | cons r1 r =>
    cases r with
    | cons r2 r =>
      cases r
      cases r1
      cases r2
      exact .cons _ _ (.cons _ _ .nil)
section
variable {prog : Program} {w : World} {A : Around} {E : Value → Shared → Prop} {s : Shared}
theorem zdh (A : Around) (s : Shared) (y x : Value) (p q : Int × Int) (as bs : List Addr) (ra : Reads s.heap y (pqD p) as) (rb : Reads s.heap x (pqD q) bs) (hu : A.units < cLine) (prog : Program) (w : World) (E : Value → Shared → Prop) (Q : Value → Shared → Prop) (h : Q (.bool (HT.lexLt [p.1, p.2] [q.1, q.2])) s) :
    wpAny (model prog w) A (richCompare .Lt y x) Q E s := by
  cases ra with
  | tuple g1 c1 d1 r1 =>
    cases rb with
    | tuple g2 c2 d2 r2 =>
      exact (HT.lt_tupInts ⟨_, g1, c1, _, d1⟩ ⟨_, g2, c2, _, d2⟩ (zaW r1) (zaW r2) hu h : wpAny (model prog w) A (compareOp .Lt _ _) Q E s)
end
section
open PySem.SeqAt
open PySem.AutoSeq1 (wpAny_loadPart')
open PySem.MeetsSeq PySem.MeetsSeq2 PySem.MeetsSeq3
theorem yz (l b : Addr) (items items2 : Array Value) (n n2 : Nat) (dd dd2 : Option Addr) (sl sl2 : Array (Option Value)) (ps qs : List (Int × Int)) :
    Meets (Builtin.«tuple.__lt__» ⟨[.ref l, .ref b], []⟩)
      (fun A R s => s.heap.get? l = some { cls := .type "tuple", dict := dd, data := .seq items n, slots := sl } ∧ s.heap.get? b = some { cls := .type "tuple", dict := dd2, data := .seq items2 n2, slots := sl2 } ∧
        (∃ as, ReadsAll s.heap items.toList (ps.map pqD) as) ∧ (∃ bs, ReadsAll s.heap items2.toList (qs.map pqD) bs) ∧ A.units + 8 < cLine ∧
        R (.ok (.ret (.bool (HT.lexLt (flP ps) (flP qs))))) s) :=
  .of_wp fun prog w A R s h => by
    obtain ⟨hp, g, d, tk, os⟩ := s; obtain ⟨hl, hb, ⟨as, hi⟩, ⟨bs, hj⟩, hu, h⟩ := h
    have f2 := AutoSeq1.sub_tuple_tuple
    have z1 : items.size = ps.length := by have := SeqAt.ReadsAll.length _ _ _ hi; simpa using this
    have z2 : items2.size = qs.length := by have := SeqAt.ReadsAll.length _ _ _ hj; simpa using this
    wp_walk using wpAny_loadPart' hl, wpAny_loadPart' hb, wpAny_forIn_list _ (fun rest b s' => b.1 = none ∧ s' = ⟨hp, g, d, tk, os⟩ ∧ ∃ (vs ws : List Value) (ps' qs' : List (Int × Int)), rest = vs.zip ws ∧
      (∃ as, ReadsAll hp vs (ps'.map pqD) as) ∧ (∃ bs, ReadsAll hp ws (qs'.map pqD) bs) ∧ ps'.length + items2.size = qs'.length + items.size ∧ R (.ok (.ret (.bool (HT.lexLt (flP ps') (flP qs'))))) ⟨hp, g, d, tk, os⟩) _
    case turn =>
      rintro ⟨y, x⟩ rest b s' ⟨hb', rfl, vs, ws, ps', qs', hz, ⟨as, hvi⟩, ⟨bs, hwi⟩, hlen, hR⟩
      cases ps' with
      | nil => cases hvi; rw [List.zip_nil_left] at hz; cases hz
      | cons p ps' =>
        cases qs' with
        | nil => cases hwi; rw [List.zip_nil_right] at hz; cases hz
        | cons q qs' =>
          rw [List.map_cons] at hvi hwi
          cases hvi with
          | cons ra hvi' =>
            cases hwi with
            | cons rb hwi' =>
              rw [List.zip_cons_cons] at hz
              injection hz with hyx hrest
              injection hyx with hy hx
              subst hy hx
              rw [zbW, zbW, zaf] at hR
              simp only [List.length_cons] at hlen
              have he := SeqAt.eqAt_reads (pqD p) (pqD q) A.in1 ⟨hp, g, d, tk, os⟩ y x _ _ ra rb (zb6 p) (zb6 q) (by rw [zb9, zb9, Around.in1_units]; omega)
              rw [ze8] at he
              refine wpAny_bind (he prog w _ _ ?_)
              by_cases e : p.1 = q.1 ∧ p.2 = q.2
              · rw [decide_eq_true e]
                rw [if_pos e] at hR
                wp_walk
                exact ⟨rfl, rfl, _, _, _, _, hrest, ⟨_, hvi'⟩, ⟨_, hwi'⟩, by omega, hR⟩
              · rw [decide_eq_false e]
                rw [if_neg e] at hR
                have hri := zdh A.in1 ⟨hp, g, d, tk, os⟩ y x p q _ _ ra rb (by rw [Around.in1_units]; omega) prog w
                wp_walk using hri
                exact ⟨_, rfl, by simpa using hR⟩
    case fin =>
      rintro ⟨b1, b2⟩ s' ⟨hb', rfl, vs, ws, ps', qs', hz, ⟨as, hvi⟩, ⟨bs, hwi⟩, hlen, hR⟩
      simp only at hb'
      subst hb'
      have hv : HT.lexLt (flP ps') (flP qs') = decide (items.size < items2.size) := by
        cases ps' with
        | nil =>
          cases qs' with
          | nil =>
            simp only [List.length_nil] at hlen
            show HT.lexLt [] [] = _
            rw [zbk]
            exact (decide_eq_false (by omega)).symm
          | cons q qs' =>
            simp only [List.length_nil, List.length_cons] at hlen
            rw [zbW]
            show HT.lexLt [] (_ :: _) = _
            rw [zfU]
            exact (decide_eq_true (by omega)).symm
        | cons p ps' =>
          cases qs' with
          | nil =>
            simp only [List.length_nil, List.length_cons] at hlen
            rw [zbW]
            show HT.lexLt (_ :: _) [] = _
            rw [zdJ]
            exact (decide_eq_false (by omega)).symm
          | cons q qs' =>
            rw [List.map_cons] at hvi hwi
            cases hvi with
            | cons ra hvi' =>
              cases hwi with
              | cons rb hwi' =>
                rw [List.zip_cons_cons] at hz
                cases hz
      rw [hv] at hR
      wp_walk
      exact ⟨_, rfl, by simpa [Builtin.Tuple.tupleCompareSizes] using hR⟩
    case h =>
      exact ⟨rfl, rfl, items.toList, items2.toList, ps, qs, rfl, ⟨as, hi⟩, ⟨bs, hj⟩, by omega, h⟩
end
section
variable {prog : Program} {w : World} {A : Around} {E : Value → Shared → Prop} {s : Shared}
theorem zeS {u v : Value} {ps qs : List (Int × Int)} {as bs : List Addr} {Q : Value → Shared → Prop} (ra : Reads s.heap u (.tuple (ps.map pqD)) as) (rb : Reads s.heap v (.tuple (qs.map pqD)) bs)
    (hu : A.units + 8 < cLine) (h : Q (.bool (HT.lexLt (flP ps) (flP qs))) s) : wpAny (model prog w) A (compareOp .Lt u v) Q E s := by
  cases ra with
  | tuple g1 c1 d1 r1 =>
    cases rb with
    | tuple g2 c2 d2 r2 =>
      rename_i o1 vs1 n1 b o2 vs2 n2
      obtain ⟨cls, dd, data, sl⟩ := o1
      obtain ⟨cls2, dd2, data2, sl2⟩ := o2
      simp only at c1 d1 c2 d2
      subst c1 d1 c2 d2
      exact richCompare_meets_room (op := .Lt) ⟨_, g1, rfl⟩ ⟨_, g2, rfl⟩ PySem.F.slot_tuple_lt PySem.F.entry_tuple_lt (PySem.F.args_tuple_lt_2 _ _) (yz _ _ vs1 vs2 n1 n2 dd dd2 sl sl2 ps qs)
        ⟨g1, g2, ⟨_, r1⟩, ⟨_, r2⟩, hu, show Value.bool (HT.lexLt (flP ps) (flP qs)) ≠ Value.notImplemented ∧ Q (.bool (HT.lexLt (flP ps) (flP qs))) s from ⟨(fun x => nomatch x), h⟩⟩ (by omega)
def TupK (m : Nat) (h : Heap) (v : Value) (k : List Int) : Prop := ∃ ps z as, k = flP ps ++ [z] ∧ ps.length = m ∧ Reads h v (.tuple [.tuple (ps.map pqD), .int z]) as
theorem zbK : ∀ (ps qs : List (Int × Int)) (r r' : List Int), ps.length = qs.length → HT.lexLt (flP ps ++ r) (flP qs ++ r') = if ps = qs then HT.lexLt r r' else HT.lexLt (flP ps) (flP qs)
  | [], [], _, _, _ => rfl
  | [], _ :: _, _, _, h => by simp at h
  | _ :: _, [], _, _, h => by simp at h
  | (a, b) :: ps, (c, d) :: qs, r, r', h => by
    have ih := zbK ps qs r r' (by simpa using h)
    show HT.lexLt (a :: b :: (flP ps ++ r)) (c :: d :: (flP qs ++ r')) = if (a, b) :: ps = (c, d) :: qs then HT.lexLt r r' else HT.lexLt (a :: b :: flP ps) (c :: d :: flP qs)
    rw [zaf a b c d (flP ps ++ r) (flP qs ++ r'), zaf a b c d (flP ps) (flP qs), ih]
    by_cases e : a = c ∧ b = d
    · obtain ⟨h1, h2⟩ := e
      subst h1 h2
      by_cases e2 : ps = qs
      · simp [e2]
      · simp [e2]
    · rw [if_neg e, if_neg e, if_neg fun z => e (by have := (List.cons.inj z).1; injection this with h1 h2; exact ⟨h1, h2⟩)]
theorem TupK.lt {m : Nat} {u v : Value} {k j : List Int} {Q : Bool → Shared → Prop} (h1 : TupK m s.heap u k) (h2 : TupK m s.heap v j) (hu : A.units + 20 < cLine) (h : Q (HT.lexLt k j) s) : wpAny (model prog w) A (keyLt' (tuples' false) u v) Q E s := by
  obtain ⟨ps, z, as, rfl, l1, r1⟩ := h1
  obtain ⟨qs, y, bs, rfl, l2, r2⟩ := h2
  rw [zbK ps qs [z] [y] (by omega)] at h
  cases r1 with
  | tuple g1 c1 d1 r1 =>
    cases r2 with
    | tuple g2 c2 d2 r2 =>
      rename_i o1 xs n1 b o2 ys n2
      refine kat_lt g1 d1 g2 d2 ?_
      have sx : xs.size = 2 := by have := SeqAt.ReadsAll.length _ _ _ r1; simpa using this
      have sy : ys.size = 2 := by have := SeqAt.ReadsAll.length _ _ _ r2; simpa using this
      rw [show decide (xs.size < ys.size) = false from decide_eq_false (by omega)]
      clear d1 d2 sx sy
      generalize xs.toList = XS at r1
      generalize ys.toList = YS at r2
      cases r1 with
      | cons p1 r1 =>
        cases r1 with
        | cons i1 r1 =>
          cases r1
          cases i1
          cases r2 with
          | cons p2 r2 =>
            cases r2 with
            | cons i2 r2 =>
              cases r2
              cases i2
              rw [List.zip_cons_cons]
              have he := SeqAt.eqAt_reads _ _ A s _ _ _ _ p1 p2 (by rw [PyData.canLay0]; exact vF ps) (by rw [PyData.canLay0]; exact vF qs) (by
                rw [PyData.depth, PyData.depth]
                have := zbT ps
                omega)
              have ev : PyData.eqv (.tuple (ps.map pqD)) (.tuple (qs.map pqD)) = decide (ps = qs) := by rw [PyData.eqv, zcI]
              rw [ev] at he
              refine kat_cons (he prog w _ _ ?_)
              by_cases e : ps = qs
              · rw [decide_eq_true e]
                rw [if_pos e] at h
                refine kat_yes ?_
                rw [List.zip_cons_cons]
                refine kat_cons (wpAny_eqBool_int (kat_go (fun e => kat_yes ?_) fun e => kat_no ?_))
                · rw [xI, if_pos (eq_of_beq e), zbk] at h
                  exact kat_nil h
                · have ne : ¬ z = y := fun q => by subst q; simp at e
                  rw [xI, if_neg ne] at h
                  exact kat_one _ _ (lt_int h)
              · rw [decide_eq_false e]
                rw [if_neg e] at h
                exact kat_no (kat_one _ _ (zeS p1 p2 (by omega) h))
end
end L2.Y
namespace L2.Y
open PySem PySem.Spec PyProof.Rows PySem.W
section
variable {h h' : Heap}
theorem zcN (P : Addr → Prop) (k : ∀ b o, h.get? b = some o → o.cls = .type "tuple" → h'.get? b = some o) {v : Value} {p : Int × Int} {as : List Addr} (r : Reads h v (pqD p) as) : Reads h' v (pqD p) as := by
  unfold pqD at r ⊢
  cases r with
  | tuple g c d ra =>
    refine .tuple (k _ _ g c) c d ?_
    generalize (_ : Array Value).toList = vs at ra
    cases ra with
    | cons r1 ra =>
      cases ra with
      | cons r2 ra =>
        cases ra
        cases r1
        cases r2
        exact .cons (.int _ _) (.cons (.int _ _) .nil)
theorem yS (k : ∀ b o, h.get? b = some o → o.cls = .type "tuple" → h'.get? b = some o) : ∀ {ps : List (Int × Int)} {vs : List Value} {as : List Addr}, ReadsAll h vs (ps.map pqD) as → ReadsAll h' vs (ps.map pqD) as
  | [], _, _, r => by cases r; exact .nil
  | p :: ps, _, _, r => by
    rw [List.map_cons] at r ⊢
    cases r with
    | cons r1 r => exact .cons (zcN (fun _ => True) k r1) (yS k r)
theorem TupK.grow' {m : Nat} {v : Value} {x : List Int} (k : ∀ b o, h.get? b = some o → o.cls = .type "tuple" → h'.get? b = some o) (r : TupK m h v x) : TupK m h' v x := by
  obtain ⟨ps, z, as, e, l, r⟩ := r
  refine ⟨ps, z, as, e, l, ?_⟩
  cases r with
  | tuple g c d ra =>
    refine .tuple (k _ _ g c) c d ?_
    generalize (_ : Array Value).toList = vs at ra
    cases ra with
    | cons r1 ra =>
      cases ra with
      | cons r2 ra =>
        cases ra
        cases r2
        cases r1 with
        | tuple g c d ra => exact .cons (.tuple (k _ _ g c) c d (yS k ra)) (.cons (.int _ _) .nil)
theorem TupK.grow {m : Nat} {v : Value} {x : List Int} (r : TupK m h v x) (k : ∀ b o, h.get? b = some o → h'.get? b = some o) : TupK m h' v x := r.grow' fun b o g _ => k b o g
theorem TupK.keeps {m : Nat} {v : Value} {x : List Int} {a : Addr} {ol : Obj} (r : TupK m h v x) (ha : h.get? a = some ol) (hc : ol.cls = .type "list") (k : ∀ b o, b ≠ a → h.get? b = some o → h'.get? b = some o) : TupK m h' v x := r.grow' fun b o g c => k b o (fun e => by
  subst e
  rw [ha] at g
  cases g
  rw [hc] at c
  exact absurd c (by decide)) g
theorem zdI {M : Model} {a : Addr} {o : Obj} (g : h.get? a = some o) (c : o.cls = .type "tuple") : Looks M h (typeOf (.ref a)) (.type "tuple") := by
  rw [← c]
  exact (Looks.ld g).andThen .now
theorem za4 {M : Model} {m : Nat} : ∀ {vs : List Value} {ks : List (List Int)}, vs.length = ks.length → (∀ (i : Nat) v k, vs[i]? = some v → ks[i]? = some k → TupK m h v k) → ∃ fs, KatTups h vs fs ∧ fs.length = vs.length ∧ ∀ f ∈ fs, Looks M h (typeOf f) (.type "tuple")
  | [], [], _, _ => ⟨[], trivial, rfl, fun _ h => by simp at h⟩
  | [], _ :: _, hl, _ => by simp at hl
  | _ :: _, [], hl, _ => by simp at hl
  | v :: vs, k :: ks, hl, hk => by
    obtain ⟨fs, t, l, q⟩ := za4 (M := M) (vs := vs) (ks := ks) (by simpa using hl) (fun i u c h1 h2 => hk (i + 1) u c (by simpa using h1) (by simpa using h2))
    obtain ⟨ps, z, as, _, _, r⟩ := hk 0 v k rfl rfl
    cases r with
    | tuple g c d ra =>
      rename_i o xs n
      have hx : ∃ b o', xs[0]? = some (.ref b) ∧ h.get? b = some o' ∧ o'.cls = .type "tuple" := by
        rw [← Array.getElem?_toList]
        generalize xs.toList = zs at ra
        cases ra with
        | cons r1 ra =>
          cases r1 with
          | tuple g1 c1 d1 _ => exact ⟨_, _, rfl, g1, c1⟩
      obtain ⟨b, o', hz, g', c'⟩ := hx
      exact ⟨.ref b :: fs, .cons g c d hz t, by simp [l], fun f hf => by
        rcases List.mem_cons.mp hf with e | e
        · rw [e]; exact zdI g' c'
        · exact q f e⟩
end
section
variable {prog : Program} {w : World} {A : Around} {E : Value → Shared → Prop} {s : Shared}
theorem yu {a : Addr} {vs : List Value} {ks : List (List Int)} {n m : Nat} {P : PySem.Fin → Shared → Prop} (ho : s.heap.get? a = some (seqObj "list" vs.toArray n)) (hl : vs.length = ks.length) (hk : ∀ (i : Nat) v k, vs[i]? = some v → ks[i]? = some k → TupK m s.heap v k) (ha : ∀ v ∈ vs, v ≠ .ref a) (h64 : vs.length < 64) (hu : A.units + 20 < cLine)
    (h : ∀ p : List Nat, p.Perm (List.range vs.length) → (p.map (zZ ks)).Pairwise LeL → P (.done (.ret .none)) { s with heap := sortedHeap s.heap a vs (p.map fun i => vs.getD i Value.none).toArray }) :
    wpAny (model prog w) A (Builtin.«list.sort» ⟨[.ref a], []⟩) P E s := by
  have lta : a < s.heap.objs.size := Heap.lt_size ho
  have fit : vs.toArray.size ≤ sizeLine := by rw [List.size_toArray, sizeLine_eq]; omega
  rw [list_sort_plain]
  refine wpAny_bind (listItems_at ho rfl (wpAny_bind (listUpdate_at ho rfl ?_ fit (Nat.zero_le _))))
  obtain ⟨e1, ho1⟩ : ∃ e1, (s.heap.update a (Obj.mapSeq fun _ => (#[] : Array Value))).get? a = some (seqObj "list" #[] e1) := ⟨_, get?_update_seq ho (fun _ => #[])⟩
  refine wpAny_bind (seqEpoch_at ho1 rfl (wpAny_bind (wpAny_newTuple ?_ fit)))
  refine wpAny_bind (wpAny_newList ?_ (Nat.zero_le _))
  refine wpAny_holding ?_
  have keep : ∀ b o, b ≠ a → s.heap.get? b = some o → (((s.heap.update a (Obj.mapSeq fun _ => (#[] : Array Value))).push (seqObj "tuple" vs.toArray 0)).push (seqObj "list" #[] 0)).get? b = some o := fun b o hb e =>
    Heap.get?_push_of_some _ (Heap.get?_push_of_some _ (by rw [Heap.get?_update_ne _ _ _ _ hb]; exact e))
  have ho6 : (((s.heap.update a (Obj.mapSeq fun _ => (#[] : Array Value))).push (seqObj "tuple" vs.toArray 0)).push (seqObj "list" #[] 0)).get? a = some (seqObj "list" #[] e1) := Heap.get?_push_of_some _ (Heap.get?_push_of_some _ ho1)
  show wpAny (model prog w) A _ P E { s with heap := ((s.heap.update a (Obj.mapSeq fun _ => (#[] : Array Value))).push (seqObj "tuple" vs.toArray 0)).push (seqObj "list" #[] 0) }
  generalize hg : ({ s with heap := ((s.heap.update a (Obj.mapSeq fun _ => (#[] : Array Value))).push (seqObj "tuple" vs.toArray 0)).push (seqObj "list" #[] 0) } : Shared) = s6
  have eh : s6.heap = ((s.heap.update a (Obj.mapSeq fun _ => (#[] : Array Value))).push (seqObj "tuple" vs.toArray 0)).push (seqObj "list" #[] 0) := by rw [← hg]
  have fin : ∀ out : Array Value, ({ s6 with heap := s6.heap.update a (Obj.mapSeq fun _ => out) } : Shared) = { s with heap := sortedHeap s.heap a vs out } := fun out => by rw [← hg]; rfl
  rw [← eh] at ho6 keep
  dsimp only
  by_cases h2 : vs.toArray.size < 2
  · rw [if_pos h2, if_pos h2]
    refine wpAny_bind (wpAny_pure ?_)
    rw [StateT.run_pure]
    refine wpAny_bind (wpAny_pure ?_)
    dsimp only
    have e0 : (arrOf (SortSt.mk' general' (vs.toArray.zip vs.toArray) #[] 7 none)).map (·.2) = ((List.range vs.length).map fun i => vs.getD i Value.none).toArray := by
      rw [range_getD]
      show (vs.toArray.zip vs.toArray).map (·.2) = vs.toArray
      apply Array.toList_inj.mp
      rw [Array.toList_map, Array.toList_zip]
      exact List.map_snd_zip (Nat.le_refl _)
    rw [e0]
    refine wpAny_bind (seqEpoch_at ho6 rfl (wpAny_bind (listUpdate_at ho6 rfl ?_ (Nat.zero_le _) (by simp; rw [sizeLine_eq]; omega))))
    simp only [bne_self_eq_false, Bool.false_eq_true, if_false]
    rw [fin]
    refine wpAny_pure (h (List.range vs.length) (.refl _) ?_)
    rw [List.size_toArray] at h2
    match vs.length, h2 with
    | 0, _ => exact .nil
    | 1, _ => exact List.pairwise_singleton _ _
  · rw [if_neg h2, if_neg h2]
    have h2' : 2 ≤ vs.length := by rw [List.size_toArray] at h2; omega
    have hk6 : ∀ (i : Nat) v k, vs[i]? = some v → ks[i]? = some k → TupK m s6.heap v k := fun i v k g1 g2 => (hk i v k g1 g2).keeps ho rfl keep
    obtain ⟨fs, tf, lf, qf⟩ := za4 hl hk6
    refine wpAny_bind (kat_kind tf (by omega) (T := .type "tuple") (fun v hv => qf v hv) rfl ?_)
    obtain ⟨q, eq, pq, sq⟩ := zc5 (O := wd) (key := zZ ks) (n := vs.length) (by omega)
    have runs := kat_run (prog := prog) (w := w) (A := A) (E := E) (s := s6) (κ := tuples' ((Value.type "tuple") != Value.type "tuple")) (ks := vs) (vs := vs)
      (Q := fun st' s' => s' = s6 ∧ failedOf st' = none ∧ arrOf st' = q.map (kas_item (vs.toArray.zip vs.toArray))) (G := fun p s' => s' = s6 ∧ p = q) rfl h2' h64 (fun p st' s' a1 a2 a3 a4 => by obtain ⟨rfl, rfl⟩ := a4; exact ⟨rfl, a3, a2⟩)
      (vS (n := vs.length) (lt := kLt (O := wd) (zZ ks)) (fun i j C hi hj hc => by
        have gi : vs[i]? = some (vs.getD i Value.none) := by simp [hi]
        have gj : vs[j]? = some (vs.getD j Value.none) := by simp [hj]
        have ki : ks[i]? = some (zZ ks i) := by unfold zZ; simp [hl ▸ hi]
        have kj : ks[j]? = some (zZ ks j) := by unfold zZ; simp [hl ▸ hj]
        exact TupK.lt (hk6 i _ _ gi ki) (hk6 j _ _ gj kj) hu hc) _ _ (zcK (by omega)) ⟨rfl, eq⟩)
    refine wpAny_bind (wpAny_mono runs ?_ fun _ _ e => e)
    rintro ⟨⟨⟩, st'⟩ s' ⟨rfl, hf, har⟩
    dsimp only
    have hout := kat_snds rfl har
    have hqs : q.size = vs.length := by have := pq.length_eq; simpa using this
    rw [hout]
    refine wpAny_bind (seqEpoch_at ho6 rfl (wpAny_bind (listUpdate_at ho6 rfl ?_ (Nat.zero_le _) (by simp [hqs]; rw [sizeLine_eq]; omega))))
    rw [hf]
    simp only [bne_self_eq_false, Bool.false_eq_true, if_false]
    rw [fin]
    refine wpAny_pure (h q.toList pq ?_)
    rw [List.pairwise_map, List.pairwise_iff_getElem]
    intro i j hi hj hij
    have := sq i j (by omega) (by rw [← hqs]; simpa using hj)
    unfold kk at this
    rw [Array.getD_eq_getD_getElem?, Array.getD_eq_getD_getElem?, Array.getElem?_eq_getElem (by simpa using hi), Array.getElem?_eq_getElem (by simpa using hj)] at this
    have this' : wd.kle (zZ ks q[i]) (zZ ks q[j]) := by simpa using this
    simpa using (show LeL (zZ ks q[i]) (zZ ks q[j]) from this')
theorem kt {l : Addr} {T : String} {o : Obj} {vs : List Value} {ks : List (List Int)} {n m : Nat} {Q : Value → Shared → Prop} (hT : T = "list" ∨ T = "tuple") (ho : s.heap.get? l = some o) (hc : o.cls = .type T) (hd : o.data = .seq vs.toArray n)
    (hl : vs.length = ks.length) (hk : ∀ (i : Nat) v k, vs[i]? = some v → ks[i]? = some k → TupK m s.heap v k) (h64 : vs.length < 64) (hu : A.units + 40 < cLine)
    (h : ∀ p : List Nat, p.Perm (List.range vs.length) → (p.map (zZ ks)).Pairwise LeL → Q (.ref (s.heap.objs.size + 1)) { s with heap := sortedAll s.heap vs (p.map fun i => vs.getD i Value.none).toArray }) :
    wpAny (model prog w) A (call (.builtin "sorted") [.ref l]) Q E s := by
  have fit : vs.length ≤ sizeLine := by rw [sizeLine_eq]; omega
  refine Calls.call_function_entry kind_sorted plain_sorted entry_sorted (args_sorted1 _) ?_
  unfold Builtin.«sorted»
  refine wpAny_bind (m := checkCount "sorted" 1 1 _) (wpAny_pure (wpAny_bind (yg hT ho hc hd fit (wpAny_bind (wpAny_newList ?_ (by simpa using fit))))))
  have hsz : ((s.heap.push (seqObj "list" #[] 0)).update s.heap.objs.size (Obj.mapSeq (· ++ vs.toArray))).objs.size = s.heap.objs.size + 1 := by rw [Heap.size_update, size_push']
  have hoL : (((s.heap.push (seqObj "list" #[] 0)).update s.heap.objs.size (Obj.mapSeq (· ++ vs.toArray))).push (seqObj "list" vs.toArray 0)).get? (s.heap.objs.size + 1) = some (seqObj "list" vs.toArray 0) := by
    rw [← hsz]; exact Heap.get?_push_size _ rfl
  have keep : ∀ b u, s.heap.get? b = some u → (((s.heap.push (seqObj "list" #[] 0)).update s.heap.objs.size (Obj.mapSeq (· ++ vs.toArray))).push (seqObj "list" vs.toArray 0)).get? b = some u := fun b u e =>
    Heap.get?_push_of_some _ (by rw [Heap.get?_update_ne _ _ _ _ (Nat.ne_of_lt (Heap.lt_size e))]; exact Heap.get?_push_of_some _ e)
  have ltv : ∀ v ∈ vs, v ≠ .ref (s.heap.objs.size + 1) := fun v hv z => by
    obtain ⟨i, hi, e⟩ := List.getElem_of_mem hv
    obtain ⟨ps, y, as, _, _, r⟩ := hk i v (ks[i]'(by omega)) (by rw [← e]; simp [hi]) (by simp [← hl, hi])
    rw [z] at r
    cases r with
    | tuple g _ _ _ => exact absurd (Nat.lt_of_succ_lt (Heap.lt_size g)) (Nat.lt_irrefl _)
  show wpAny _ _ _ _ _ { s with heap := ((s.heap.push (seqObj "list" #[] 0)).update s.heap.objs.size (Obj.mapSeq (· ++ vs.toArray))).push (seqObj "list" vs.toArray 0) }
  rw [hsz]
  refine wpAny_bind (wpAny_holding (wpAny_call_entry slot_list_sort ⟨_, hoL, rfl⟩ entry_list_sort (yu (ks := ks) (m := m) hoL hl (fun i v k g1 g2 => ?_) ltv h64 ?_ fun p a1 a2 => ⟨_, rfl, wpAny_pure ⟨_, rfl, h p a1 a2⟩⟩) (args_list_sort _)))
  · exact (hk i v k g1 g2).grow keep
  · show _ + 20 < cLine
    simp only [Around.in1_units]
    omega
end
section
theorem zcX : ∀ {ds : List D} {ks : List (List Int)}, ds.mapM zdL = some ks → ∃ ps : List (Int × Int), ds = ps.map pqD ∧ ks = ps.map fun p => [p.1, p.2]
  | [], _, h => by cases h; exact ⟨[], rfl, rfl⟩
  | d :: ds, _, h => by
    rw [List.mapM_cons] at h
    obtain ⟨k, h1, h⟩ := Option.bind_eq_some_iff.mp h
    obtain ⟨r, h2, h⟩ := Option.bind_eq_some_iff.mp h
    cases h
    obtain ⟨ps, rfl, rfl⟩ := zcX h2
    unfold zdL at h1
    split at h1
    · rename_i a b
      cases h1
      exact ⟨(a, b) :: ps, rfl, rfl⟩
    · cases h1
theorem ze6 : ∀ ps : List (Int × Int), prsD (flP ps) = ps.map pqD
  | [] => rfl
  | p :: ps => by rw [zbW, List.map_cons, ← ze6 ps]; rfl
theorem zgF (ps : List (Int × Int)) (z : Int) : jO (flP ps ++ [z]) = .tuple [.tuple (ps.map pqD), .int z] := by
  unfold jO
  rw [List.dropLast_concat, ze6, List.getLast?_concat]
  rfl
theorem zbu {m : Nat} {d : D} {k : List Int} (h : vz m d = some k) : ∃ ps z, k = flP ps ++ [z] ∧ ps.length = m ∧ jO k = .tuple [.tuple (ps.map pqD), .int z] ∧ d = jO k := by
  unfold vz at h
  split at h
  · rename_i ps w
    split at h
    · rename_i hl
      obtain ⟨ks, e, rfl⟩ := Option.map_eq_some_iff.mp h
      obtain ⟨qs, rfl, rfl⟩ := zcX e
      have ek : (qs.map fun p => [p.1, p.2]).flatten ++ [w] = flP qs ++ [w] := by unfold flP; rw [List.flatMap_def]
      rw [ek]
      exact ⟨qs, w, rfl, by simpa using hl, zgF qs w, (zgF qs w).symm⟩
    · cases h
  · cases h
theorem kf {m : Nat} : ∀ {ds : List D} {ks : List (List Int)}, ds.mapM (vz m) = some ks → ds = ks.map jO ∧ ∀ k ∈ ks, ∃ ps z, k = flP ps ++ [z] ∧ ps.length = m ∧ jO k = .tuple [.tuple (ps.map pqD), .int z]
  | [], _, h => by cases h; exact ⟨rfl, fun _ h => by simp at h⟩
  | d :: ds, _, h => by
    rw [List.mapM_cons] at h
    obtain ⟨k, h1, h⟩ := Option.bind_eq_some_iff.mp h
    obtain ⟨r, h2, h⟩ := Option.bind_eq_some_iff.mp h
    cases h
    obtain ⟨ps, z, e1, e2, e3, e4⟩ := zbu h1
    obtain ⟨a1, a2⟩ := kf h2
    exact ⟨by rw [List.map_cons, ← e4, ← a1], fun k' hk => by
      rcases List.mem_cons.mp hk with e | e
      · subst e; exact ⟨ps, z, e1, e2, e3⟩
      · exact a2 k' e⟩
theorem zgA (ps : List (Int × Int)) (z : Int) : (PyData.tuple [.tuple (ps.map pqD), .int z]).canLay0 = true := by
  rw [PyData.canLay0, PyData.canLayAll0, PyData.canLay0, vF]
  rfl
end
section
variable {X : Cx}
theorem yE (hu : X.A.units + 66 < cLine) {p pos : Pos} {e : Expr} {g : Env' → Option (List D)} (hg : Gl X "sorted") (hm : X.mg "sorted" = none) (ha : PAb X [e] g) (he : starEach [e] X.env = [(false, eval e X.env)] := by rfl) :
    PFr X (.Call (.Name "sorted" p) [e] [] pos) (gItL xB g) := by
  have hc : xg X (.builtin "sorted") (fun xs H Q => ∃ O a ds ks ys m, xs = [.ref a] ∧ Dom O H ∧ (SqL X.K H a ys ∨ SqT X.K H a ys) ∧ Reps X.K (hide O H) ds ys ∧ ds.mapM (vz m) = some ks ∧ ks.length < 64 ∧
      ∀ l zs, H l = none → Reps X.K (hide O H) ((qx ks).map jO) zs → Q (.ref l) (upd H l (.lst zs))) := by
    intro pins s σ H xs us Q I rv ⟨O, a, ds, ks, ys, m, e, hO, sq, rs, em, h64, k⟩
    subst e
    obtain ⟨u, rfl, ru⟩ := vals1 rv
    obtain rfl : u = Value.ref a := ru
    obtain ⟨eds, kne⟩ := kf em
    have hseq : ∃ T o its n, (T = "list" ∨ T = "tuple") ∧ s.heap.get? a = some o ∧ o.cls = .type T ∧ o.data = .seq its.toArray n ∧ Vals ys its := by
      rcases sq with sq | sq
      · obtain ⟨its, r, ⟨o, n, e, c, _, dd⟩, _⟩ := I.list sq
        exact ⟨"list", o, its, n, .inl rfl, e, c, dd, r⟩
      · obtain ⟨its, r, ⟨o, e, c, n, dd⟩, _⟩ := I.tuple sq
        exact ⟨"tuple", o, its, n, .inr rfl, e, c, dd, r⟩
    obtain ⟨T, o, its, n, hT, ho, hcl, hd, rv⟩ := hseq
    have l1 : ds.length = ys.length := rs.length
    have l2 : ys.length = its.length := rv.length
    have l3 : ds.length = ks.length := by rw [eds]; simp
    have hfree : H (s.heap.objs.size + 1) = none := I.hok.fresh (Nat.le_succ _)
    refine kt (m := m) hT ho hcl hd (ks := ks) (by omega) (fun i v c g1 g2 => ?_) (by omega) (by omega) fun q pq sq => ?_
    · obtain ⟨y, gy, ry⟩ := kn rv g1
      obtain ⟨d, gd, rd⟩ := rs.getV gy
      have gd' := gd
      rw [eds, List.getElem?_map, g2] at gd'
      cases gd'
      obtain ⟨ps, z, e1, e2, e3⟩ := kne c (List.mem_of_getElem? g2)
      obtain ⟨as, ra⟩ := (rd.same jk).reads I ry (by rw [e3]; exact zgA ps z)
      rw [e3] at ra
      exact ⟨ps, z, as, e1, e2, ra⟩
    · have inq : ∀ i ∈ q, i < ys.length := fun i hi => by have := List.mem_range.mp (pq.mem_iff.mp hi); omega
      obtain ⟨e2, he2⟩ := sortedAll_at s.heap its (q.map fun i => its.getD i Value.none).toArray
      have ek : q.map (zZ ks) = qx ks := zaN (by
        have := zbb pq (zZ ks)
        rw [show its.length = ks.length by omega] at this
        unfold zZ at this ⊢
        rw [range_getD] at this
        exact this) sq
      have hR : Reps X.K (hide O H) ((qx ks).map jO) (q.map fun i => ys.getD i .non) := by
        have := yf rs q (fun i hi => by have := inq i hi; omega)
        rw [← ek, List.map_map]
        have ee : q.map (fun i => ds.getD i .none) = q.map (jO ∘ zZ ks) := by
          apply List.map_congr_left
          intro i hi
          have hi' : i < ks.length := by have := inq i hi; omega
          unfold zZ
          simp [eds, hi']
        rw [← ee]; exact this
      refine ⟨.ref (s.heap.objs.size + 1), upd H (s.heap.objs.size + 1) (.lst (q.map fun i => ys.getD i .non)), ?_, rfl, k _ _ hfree hR⟩
      refine I.laid (t' := s.toks) (fun b u e => sortedAll_old e) (Nat.le_succ _) ⟨by rw [List.length_map, pq.length_eq, List.length_range, sizeLine_eq]; omega, q.map fun i => its.getD i Value.none, e2, yb rv q inq, he2⟩
  exact PE.imp (wr hc hg hm boot_sorted ha (by decide) (by decide) he (by rfl)) fun σ H Q ⟨F, O, ρ, ds, r, e, k⟩ => by
    obtain ⟨as, e1, e2⟩ := Option.bind_eq_some_iff.mp e
    refine ⟨F, O, ρ, as, r, e1, fun vs H1 s1 b1 => ?_⟩
    have go : ∀ {m : Nat} {es : List D}, zeu m es = some ds → ∃ ks, es.mapM (vz m) = some ks ∧ ks.length < 64 ∧ ds = (qx ks).map jO := fun {m es} h => by
      obtain ⟨ks, a1, a2⟩ := Option.bind_eq_some_iff.mp h
      split at a2
      · cases a2; exact ⟨ks, a1, by assumption, rfl⟩
      · cases a2
    unfold xB at e2
    split at e2
    · cases e2
      obtain ⟨v, rfl, b⟩ := b1.inv1
      obtain ⟨a, ys, rfl, sq, rs⟩ := b.lst
      exact ⟨O, a, _, [], ys, 0, rfl, (r.same s1).dom, .inl sq, rs, rfl, by decide, fun l zs hl rz => k l zs H1 s1 hl rz⟩
    · obtain ⟨ks, a1, a2, rfl⟩ := go e2
      obtain ⟨v, rfl, b⟩ := b1.inv1
      obtain ⟨a, ys, rfl, sq, rs⟩ := b.lst
      exact ⟨O, a, _, ks, ys, _, rfl, (r.same s1).dom, .inl sq, rs, a1, a2, fun l zs hl rz => k l zs H1 s1 hl rz⟩
    · cases e2
end
end L2.Y
namespace L2.Y
open PySem PySem.Spec PyProof.Rows
theorem pgn {X : Cx} {i : Nat} {x : Str} {pos : Pos} (nd : X.N.Nodup) (hi : X.N[i]? = some x := by rfl) (hx : Loc X.env.scope x := by first | exact Or.inl rfl | exact Or.inr rfl) (hf : X.fn x = true ∨ X.env.scope.names.lookup x = some .local := by first | exact .inl rfl | exact .inr rfl | assumption) : PG X (.Name x pos) (kR i) := zX nd hi hx hf
end L2.Y
set_option maxHeartbeats 4000000
noncomputable section
namespace L2.Y
open PySem
def yZ : GS :=
    (sRet (gA xj (zc (gLs (qG 1 [0, 1, 2] (gIt seqD (gVar 0)) (hName 0) xQ (gIf (gBo (g2 eqD (gVar 0) (g2 ixD (gVar 1) (gVar 3)))) (g2 ixD (gVar 1) (gVar 2)) (gVar 0)))) gNil)))
def F_joined : List D → Option D := qk 3 yZ
def qp : GS :=
    (sIf (gBo (g2 neD (g2 ixD (gVar 8) (gVar 2)) (g2 ixD (gVar 8) (gVar 3))))
    (sApp 5 (gA tupD (zc (g2 addD (gVar 6) (gA tupD (zc (gA tupD (zc (gVar 2) (zc (gVar 3) gNil))) gNil))) (zc (g2 qi (gVar 7) (gVar 4)) (zc (gA (zS 3 F_joined) (zc (gVar 8) (zc (gVar 2) (zc (gVar 3) gNil)))) gNil)))))
    sNil)
def zaa : GS :=
    (sSeq (sAsg (hTup 3 (zy (hName 2) (zy (hName 3) (zy (hName 4) hNil)))) (gVar 1))
    (sSeq (sOwn 5 (gLst gNil))
    (sSeq (sFor (gIt seqD (gVar 0)) (hTup 3 (zy (hName 6) (zy (hName 7) (zy (hName 8) hNil))))
    qp)
    (sRet (g2 addD (gVar 0) (qj 5))))))
def F_grown : List D → Option D := qk 9 zaa
def qN : GS :=
    (sAsg (hName 3) (gA (zS 2 F_grown) (zc (gVar 3) (zc (gVar 4) gNil))))
def zap : GS :=
    (sSeq (sAsg (hTup 2 (zy (hName 1) (zy (hName 2) hNil))) (gVar 0))
    (sSeq (sAsg (hName 3) (gLs (gLst (zc (gA tupD (zc (gA tupD gNil) (zc (gK (.int 1)) (zc (zfv (gItA wq (zc (g2 addD (gVar 1) (gK (.int 1))) gNil))) gNil)))) gNil))))
    (sSeq (sFor (gIt seqD (gVar 2)) (hName 4)
    qN)
    (sRet (gA xj (zc (gLs (gItL xB (zc (gLs (qG 3 [1] (gIt seqD (gVar 3)) (hTup 3 (zy (hName 0) (zy (hName 1) (zy (hName 2) hNil)))) (gBo (g2 eqD (gA lenD (zc (gVar 0) gNil)) (gVar 3))) (gA tupD (zc (gVar 0) (zc (gVar 1) gNil))))) gNil))) gNil))))))
def F_trees : List D → Option D := qk 5 zap
def xS : GS :=
    (sRet (gA sumD (zc (gLs (qG 2 [] (gIt seqD (gA (zS 1 F_trees) (zc (gVar 0) gNil))) (hTup 2 (zy (hName 0) (zy (hName 1) hNil))) xQ (gVar 1))) gNil)))
def F_count_of : List D → Option D := qk 1 xS
def qy : GS :=
    (sSeq (sIf (gBo (g2 ltD (gVar 1) (gA lenS (zc (gVar 0) gNil))))
    (sRet (g2 ixS (gVar 0) (gVar 1)))
    sNil)
    (sRet (gK (.int 0))))
def F_law_cell_at : List D → Option D := qk 2 qy
def yq : GS :=
    (sSeq (sAsg (hName 2) (g2 modD (g2 qi (g2 addD (g2 addD (gA (zS 2 F_law_cell_at) (zc (gVar 0) (zc (gVar 1) gNil))) (g2 qi (gK (.int 7919)) (gVar 1))) (gK (.int 1))) (gK (.int 48271))) (gK (.int 2147483647))))
    (sRet (g2 modD (g2 addD (g2 addD (g2 qi (gVar 2) (gVar 2)) (g2 qi (gK (.int 7)) (gVar 2))) (gVar 1)) (gK (.int 2147483629)))))
def F_law_mixed : List D → Option D := qk 3 yq
def wZ : GS :=
    (sSeq (sAsg (hName 2) (g2 modD (g2 qi (g2 addD (g2 addD (gVar 0) (g2 qi (gK (.int 104729)) (gVar 1))) (gK (.int 17))) (gK (.int 69621))) (gK (.int 2147483647))))
    (sRet (g2 modD (g2 addD (g2 addD (g2 qi (gVar 2) (gVar 2)) (g2 qi (gK (.int 3)) (gVar 2))) (gVar 1)) (gK (.int 2147483629)))))
def F_law_drawn : List D → Option D := qk 3 wZ
def qK : GS :=
    (kU 4 (gA tupD (zc (g2 modD (gA (zS 2 F_law_drawn) (zc (gVar 0) (zc (gVar 5) gNil))) (gVar 5)) (zc (gVar 5) gNil))) (g2 addD (gK (.int 1)) (g2 modD (gA (zS 2 F_law_drawn) (zc (gVar 0) (zc (g2 addD (gK (.int 10)) (gVar 5)) gNil))) (gVar 2))))
def zY : GS :=
    (sSeq (sAsg (hName 7) (g2 modD (gA (zS 2 F_law_drawn) (zc (gVar 0) (zc (g2 addD (gK (.int 20)) (gVar 6)) gNil))) (g2 addD (gVar 3) (gK (.int 1)))))
    (sSeq (sAsg (hName 8) (g2 modD (gA (zS 2 F_law_drawn) (zc (gVar 0) (zc (g2 addD (gK (.int 30)) (gVar 6)) gNil))) (g2 addD (gVar 3) (gK (.int 1)))))
    (sIf (gBo (g2 ltD (gVar 7) (gVar 8)))
    (kU 4 (gA tupD (zc (gVar 7) (zc (gVar 8) gNil))) (g2 addD (gK (.int 1)) (g2 modD (gA (zS 2 F_law_drawn) (zc (gVar 0) (zc (g2 addD (gK (.int 40)) (gVar 6)) gNil))) (gVar 2))))
    sNil)))
def jH : GS :=
    (sSeq (sAsg (hName 10) (g2 addD (gK (.int 1)) (g2 modD (gA (zS 2 F_law_drawn) (zc (gVar 0) (zc (g2 addD (gK (.int 60)) (gVar 5)) gNil))) (gVar 5))))
    (sAsg (hName 9) (g2 addD (g2 addD (gSl (gVar 9) jN (jz (gVar 10))) (gLs (gLst (zc (gVar 5) gNil)))) (gSl (gVar 9) (jz (gVar 10)) jN))))
def qb : GS :=
    (sSeq (sAsg (hName 12) (g2 ixD (gVar 9) (gVar 7)))
    (sSeq (sAsg (hName 13) (g2 ixD (gVar 9) (gVar 8)))
    (sApp 11 (gA tupD (zc (gA minD (zc (gVar 12) (zc (gVar 13) gNil))) (zc (gA maxD (zc (gVar 12) (zc (gVar 13) gNil))) (zc (g2 zeo (qj 4) (gA tupD (zc (gVar 7) (zc (gVar 8) gNil)))) gNil)))))))
def wa : GS :=
    (sSeq (sAsg (hName 3) (g2 addD (gK (.int 1)) (g2 modD (gVar 0) (gVar 1))))
    (sSeq (zeY 4)
    (sSeq (sFor (gItA wl (zc (gK (.int 1)) (zc (g2 addD (gVar 3) (gK (.int 1))) gNil))) (hName 5)
    qK)
    (sSeq (sFor (gItA wq (zc (g2 modD (g2 zdS (gVar 0) (gK (.int 7))) (gK (.int 4))) gNil)) (hName 6)
    zY)
    (sSeq (sAsg (hName 9) (gLs (gLst (zc (gK (.int 0)) gNil))))
    (sSeq (sFor (gItA wl (zc (gK (.int 1)) (zc (g2 addD (gVar 3) (gK (.int 1))) gNil))) (hName 5)
    jH)
    (sSeq (sOwn 11 (gLst gNil))
    (sSeq (zg3 4 (sFor (gIt ze5 (gVar 4)) (hTup 2 (zy (hName 7) (zy (hName 8) hNil)))
    qb))
    (sRet (gA tupD (zc (gVar 3) (zc (gA xj (zc (gLs (gItL vN (zc (qj 11) gNil))) gNil)) gNil))))))))))))
def F_law_yard : List D → Option D := qk 14 wa
def qA : GS :=
    (sRet (gA sumD (zc (gLs (qG 3 [1, 2] (gIt seqD (g2 ixD (gVar 0) (gK (.int 1)))) (hTup 3 (zy (hName 0) (zy (hName 1) (zy (hName 2) hNil)))) (zbt (gBo (g2 neD (gVar 0) (gVar 1))) (gBo (g2 inD (gA tupD (zc (gVar 0) (zc (gVar 1) gNil))) (gA tupD (zc (gA tupD (zc (gVar 3) (zc (gVar 4) gNil))) (zc (gA tupD (zc (gVar 4) (zc (gVar 3) gNil))) gNil)))))) (gVar 2))) gNil)))
def F_law_between : List D → Option D := qk 3 qA
def qC : GS :=
    (sApp 1 (gA sumD (zc (gLs (qG 1 [0, 2] (gItA wq (zc (g2 addD (g2 ixD (gVar 0) (gK (.int 0))) (gK (.int 1))) gNil)) (hName 0) xQ (gA (zS 3 F_law_between) (zc (gVar 1) (zc (gVar 2) (zc (gVar 0) gNil)))))) gNil)))
def xu : GS :=
    (sSeq (sOwn 1 (gLst gNil))
    (sSeq (sFor (gItA wl (zc (gK (.int 1)) (zc (g2 addD (g2 ixD (gVar 0) (gK (.int 0))) (gK (.int 1))) gNil))) (hName 2)
    qC)
    (sFrz 1 (sRet (gVar 1)))))
def F_law_sizes : List D → Option D := qk 3 xu
def jP (self : List D → Option D) : GS :=
    (sSeq (sIf (gBo (g2 eqD (gVar 0) (gLs (gLst gNil))))
    (sRet (gK (.int 1)))
    sNil)
    (sSeq (sAsg (hName 1) (gK (.int 0)))
    (sSeq (sFor (gItA zfW (zc (g2 ixD (gVar 0) (gK (.int 0))) gNil)) (hTup 2 (zy (hName 2) (zy (hName 3) hNil)))
    (sSeq (zcf 4 (qG 1 [2] (gIt seqD (gSl (gVar 0) (jz (gK (.int 1))) jN)) (hName 0) xQ (g2 addD (gSl (gVar 0) jN (jz (gVar 1))) (gSl (gVar 0) (jz (g2 addD (gVar 1) (gK (.int 1)))) jN))))
    (sAsg (hName 1) (g2 addD (gVar 1) (g2 qi (g2 qi (gVar 3) (gA (zS 1 self) (zc (gVar 4) gNil))) (g2 subD (gK (.int 1)) (g2 qi (g2 modD (gVar 2) (gK (.int 2))) (gK (.int 2)))))))))
    (sRet (gVar 1)))))
def F_law_measure : Nat → List D → Option D
  | 0 => fun _ => none
  | k + 1 => qk 5 (jP (F_law_measure k))
def jn : GS :=
    (sIf (gBo (g2 neD (g2 inD (gVar 4) (qj 2)) (g2 inD (gVar 5) (qj 2))))
    (sApp 2 (g2 ixD (gLs (gLst (zc (gVar 4) (zc (gVar 5) gNil)))) (gA intOfD (zc (g2 inD (gVar 4) (qj 2)) gNil))))
    sNil)
def jt : GS :=
    (sFor (gIt seqD (gVar 0)) (hTup 3 (zy (hName 4) (zy (hName 5) (zy (hName 6) hNil))))
    jn)
def xp : GS :=
    (sSeq (sOwn 2 (gLst (zc (gK (.int 0)) gNil)))
    (sSeq (sFor (gItA wq (zc (gVar 1) gNil)) (hName 3)
    jt)
    (sRet (g2 eqD (gA lenD (zc (qj 2) gNil)) (g2 addD (gVar 1) (gK (.int 1)))))))
def F_law_leads : List D → Option D := qk 7 xp
def wG : GS :=
    (sAsg (hName 3) (g2 addD (gVar 3) (gLs (qG 1 [4, 2] (gIt seqD (gVar 3)) (hName 0) (gBo (g2 ltD (gA lenD (zc (qj 0) gNil)) (gVar 2))) (g2 addD (qj 0) (gA tupD (zc (gVar 1) gNil)))))))
def wM : GS :=
    (sAsg (hName 7) (g2 qi (gVar 7) (gVar 10)))
def xn : GS :=
    (sIf (zbt (gBo (g2 eqD (gA lenD (zc (gVar 6) gNil)) (gVar 2))) (gTr (gA (zS 2 F_law_leads) (zc (gVar 6) (zc (gVar 2) gNil)))))
    (sSeq (sAsg (hName 7) (gK (.int 1)))
    (sSeq (sFor (gIt seqD (gVar 6)) (hTup 3 (zy (hName 8) (zy (hName 9) (zy (hName 10) hNil))))
    wM)
    (sApp 5 (gA tupD (zc (gA xj (zc (gLs (qG 1 [] (gIt seqD (gVar 6)) (hName 0) xQ (gSl (gVar 0) jN (jz (gK (.int 2)))))) gNil)) (zc (gVar 7) gNil))))))
    sNil)
def wK : GS :=
    (sSeq (sOwn 14 (qG 1 [1, 13] (gItA wl (zc (gK (.int 1)) (zc (g2 addD (gVar 2) (gK (.int 1))) gNil))) (hName 0) xQ (g1 negD (gA (zS 3 F_law_between) (zc (gVar 1) (zc (gVar 2) (zc (gVar 0) gNil)))))))
    (sSeq (zeJ 14 (g2 subD (gVar 13) (gK (.int 1))) (g2 ixD (gVar 11) (g2 subD (gVar 13) (gK (.int 1)))))
    (sFrz 14 (sApp 12 (gVar 14)))))
def zfH : GS :=
    (sSeq (sAsg (hName 1) (gA (zS 3 F_law_yard) (zc (gA (zS 2 F_law_mixed) (zc (gVar 0) (zc (gK (.int 0)) gNil))) (zc (gK (.int 4)) (zc (g2 addD (gK (.int 1)) (g2 modD (gA (zS 2 F_law_mixed) (zc (gVar 0) (zc (gK (.int 9)) gNil))) (gK (.int 3)))) gNil)))))
    (sSeq (sAsg (hName 2) (g2 ixD (gVar 1) (gK (.int 0))))
    (sSeq (sAsg (hName 3) (gLs (gLst (zc (gA tupD gNil) gNil))))
    (sSeq (sFor (gIt seqD (g2 ixD (gVar 1) (gK (.int 1)))) (hName 4)
    wG)
    (sSeq (sOwn 5 (gLst gNil))
    (sSeq (sFor (gIt seqD (gVar 3)) (hName 6)
    xn)
    (sSeq (sIf (gBo (g2 neD (gA (zS 1 F_trees) (zc (gVar 1) gNil)) (gA xj (zc (gLs (gItL xB (zc (qj 5) gNil))) gNil))))
    (sRet (gK (.bool false)))
    sNil)
    (sSeq (sAsg (hName 11) (gA (zS 1 F_law_sizes) (zc (gVar 1) gNil)))
    (sSeq (sOwn 12 (gLst gNil))
    (sSeq (sFor (gItA wl (zc (gK (.int 1)) (zc (g2 addD (gVar 2) (gK (.int 1))) gNil))) (hName 13)
    wK)
    (sSeq (sAsg (hName 10) (gA (zS 1 F_count_of) (zc (gVar 1) gNil)))
    (sFrz 12 (sFrz 5 (sRet (zcW (zee (g1 (isI zc3) (gVar 10))) (zcW (g2 eqD (gVar 10) (gA sumD (zc (gLs (qG 2 [] (gIt seqD (gVar 5)) (hTup 2 (zy (hName 0) (zy (hName 1) hNil))) xQ (gVar 1))) gNil))) (g2 eqD (gVar 10) (gA (zS 1 (F_law_measure 8)) (zc (gVar 12) gNil)))))))))))))))))))
def F_law : List D → Option D := qk 15 zfH
end L2.Y
end
namespace L2.Y
open PySem
def vh (ns : List Int) (k : Int) : Int := if k < ns.length then ns.getD k.toNat 0 else 0
theorem zfi (ns : List Int) (k : Int) (h0 : 0 ≤ k) : F_law_cell_at [scrD (ns.map .int), .int k] = some (.int (vh ns k)) := by
  by_cases q : k < ns.length
  · have hk : k.toNat < ns.length := by omega
    have e : atI (ns.map PyData.int) k = some (.int (ns.getD k.toNat 0)) := xT h0 (by simp [hk])
    simp [F_law_cell_at, qy, qk, qP, sSeq, sIf, sRet, gBo, g2, zag, gVar, gA, zc, gNil, zeZ, zhm, e, zbp, q, vh]
  · simp [F_law_cell_at, qy, qk, qP, sSeq, sIf, sRet, gK, gBo, g2, zag, gVar, gA, zc, gNil, zeZ, zbp, q, vh, sNil]
def mixI (ns : List Int) (k : Int) : Int := (((vh ns k + 7919 * k + 1) * 48271 % 2147483647) * ((vh ns k + 7919 * k + 1) * 48271 % 2147483647) + 7 * ((vh ns k + 7919 * k + 1) * 48271 % 2147483647) + k) % 2147483629
theorem zed (ns : List Int) (k : Int) (h0 : 0 ≤ k) : F_law_mixed [scrD (ns.map .int), .int k] = some (.int (mixI ns k)) := by
  have b1 := Int.emod_nonneg ((vh ns k + 7919 * k + 1) * 48271) (b := 2147483647) (by decide)
  have b2 := Int.emod_lt_of_pos ((vh ns k + 7919 * k + 1) * 48271) (b := 2147483647) (by decide)
  unfold mixI
  simp [F_law_mixed, yq, qk, qP, sSeq, sAsg, sRet, gK, hName, gVar, gA, zc, gNil, g2, qD, zfi ns k h0, qL, jV, zD, zJ]
  generalize (vh ns k + 7919 * k + 1) * 48271 % 2147483647 = z at *
  rw [qL (by omega) (by omega)]
  simp [zD, zJ]
def zC (n k : Int) : Int := (((n + 104729 * k + 17) * 69621 % 2147483647) * ((n + 104729 * k + 17) * 69621 % 2147483647) + 3 * ((n + 104729 * k + 17) * 69621 % 2147483647) + k) % 2147483629
theorem qc (n k : Int) : F_law_drawn [.int n, .int k] = some (.int (zC n k)) := by
  have b1 := Int.emod_nonneg ((n + 104729 * k + 17) * 69621) (b := 2147483647) (by decide)
  have b2 := Int.emod_lt_of_pos ((n + 104729 * k + 17) * 69621) (b := 2147483647) (by decide)
  unfold zC
  simp [F_law_drawn, wZ, qk, qP, sSeq, sAsg, sRet, gK, hName, gVar, g2, qL, jV, zD, zJ]
  generalize (n + 104729 * k + 17) * 69621 % 2147483647 = z at *
  rw [qL (by omega) (by omega)]
  simp [zD, zJ]
theorem za9 (n k : Int) : 0 ≤ zC n k := Int.emod_nonneg _ (by decide)
def pk (k : Int × Int) : D := .tuple [.int k.1, .int k.2]
def fk (l : List ((Int × Int) × Int)) : List (D × D) := l.map fun e => (pk e.1, .int e.2)
theorem zca (a b : Int × Int) : PyData.eqv (pk a) (pk b) = decide (a = b) := by
  obtain ⟨a1, a2⟩ := a
  obtain ⟨b1, b2⟩ := b
  simp only [pk, PyData.eqv, PyData.eqvAll, Prod.mk.injEq]
  by_cases h1 : a1 = b1 <;> by_cases h2 : a2 = b2 <;> simp [h1, h2]
def putL (l : List ((Int × Int) × Int)) (k : Int × Int) (m : Int) : List ((Int × Int) × Int) := if (l.any fun e => decide (e.1 = k)) = true then l.map (fun e => if e.1 = k then (e.1, m) else e) else l ++ [(k, m)]
theorem zf3 (l : List ((Int × Int) × Int)) (k : Int × Int) (m : Int) : putD (fk l) (pk k) (.int m) = fk (putL l k m) := by
  have ha : ((fk l).any fun p => PyData.eqv p.1 (pk k)) = l.any fun e => decide (e.1 = k) := by
    unfold fk
    rw [List.any_map]
    congr 1
    funext e
    exact zca e.1 k
  unfold putD putL
  rw [ha]
  by_cases q : (l.any fun e => decide (e.1 = k)) = true
  · rw [if_pos q, if_pos q]
    unfold fk
    rw [List.map_map, List.map_map]
    apply List.map_congr_left
    intro e _
    simp only [Function.comp, zca]
    by_cases h : e.1 = k <;> simp [h]
  · rw [if_neg q, if_neg q]
    unfold fk
    rw [List.map_append]
    rfl
theorem zdy (l : List ((Int × Int) × Int)) (k : Int × Int) : vn (fk l) (pk k) = (l.find? fun e => decide (e.1 = k)).map fun e => .int e.2 := by
  induction l with
  | nil => rfl
  | cons e l ih =>
    unfold vn fk at ih ⊢
    rw [List.map_cons, List.find?_cons, List.find?_cons]
    simp only [zca]
    by_cases h : e.1 = k
    · simp [h]
    · simp [h]; simpa using ih
theorem wY (l : List ((Int × Int) × Int)) (k : Int × Int) (m : Int) : (putL l k m).map (·.1) = if k ∈ l.map (·.1) then l.map (·.1) else l.map (·.1) ++ [k] := by
  unfold putL
  by_cases q : (l.any fun e => decide (e.1 = k)) = true
  · have hm : k ∈ l.map (·.1) := by
      obtain ⟨e, he, h⟩ := List.any_eq_true.mp q
      exact List.mem_map.mpr ⟨e, he, of_decide_eq_true h⟩
    rw [if_pos q, if_pos hm, List.map_map]
    apply List.map_congr_left
    intro e _
    simp only [Function.comp]
    split <;> rfl
  · have hm : k ∉ l.map (·.1) := fun h => by
      obtain ⟨e, he, h⟩ := List.mem_map.mp h
      exact q (List.any_eq_true.mpr ⟨e, he, decide_eq_true h⟩)
    rw [if_neg q, if_neg hm, List.map_append]
    rfl
theorem zbD {l : List ((Int × Int) × Int)} {k : Int × Int} {m : Int} (h : (l.map (·.1)).Nodup) : ((putL l k m).map (·.1)).Nodup := by
  rw [wY]
  split
  · exact h
  · rename_i hk
    rw [List.nodup_append]
    exact ⟨h, by simp, fun a ha b hb => by simp at hb; subst hb; exact fun z => hk (z ▸ ha)⟩
theorem zaZ (l : List ((Int × Int) × Int)) (k : Int × Int) (m : Int) : (putL l k m).length ≤ l.length + 1 := by
  unfold putL
  split
  · simp
  · simp
theorem zdP {l : List ((Int × Int) × Int)} {k : Int × Int} {m : Int} {e : (Int × Int) × Int} (h : e ∈ putL l k m) : e = (k, m) ∨ e ∈ l := by
  unfold putL at h
  split at h
  · obtain ⟨e', he, rfl⟩ := List.mem_map.mp h
    by_cases q : e'.1 = k
    · rw [if_pos q]; left; rw [q]
    · rw [if_neg q]; exact .inr he
  · rcases List.mem_append.mp h with h | h
    · exact .inr h
    · left; simpa using h
theorem zec {l : List ((Int × Int) × Int)} {k : Int × Int} {m : Int} : k ∈ (putL l k m).map (·.1) := by
  rw [wY]
  split
  · assumption
  · simp
theorem zaI {l : List ((Int × Int) × Int)} {k j : Int × Int} {m : Int} (h : j ∈ l.map (·.1)) : j ∈ (putL l k m).map (·.1) := by
  rw [wY]
  split
  · exact h
  · exact List.mem_append_left _ h
end L2.Y
namespace L2.Y
open PySem
abbrev vI (i : Int) : Option En := some (.val (.int i))
abbrev dT (l : List ((Int × Int) × Int)) : Option En := some (.own (.dict ((.none, .none) :: fk l)))
structure FoundOk (count wide : Int) (l : List ((Int × Int) × Int)) : Prop where
  nd : (l.map (·.1)).Nodup
  rng : ∀ e ∈ l, 0 ≤ e.1.1 ∧ e.1.1 < e.1.2 ∧ e.1.2 ≤ count ∧ 1 ≤ e.2 ∧ e.2 ≤ wide
theorem FoundOk.put {count wide : Int} {l : List ((Int × Int) × Int)} {a b m : Int} (h : FoundOk count wide l) (h1 : 0 ≤ a) (h2 : a < b) (h3 : b ≤ count) (h4 : 1 ≤ m) (h5 : m ≤ wide) : FoundOk count wide (putL l (a, b) m) := by
  refine ⟨zbD h.nd, fun e he => ?_⟩
  rcases zdP he with q | q
  · subst q; exact ⟨h1, h2, h3, h4, h5⟩
  · exact h.rng e q
theorem za7 {i : Nat} {gk ge : Env' → Option D} {ρ : Env'} {l : List ((Int × Int) × Int)} {a b m : Int} (h1 : ge ρ = some (.int m)) (h2 : gk ρ = some (.tuple [.int a, .int b])) (h3 : ρ[i]? = some (dT l)) (h4 : l.length < 16777216) : kU i gk ge ρ = some (.nxt (ρ.set i (dT (putL l (a, b) m)))) := by
  have e3 : ownD i ρ = some (.dict ((.none, .none) :: fk l)) := by unfold ownD; rw [h3]
  have hl : (fk l).length < sizeLine := by unfold fk; rw [List.length_map]; exact h4
  unfold kU
  rw [h1, Option.bind_some, h2, Option.bind_some, e3, Option.bind_some]
  show (if (fk l).length < sizeLine then _ else none) = _
  rw [if_pos hl]
  have := zf3 l (a, b) m
  unfold pk at this
  rw [this]
theorem zbx (n most wide count : Int) (hw : 1 ≤ wide) (hc : 0 ≤ count) (hc5 : count ≤ 100) : ∃ l x5, forF (hName 5) qK (zu 1 count.toNat) [vI n, vI most, vI wide, vI count, dT [], none, none, none, none, none, none, none, none, none] =
    some (.nxt [vI n, vI most, vI wide, vI count, dT l, x5, none, none, none, none, none, none, none, none]) ∧ FoundOk count wide l ∧ (∀ p : Int, 1 ≤ p → p ≤ count → ∃ a, (a, p) ∈ l.map (·.1)) ∧ (l.length : Int) ≤ count := by
  obtain ⟨ρ', e, l, x5, rfl, h1, h2, h3⟩ := qe (h := hName 5) (gb := qK) (fun i ρ => ∃ l x5, ρ = [vI n, vI most, vI wide, vI count, dT l, x5, none, none, none, none, none, none, none, none] ∧ FoundOk count wide l ∧ (∀ p : Int, 1 ≤ p → p ≤ i → ∃ a, (a, p) ∈ l.map (·.1)) ∧ l.length ≤ i)
    (zu 1 count.toNat) 0 [vI n, vI most, vI wide, vI count, dT [], none, none, none, none, none, none, none, none, none] ⟨[], none, rfl, ⟨List.nodup_nil, fun e h => by simp at h⟩, fun p h1 h2 => by omega, Nat.le_refl _⟩ (fun k d ρ hk ⟨l, x5, hr, f1, f2, f3⟩ => by
      obtain ⟨hlt, rfl⟩ := qv hk
      subst hr
      rw [Nat.zero_add] at f2 f3 ⊢
      have b1 := za9 n (1 + k)
      have b2 := za9 n (10 + (1 + k))
      have m1 := Int.emod_nonneg (zC n (1 + k)) (b := 1 + (k : Int)) (by omega)
      have m2 := Int.emod_lt_of_pos (zC n (1 + k)) (b := 1 + (k : Int)) (by omega)
      have m3 := Int.emod_nonneg (zC n (10 + (1 + k))) (b := wide) (by omega)
      have m4 := Int.emod_lt_of_pos (zC n (10 + (1 + k))) (b := wide) (by omega)
      refine ⟨_, _, rfl, za7 (l := l) (a := zC n (1 + k) % (1 + k)) (b := 1 + k) (m := 1 + zC n (10 + (1 + k)) % wide) ?_ ?_ rfl (by omega), putL l (zC n (1 + k) % (1 + k), 1 + k) (1 + zC n (10 + (1 + k)) % wide), _, rfl, f1.put m1 m2 (by omega) (by omega) (by omega), fun p p1 p2 => ?_, ?_⟩
      · have hw' : 0 < wide := by omega
        simp [g2, gK, gA, zc, gNil, gVar, qD, zD, qc, zJ hw']
      · have hk' : (0 : Int) < 1 + k := by omega
        simp [g2, gK, gA, zc, gNil, gVar, qD, qc, zJ hk', zcp]
      · by_cases q : p = 1 + k
        · subst q; exact ⟨_, zec⟩
        · obtain ⟨a, ha⟩ := f2 p p1 (by push_cast at p2; omega)
          exact ⟨a, zaI ha⟩
      · have := zaZ l (zC n (1 + k) % (1 + k), 1 + (k : Int)) (1 + zC n (10 + (1 + k)) % wide)
        omega)
  rw [jT, Nat.zero_add] at h2 h3
  exact ⟨l, x5, e, h1, fun p p1 p2 => h2 p p1 (by omega), by omega⟩
theorem zbh (n most wide count : Int) (hw : 1 ≤ wide) (hc : 0 ≤ count) (hc5 : count ≤ 100) (t : Nat) (ht : t ≤ 100) (l0 : List ((Int × Int) × Int)) (x5 : Option En) (h0 : FoundOk count wide l0) (hl0 : (l0.length : Int) ≤ count) : ∃ l x6 x7 x8, forF (hName 6) zY (zu 0 t) [vI n, vI most, vI wide, vI count, dT l0, x5, none, none, none, none, none, none, none, none] =
    some (.nxt [vI n, vI most, vI wide, vI count, dT l, x5, x6, x7, x8, none, none, none, none, none]) ∧ FoundOk count wide l ∧ (∀ k ∈ l0.map (·.1), k ∈ l.map (·.1)) ∧ (l.length : Int) ≤ count + t := by
  obtain ⟨ρ', e, l, x6, x7, x8, rfl, h1, h2, h3⟩ := qe (h := hName 6) (gb := zY) (fun i ρ => ∃ l x6 x7 x8, ρ = [vI n, vI most, vI wide, vI count, dT l, x5, x6, x7, x8, none, none, none, none, none] ∧ FoundOk count wide l ∧ (∀ k ∈ l0.map (·.1), k ∈ l.map (·.1)) ∧ (l.length : Int) ≤ count + i)
    (zu 0 t) 0 [vI n, vI most, vI wide, vI count, dT l0, x5, none, none, none, none, none, none, none, none] ⟨l0, none, none, none, rfl, h0, fun _ h => h, by omega⟩ (fun k d ρ hk ⟨l, x6, x7, x8, hr, f1, f2, f3⟩ => by
      obtain ⟨hlt, rfl⟩ := qv hk
      subst hr
      have m1 := Int.emod_nonneg (zC n (20 + (0 + k))) (b := count + 1) (by omega)
      have m2 := Int.emod_lt_of_pos (zC n (20 + (0 + k))) (b := count + 1) (by omega)
      have m3 := Int.emod_nonneg (zC n (30 + (0 + k))) (b := count + 1) (by omega)
      have m4 := Int.emod_lt_of_pos (zC n (30 + (0 + k))) (b := count + 1) (by omega)
      have m5 := Int.emod_nonneg (zC n (40 + (0 + k))) (b := wide) (by omega)
      have m6 := Int.emod_lt_of_pos (zC n (40 + (0 + k))) (b := wide) (by omega)
      have hc' : 0 < count + 1 := by omega
      have hw' : 0 < wide := by omega
      by_cases q : zC n (20 + (0 + k)) % (count + 1) < zC n (30 + (0 + k)) % (count + 1)
      · refine ⟨_, _, rfl, ?_, putL l (zC n (20 + (0 + k)) % (count + 1), zC n (30 + (0 + k)) % (count + 1)) (1 + zC n (40 + (0 + k)) % wide), vI (0 + k), vI (zC n (20 + (0 + k)) % (count + 1)), vI (zC n (30 + (0 + k)) % (count + 1)), rfl, f1.put m1 q (by omega) (by omega) (by omega), fun j hj => zaI (f2 j hj), ?_⟩
        · have ed := za7 (i := 4) (gk := gA tupD (zc (gVar 7) (zc (gVar 8) gNil))) (ge := g2 addD (gK (.int 1)) (g2 modD (gA (zS 2 F_law_drawn) (zc (gVar 0) (zc (g2 addD (gK (.int 40)) (gVar 6)) gNil))) (gVar 2)))
            (ρ := [vI n, vI most, vI wide, vI count, dT l, x5, vI (0 + k), vI (zC n (20 + (0 + k)) % (count + 1)), vI (zC n (30 + (0 + k)) % (count + 1)), none, none, none, none, none]) (l := l) (a := zC n (20 + (0 + k)) % (count + 1)) (b := zC n (30 + (0 + k)) % (count + 1)) (m := 1 + zC n (40 + (0 + k)) % wide)
            (by simp [g2, gK, gA, zc, gNil, gVar, qD, zD, qc, zJ hw']) (by simp [g2, gK, gA, zc, gNil, gVar, zcp]) rfl (by omega)
          have e1 : sAsg (hName 7) (g2 modD (gA (zS 2 F_law_drawn) (zc (gVar 0) (zc (g2 addD (gK (.int 20)) (gVar 6)) gNil))) (g2 addD (gVar 3) (gK (.int 1)))) [vI n, vI most, vI wide, vI count, dT l, x5, vI (0 + k), x7, x8, none, none, none, none, none] = some (.nxt [vI n, vI most, vI wide, vI count, dT l, x5, vI (0 + k), vI (zC n (20 + (0 + k)) % (count + 1)), x8, none, none, none, none, none]) := by
            simp [sAsg, hName, g2, gK, gA, zc, gNil, gVar, qD, zD, qc, zJ hc']
          have e2 : sAsg (hName 8) (g2 modD (gA (zS 2 F_law_drawn) (zc (gVar 0) (zc (g2 addD (gK (.int 30)) (gVar 6)) gNil))) (g2 addD (gVar 3) (gK (.int 1)))) [vI n, vI most, vI wide, vI count, dT l, x5, vI (0 + k), vI (zC n (20 + (0 + k)) % (count + 1)), x8, none, none, none, none, none] = some (.nxt [vI n, vI most, vI wide, vI count, dT l, x5, vI (0 + k), vI (zC n (20 + (0 + k)) % (count + 1)), vI (zC n (30 + (0 + k)) % (count + 1)), none, none, none, none, none]) := by
            simp [sAsg, hName, g2, gK, gA, zc, gNil, gVar, qD, zD, qc, zJ hc']
          show zY [vI n, vI most, vI wide, vI count, dT l, x5, vI (0 + k), x7, x8, none, none, none, none, none] = _
          unfold zY
          rw [sSeq, e1, Option.bind_some]
          show sSeq _ _ _ = _
          rw [sSeq, e2, Option.bind_some]
          show sIf _ _ _ _ = _
          have e3 : gBo (g2 ltD (gVar 7) (gVar 8)) [vI n, vI most, vI wide, vI count, dT l, x5, vI (0 + k), vI (zC n (20 + (0 + k)) % (count + 1)), vI (zC n (30 + (0 + k)) % (count + 1)), none, none, none, none, none] = some true := by
            show ((some (PyData.bool (decide (zC n (20 + (0 + k)) % (count + 1) < zC n (30 + (0 + k)) % (count + 1))))) : Option D).bind zbp = some true
            rw [decide_eq_true q]
            rfl
          rw [sIf, e3, Option.bind_some, if_pos rfl]
          exact ed
        · have := zaZ l (zC n (20 + (0 + k)) % (count + 1), zC n (30 + (0 + k)) % (count + 1)) (1 + zC n (40 + (0 + k)) % wide)
          omega
      · refine ⟨_, _, rfl, ?_, l, vI (0 + k), vI (zC n (20 + (0 + k)) % (count + 1)), vI (zC n (30 + (0 + k)) % (count + 1)), rfl, f1, f2, by omega⟩
        show zY [vI n, vI most, vI wide, vI count, dT l, x5, vI (0 + k), x7, x8, none, none, none, none, none] = _
        have e1 : sAsg (hName 7) (g2 modD (gA (zS 2 F_law_drawn) (zc (gVar 0) (zc (g2 addD (gK (.int 20)) (gVar 6)) gNil))) (g2 addD (gVar 3) (gK (.int 1)))) [vI n, vI most, vI wide, vI count, dT l, x5, vI (0 + k), x7, x8, none, none, none, none, none] = some (.nxt [vI n, vI most, vI wide, vI count, dT l, x5, vI (0 + k), vI (zC n (20 + (0 + k)) % (count + 1)), x8, none, none, none, none, none]) := by
          simp [sAsg, hName, g2, gK, gA, zc, gNil, gVar, qD, zD, qc, zJ hc']
        have e2 : sAsg (hName 8) (g2 modD (gA (zS 2 F_law_drawn) (zc (gVar 0) (zc (g2 addD (gK (.int 30)) (gVar 6)) gNil))) (g2 addD (gVar 3) (gK (.int 1)))) [vI n, vI most, vI wide, vI count, dT l, x5, vI (0 + k), vI (zC n (20 + (0 + k)) % (count + 1)), x8, none, none, none, none, none] = some (.nxt [vI n, vI most, vI wide, vI count, dT l, x5, vI (0 + k), vI (zC n (20 + (0 + k)) % (count + 1)), vI (zC n (30 + (0 + k)) % (count + 1)), none, none, none, none, none]) := by
          simp [sAsg, hName, g2, gK, gA, zc, gNil, gVar, qD, zD, qc, zJ hc']
        unfold zY
        rw [sSeq, e1, Option.bind_some]
        show sSeq _ _ _ = _
        rw [sSeq, e2, Option.bind_some]
        show sIf _ _ _ _ = _
        have e3 : gBo (g2 ltD (gVar 7) (gVar 8)) [vI n, vI most, vI wide, vI count, dT l, x5, vI (0 + k), vI (zC n (20 + (0 + k)) % (count + 1)), vI (zC n (30 + (0 + k)) % (count + 1)), none, none, none, none, none] = some false := by
          show ((some (PyData.bool (decide (zC n (20 + (0 + k)) % (count + 1) < zC n (30 + (0 + k)) % (count + 1))))) : Option D).bind zbp = some false
          rw [decide_eq_false q]
          rfl
        rw [sIf, e3, Option.bind_some]
        rfl)
  rw [jT, Nat.zero_add] at h3
  exact ⟨l, x6, x7, x8, e, h1, h2, h3⟩
end L2.Y
namespace L2.Y
open PySem
structure NamesOk (i : Nat) (ms : List Int) : Prop where
  len : ms.length = i + 1
  nd : ms.Nodup
  rng : ∀ x ∈ ms, 0 ≤ x ∧ x ≤ i
  zero : ms[0]? = some 0
theorem NamesOk.ins {i : Nat} {ms : List Int} (h : NamesOk i ms) {a : Nat} (h1 : 1 ≤ a) (h2 : a ≤ i + 1) : NamesOk (i + 1) (ms.take a ++ [((i : Int) + 1)] ++ ms.drop a) := by
  have hp : (ms.take a ++ [((i : Int) + 1)] ++ ms.drop a).Perm (((i : Int) + 1) :: ms) := by
    rw [List.append_assoc]
    have := List.perm_middle (a := (i : Int) + 1) (l₁ := ms.take a) (l₂ := ms.drop a)
    rw [List.take_append_drop] at this
    exact this
  refine ⟨?_, ?_, fun x hx => ?_, ?_⟩
  · rw [hp.length_eq, List.length_cons, h.len]
  · rw [hp.nodup_iff, List.nodup_cons]
    exact ⟨fun z => by have := h.rng _ z; omega, h.nd⟩
  · rcases List.mem_cons.mp (hp.mem_iff.mp hx) with q | q
    · subst q; push_cast; omega
    · have := h.rng x q; push_cast; omega
  · have hlen := h.len
    have hz := h.zero
    rw [List.append_assoc, List.getElem?_append_left (by rw [List.length_take]; omega), List.getElem?_take, if_pos (by omega)]
    exact hz
theorem zaC (n d a : Nat) (h : a ≤ n) : HT.sIx n d (some (a : Int)) = a := by
  show (if (a : Int) < 0 then ((a : Int) + (n : Int)).toNat else min (a : Int).toNat n) = a
  rw [if_neg (by omega), Int.toNat_natCast, Nat.min_eq_left h]
theorem kH (ds : List D) (a : Nat) (h : a ≤ ds.length) : cutD ds none (some (a : Int)) = ds.take a := by
  unfold cutD
  rw [zaC _ _ _ h, show HT.sIx ds.length 0 none = 0 from rfl, List.drop_zero, Nat.sub_zero]
theorem wI (ds : List D) (a : Nat) (h : a ≤ ds.length) : cutD ds (some (a : Int)) none = ds.drop a := by
  unfold cutD
  rw [zaC _ _ _ h, show HT.sIx ds.length ds.length none = ds.length from rfl, ← List.length_drop, List.take_length]
theorem zbz (n most wide count : Int) (hc : 0 ≤ count) (hc5 : count ≤ 100) (x4 x5 x6 x7 x8 : Option En) : ∃ ms x5' x10, forF (hName 5) jH (zu 1 count.toNat) [vI n, vI most, vI wide, vI count, x4, x5, x6, x7, x8, some (.val (.list [.int 0])), none, none, none, none] =
    some (.nxt [vI n, vI most, vI wide, vI count, x4, x5', x6, x7, x8, some (.val (.list (ms.map PyData.int))), x10, none, none, none]) ∧ NamesOk count.toNat ms := by
  obtain ⟨ρ', e, ms, x5', x10, rfl, h1⟩ := qe (h := hName 5) (gb := jH) (fun i ρ => ∃ ms x5' x10, ρ = [vI n, vI most, vI wide, vI count, x4, x5', x6, x7, x8, some (.val (.list (ms.map PyData.int))), x10, none, none, none] ∧ NamesOk i ms)
    (zu 1 count.toNat) 0 [vI n, vI most, vI wide, vI count, x4, x5, x6, x7, x8, some (.val (.list [.int 0])), none, none, none, none] ⟨[0], x5, none, rfl, rfl, by simp, fun x hx => by simp at hx; subst hx; simp, rfl⟩ (fun k d ρ hk ⟨ms, y5, y10, hr, f1⟩ => by
      obtain ⟨hlt, rfl⟩ := qv hk
      subst hr
      rw [Nat.zero_add] at f1 ⊢
      have m1 := Int.emod_nonneg (zC n (60 + (1 + k))) (b := 1 + (k : Int)) (by omega)
      have m2 := Int.emod_lt_of_pos (zC n (60 + (1 + k))) (b := 1 + (k : Int)) (by omega)
      have hk' : (0 : Int) < 1 + k := by omega
      obtain ⟨a, ha⟩ : ∃ a : Nat, (a : Int) = 1 + zC n (60 + (1 + k)) % (1 + k) := ⟨(1 + zC n (60 + (1 + k)) % (1 + k)).toNat, by omega⟩
      have hal : a ≤ (ms.map PyData.int).length := by rw [List.length_map, f1.len]; omega
      have e1 : sAsg (hName 10) (g2 addD (gK (.int 1)) (g2 modD (gA (zS 2 F_law_drawn) (zc (gVar 0) (zc (g2 addD (gK (.int 60)) (gVar 5)) gNil))) (gVar 5))) [vI n, vI most, vI wide, vI count, x4, vI (1 + k), x6, x7, x8, some (.val (.list (ms.map PyData.int))), y10, none, none, none] = some (.nxt [vI n, vI most, vI wide, vI count, x4, vI (1 + k), x6, x7, x8, some (.val (.list (ms.map PyData.int))), vI a, none, none, none]) := by
        simp [sAsg, hName, g2, gK, gA, zc, gNil, gVar, qD, zD, qc, zJ hk', ha]
      refine ⟨_, _, rfl, ?_, ms.take a ++ [((k : Int) + 1)] ++ ms.drop a, vI (1 + k), vI a, rfl, f1.ins (by omega) (by omega)⟩
      show jH [vI n, vI most, vI wide, vI count, x4, vI (1 + k), x6, x7, x8, some (.val (.list (ms.map PyData.int))), y10, none, none, none] = _
      unfold jH
      rw [sSeq, e1, Option.bind_some]
      have s1 : slD (.list (ms.map PyData.int)) none (some (a : Int)) = some (.list ((ms.map PyData.int).take a)) := by rw [slD, kH _ _ hal]
      have s2 : slD (.list (ms.map PyData.int)) (some (a : Int)) none = some (.list ((ms.map PyData.int).drop a)) := by rw [slD, wI _ _ hal]
      have l1 : ((ms.map PyData.int).take a).length + 1 ≤ sizeLine := by rw [List.length_take, List.length_map, f1.len]; show _ ≤ 16777216; omega
      have l2 : (((ms.map PyData.int).take a) ++ [PyData.int (1 + k)]).length + ((ms.map PyData.int).drop a).length ≤ sizeLine := by rw [List.length_append, List.length_take, List.length_drop, List.length_map, f1.len]; show _ ≤ 16777216; simp; omega
      show sAsg (hName 9) _ [vI n, vI most, vI wide, vI count, x4, vI (1 + k), x6, x7, x8, some (.val (.list (ms.map PyData.int))), vI a, none, none, none] = _
      have a1 : addD (.list ((ms.map PyData.int).take a)) (.list [.int (1 + k)]) = some (.list (((ms.map PyData.int).take a) ++ [.int (1 + k)])) := if_pos l1
      have a2 : addD (.list (((ms.map PyData.int).take a) ++ [.int (1 + k)])) (.list ((ms.map PyData.int).drop a)) = some (.list (((ms.map PyData.int).take a) ++ [.int (1 + k)] ++ (ms.map PyData.int).drop a)) := if_pos l2
      have e2 : (g2 addD (g2 addD (gSl (gVar 9) jN (jz (gVar 10))) (gLs (gLst (zc (gVar 5) gNil)))) (gSl (gVar 9) (jz (gVar 10)) jN)) [vI n, vI most, vI wide, vI count, x4, vI (1 + k), x6, x7, x8, some (.val (.list (ms.map PyData.int))), vI a, none, none, none] = some (.list (((ms.map PyData.int).take a) ++ [.int (1 + k)] ++ (ms.map PyData.int).drop a)) := by
        have g9 : gVar 9 [vI n, vI most, vI wide, vI count, x4, vI (1 + k), x6, x7, x8, some (.val (.list (ms.map PyData.int))), vI a, none, none, none] = some (.list (ms.map PyData.int)) := rfl
        have g10 : jz (gVar 10) [vI n, vI most, vI wide, vI count, x4, vI (1 + k), x6, x7, x8, some (.val (.list (ms.map PyData.int))), vI a, none, none, none] = some (some (a : Int)) := rfl
        have g5 : gLs (gLst (zc (gVar 5) gNil)) [vI n, vI most, vI wide, vI count, x4, vI (1 + k), x6, x7, x8, some (.val (.list (ms.map PyData.int))), vI a, none, none, none] = some (.list [.int (1 + k)]) := rfl
        simp only [g2, gSl, g9, g10, jN, Option.bind_some, s1, s2, g5, a1, a2]
      rw [sAsg, e2]
      simp [hName, List.map_append, List.map_take, List.map_drop, Int.add_comm])
  rw [jT, Nat.zero_add] at h1
  exact ⟨ms, x5', x10, e, h1⟩
end L2.Y
namespace L2.Y
open PySem
def zw (l : Int × Int × Int) : D := .tuple [.int l.1, .int l.2.1, .int l.2.2]
def zO (c : Int) (ls : List (Int × Int × Int)) : D := .tuple [.int c, .tuple (ls.map zw)]
def nmI (ms : List Int) (i : Int) : Int := ms.getD i.toNat 0
def zH (ms : List Int) (e : (Int × Int) × Int) : Int × Int × Int := (min (nmI ms e.1.1) (nmI ms e.1.2), max (nmI ms e.1.1) (nmI ms e.1.2), e.2)
theorem yI : ∀ {l : List ((Int × Int) × Int)} {e : (Int × Int) × Int}, (l.map (·.1)).Nodup → e ∈ l → l.find? (fun x => decide (x.1 = e.1)) = some e
  | [], _, _, h => by simp at h
  | a :: l, e, hn, h => by
    rw [List.map_cons, List.nodup_cons] at hn
    rw [List.find?_cons]
    rcases List.mem_cons.mp h with q | q
    · subst q; simp
    · have ne : ¬ a.1 = e.1 := fun z => hn.1 (by rw [z]; exact List.mem_map.mpr ⟨e, q, rfl⟩)
      simp only [ne, decide_false]
      exact yI hn.2 q
theorem zeV (i j : Int) : minD [.int i, .int j] = some (.int (min i j)) := by
  show some (PyData.int (if j < i then j else i)) = _
  congr 2
  by_cases h : j < i
  · rw [if_pos h]; omega
  · rw [if_neg h]; omega
theorem zeM (i j : Int) : maxD [.int i, .int j] = some (.int (max i j)) := by
  show some (PyData.int (if j > i then j else i)) = _
  congr 2
  by_cases h : j > i
  · rw [if_pos h]; omega
  · rw [if_neg h]; omega
theorem kK {ms : List Int} {i : Int} (h0 : 0 ≤ i) (h1 : i < ms.length) : ixD (.list (ms.map PyData.int)) (.int i) = some (.int (nmI ms i)) := by
  show atI (ms.map PyData.int) i = _
  refine xT h0 ?_
  have : i.toNat < ms.length := by omega
  simp [nmI, this]
theorem xy {i : Nat} {ge : Env' → Option D} {ρ : Env'} {ds : List D} {d : D} (h1 : ge ρ = some d) (h2 : ρ[i]? = some (some (.own (.list ds)))) (h3 : ds.length < 16777216) : sApp i ge ρ = some (.nxt (ρ.set i (some (.own (.list (ds ++ [d])))))) := by
  have e : ownL i ρ = some ds := by unfold ownL; rw [h2]
  unfold sApp
  rw [h1, Option.bind_some, e, Option.bind_some]
  exact if_pos h3
theorem zbn (n most wide count : Int) (hc : 0 ≤ count) (l : List ((Int × Int) × Int)) (hl : l.length ≤ 1000) (h : FoundOk count wide l) (ms : List Int) (hm : NamesOk count.toNat ms) (x5 x6 x7 x8 x10 : Option En) :
    ∃ y7 y8 y12 y13, forF (hTup 2 (zy (hName 7) (zy (hName 8) hNil))) qb ((fk l).map (·.1)) [vI n, vI most, vI wide, vI count, some (.val (.dict ((.none, .int 0) :: fk l))), x5, x6, x7, x8, some (.val (.list (ms.map PyData.int))), x10, some (.own (.list [])), none, none] =
    some (.nxt [vI n, vI most, vI wide, vI count, some (.val (.dict ((.none, .int 0) :: fk l))), x5, x6, y7, y8, some (.val (.list (ms.map PyData.int))), x10, some (.own (.list ((l.map (zH ms)).map zw))), y12, y13]) := by
  obtain ⟨ρ', e, y7, y8, y12, y13, rfl⟩ := qe (h := hTup 2 (zy (hName 7) (zy (hName 8) hNil))) (gb := qb) (fun i ρ => ∃ y7 y8 y12 y13, ρ = [vI n, vI most, vI wide, vI count, some (.val (.dict ((.none, .int 0) :: fk l))), x5, x6, y7, y8, some (.val (.list (ms.map PyData.int))), x10, some (.own (.list (((l.take i).map (zH ms)).map zw))), y12, y13])
    ((fk l).map (·.1)) 0 [vI n, vI most, vI wide, vI count, some (.val (.dict ((.none, .int 0) :: fk l))), x5, x6, x7, x8, some (.val (.list (ms.map PyData.int))), x10, some (.own (.list [])), none, none] ⟨x7, x8, none, none, rfl⟩ (fun k d ρ hk ⟨y7, y8, y12, y13, hr⟩ => by
      subst hr
      rw [Nat.zero_add]
      unfold fk at hk
      rw [List.map_map, List.getElem?_map] at hk
      obtain ⟨en, he, rfl⟩ := Option.map_eq_some_iff.mp hk
      have hen : en ∈ l := List.mem_of_getElem? he
      obtain ⟨r1, r2, r3, r4, r5⟩ := h.rng en hen
      have hlen := hm.len
      have hkl : k < l.length := (List.getElem?_eq_some_iff.mp he).1
      have i1 := kK (ms := ms) (i := en.1.1) r1 (by omega)
      have i2 := kK (ms := ms) (i := en.1.2) (by omega) (by omega)
      have lk : zeo (.dict ((.none, .int 0) :: fk l)) (.tuple [.int en.1.1, .int en.1.2]) = some (.int en.2) := by
        show vn (fk l) (pk en.1) = _
        rw [zdy, yI h.nd hen]
        rfl
      refine ⟨[vI n, vI most, vI wide, vI count, some (.val (.dict ((.none, .int 0) :: fk l))), x5, x6, vI en.1.1, vI en.1.2, some (.val (.list (ms.map PyData.int))), x10, some (.own (.list (((l.take k).map (zH ms)).map zw))), y12, y13], _, rfl, ?_, vI en.1.1, vI en.1.2, vI (nmI ms en.1.1), vI (nmI ms en.1.2), rfl⟩
      have e1 : sAsg (hName 12) (g2 ixD (gVar 9) (gVar 7)) [vI n, vI most, vI wide, vI count, some (.val (.dict ((.none, .int 0) :: fk l))), x5, x6, vI en.1.1, vI en.1.2, some (.val (.list (ms.map PyData.int))), x10, some (.own (.list (((l.take k).map (zH ms)).map zw))), y12, y13] =
          some (.nxt [vI n, vI most, vI wide, vI count, some (.val (.dict ((.none, .int 0) :: fk l))), x5, x6, vI en.1.1, vI en.1.2, some (.val (.list (ms.map PyData.int))), x10, some (.own (.list (((l.take k).map (zH ms)).map zw))), vI (nmI ms en.1.1), y13]) := by
        show (ixD (.list (ms.map PyData.int)) (.int en.1.1)).bind _ = _
        rw [i1]; rfl
      have e2 : sAsg (hName 13) (g2 ixD (gVar 9) (gVar 8)) [vI n, vI most, vI wide, vI count, some (.val (.dict ((.none, .int 0) :: fk l))), x5, x6, vI en.1.1, vI en.1.2, some (.val (.list (ms.map PyData.int))), x10, some (.own (.list (((l.take k).map (zH ms)).map zw))), vI (nmI ms en.1.1), y13] =
          some (.nxt [vI n, vI most, vI wide, vI count, some (.val (.dict ((.none, .int 0) :: fk l))), x5, x6, vI en.1.1, vI en.1.2, some (.val (.list (ms.map PyData.int))), x10, some (.own (.list (((l.take k).map (zH ms)).map zw))), vI (nmI ms en.1.1), vI (nmI ms en.1.2)]) := by
        show (ixD (.list (ms.map PyData.int)) (.int en.1.2)).bind _ = _
        rw [i2]; rfl
      unfold qb
      rw [sSeq, e1, Option.bind_some]
      show sSeq _ _ _ = _
      rw [sSeq, e2, Option.bind_some]
      have e3 : ((l.take (k + 1)).map (zH ms)).map zw = ((l.take k).map (zH ms)).map zw ++ [zw (zH ms en)] := by
        rw [List.take_succ, he]; simp
      rw [e3]
      refine xy ?_ rfl (by simp; omega)
      have v1 : gA minD (zc (gVar 12) (zc (gVar 13) gNil)) [vI n, vI most, vI wide, vI count, some (.val (.dict ((.none, .int 0) :: fk l))), x5, x6, vI en.1.1, vI en.1.2, some (.val (.list (ms.map PyData.int))), x10, some (.own (.list (((l.take k).map (zH ms)).map zw))), vI (nmI ms en.1.1), vI (nmI ms en.1.2)] = some (.int (min (nmI ms en.1.1) (nmI ms en.1.2))) := zeV _ _
      have v2 : gA maxD (zc (gVar 12) (zc (gVar 13) gNil)) [vI n, vI most, vI wide, vI count, some (.val (.dict ((.none, .int 0) :: fk l))), x5, x6, vI en.1.1, vI en.1.2, some (.val (.list (ms.map PyData.int))), x10, some (.own (.list (((l.take k).map (zH ms)).map zw))), vI (nmI ms en.1.1), vI (nmI ms en.1.2)] = some (.int (max (nmI ms en.1.1) (nmI ms en.1.2))) := zeM _ _
      have v3 : g2 zeo (qj 4) (gA tupD (zc (gVar 7) (zc (gVar 8) gNil))) [vI n, vI most, vI wide, vI count, some (.val (.dict ((.none, .int 0) :: fk l))), x5, x6, vI en.1.1, vI en.1.2, some (.val (.list (ms.map PyData.int))), x10, some (.own (.list (((l.take k).map (zH ms)).map zw))), vI (nmI ms en.1.1), vI (nmI ms en.1.2)] = some (.int en.2) := lk
      simp only [gA, zc, v3, Option.bind_some, gNil] at v1 v2 ⊢
      rw [v1, v2]
      rfl)
  refine ⟨y7, y8, y12, y13, ?_⟩
  rw [e]
  have : l.take (0 + ((fk l).map (·.1)).length) = l := by rw [List.take_of_length_le]; unfold fk; simp
  rw [this]
end L2.Y
namespace L2.Y
open PySem
def tri (l : Int × Int × Int) : List Int := [l.1, l.2.1, l.2.2]
def zc4 : List Int → Int × Int × Int
  | [a, b, c] => (a, b, c)
  | _ => (0, 0, 0)
theorem zb2 (l : Int × Int × Int) : zc4 (tri l) = l := rfl
theorem zaS : ∀ ls : List (Int × Int × Int), (ls.map zw).mapM xm = some (ls.map tri)
  | [] => rfl
  | l :: ls => by
    rw [List.map_cons, List.mapM_cons, zaS ls]
    rfl
def wm (ls : List (Int × Int × Int)) : List (Int × Int × Int) := (qx (ls.map tri)).map zc4
theorem km (ls : List (Int × Int × Int)) : (wm ls).map tri = qx (ls.map tri) := by
  unfold wm
  rw [List.map_map]
  have : ∀ k ∈ qx (ls.map tri), (tri ∘ zc4) k = k := fun k hk => by
    obtain ⟨l, _, rfl⟩ := List.mem_map.mp ((qq _).mem_iff.mp hk)
    rfl
  rw [List.map_congr_left this, List.map_id']
theorem zbc (ls : List (Int × Int × Int)) : (wm ls).Perm ls := by
  unfold wm
  have := (qq (ls.map tri)).map zc4
  rw [List.map_map] at this
  have e : (zc4 ∘ tri) = id := funext zb2
  rw [e, List.map_id] at this
  exact this
theorem zeF (ls : List (Int × Int × Int)) (h : ls.length < 64) : zbY (ls.map zw) = some ((wm ls).map zw) := by
  unfold zbY
  rw [zaS, Option.bind_some, if_pos (by simpa using h), ← km, List.map_map]
  rfl
theorem zd9 (ls : List (Int × Int × Int)) : (wm ls).Pairwise fun a b => HT.lexLt (tri b) (tri a) = false := by
  have := qR (ls.map tri)
  rw [← km, List.pairwise_map] at this
  exact this
def Ris (a b : Int × Int × Int) : Prop := a.1 < b.1 ∨ a.1 = b.1 ∧ a.2.1 < b.2.1
theorem zgr {a b : Int × Int × Int} (h : HT.lexLt (tri b) (tri a) = false) (hn : ¬ (a.1 = b.1 ∧ a.2.1 = b.2.1)) : Ris a b := by
  unfold tri at h
  rw [xI] at h
  by_cases e : b.1 = a.1
  · rw [if_pos e, xI] at h
    by_cases e2 : b.2.1 = a.2.1
    · exact absurd ⟨e.symm, e2.symm⟩ hn
    · rw [if_neg e2] at h
      have := of_decide_eq_false h
      exact .inr ⟨e.symm, by omega⟩
  · rw [if_neg e] at h
    have := of_decide_eq_false h
    exact .inl (by omega)
theorem Ris.trans {a b c : Int × Int × Int} (h1 : Ris a b) (h2 : Ris b c) : Ris a c := by
  unfold Ris at *
  omega
structure GoodYard (most wide count : Int) (ls : List (Int × Int × Int)) : Prop where
  c1 : 1 ≤ count
  c2 : count ≤ most
  rng : ∀ l ∈ ls, 0 ≤ l.1 ∧ l.1 < l.2.1 ∧ l.2.1 ≤ count ∧ 1 ≤ l.2.2 ∧ l.2.2 ≤ wide
  ris : ls.Pairwise Ris
  few : (ls.length : Int) ≤ count + 3
  conn : ∀ S : Int → Prop, S 0 → (∀ l ∈ ls, S l.1 ↔ S l.2.1) → ∀ p, 0 ≤ p → p ≤ count → S p
theorem ze4 {c : Nat} {ms : List Int} (h : NamesOk c ms) {i j : Int} (hi : 0 ≤ i) (hi2 : i ≤ c) (hj : 0 ≤ j) (hj2 : j ≤ c) (e : nmI ms i = nmI ms j) : i = j := by
  have hl := h.len
  have a1 : i.toNat < ms.length := by omega
  have a2 : j.toNat < ms.length := by omega
  unfold nmI at e
  have e' : ms[i.toNat] = ms[j.toNat] := by simpa [a1, a2] using e
  have := (List.getElem_inj (h₀ := a1) (h₁ := a2) h.nd).mp e'
  omega
theorem zff {c : Nat} {ms : List Int} (h : NamesOk c ms) {i : Int} (hi : 0 ≤ i) (hi2 : i ≤ c) : 0 ≤ nmI ms i ∧ nmI ms i ≤ c := by
  have hl := h.len
  have a1 : i.toNat < ms.length := by omega
  unfold nmI
  have := h.rng ms[i.toNat] (by simp)
  simpa [a1] using this
theorem zbR {c : Nat} {ms : List Int} (h : NamesOk c ms) : nmI ms 0 = 0 := by
  have := h.zero
  unfold nmI
  rw [List.getD_eq_getElem?_getD]
  show (ms[0]?).getD 0 = 0
  rw [this]; rfl
theorem qV : ∀ (m : Nat) (ms : List Int), ms.Nodup → (∀ x ∈ ms, 0 ≤ x ∧ x < m) → ms.length ≤ m
  | 0, ms, _, h => by
    cases ms with
    | nil => exact Nat.le_refl _
    | cons a r => have := h a List.mem_cons_self; omega
  | m + 1, ms, hn, h => by
    by_cases q : (m : Int) ∈ ms
    · have l1 := List.length_erase_of_mem q
      have := qV m (ms.erase m) (hn.erase _) fun x hx => by
        have h1 := h x (List.mem_of_mem_erase hx)
        have h2 : x ≠ m := fun z => by
          subst z
          exact (List.Nodup.not_mem_erase hn) hx
        push_cast at h1
        omega
      omega
    · have := qV m ms hn fun x hx => by
        have h1 := h x hx
        have h2 : x ≠ m := fun z => q (z ▸ hx)
        push_cast at h1
        omega
      omega
theorem zfr {c : Nat} {ms : List Int} (h : NamesOk c ms) {p : Int} (h1 : 0 ≤ p) (h2 : p ≤ c) : ∃ i : Int, 0 ≤ i ∧ i ≤ c ∧ nmI ms i = p := by
  have hm : p ∈ ms := Classical.byContradiction fun q => by
    have := qV (c + 1) (p :: ms) (List.nodup_cons.mpr ⟨q, h.nd⟩) fun x hx => by
      rcases List.mem_cons.mp hx with z | z
      · subst z; push_cast; omega
      · have := h.rng x z; push_cast; omega
    rw [List.length_cons, h.len] at this
    omega
  obtain ⟨i, hi, e⟩ := List.getElem_of_mem hm
  have hl := h.len
  refine ⟨i, by omega, by omega, ?_⟩
  unfold nmI
  simp [hi, e]
theorem zfT {most wide count : Int} {l : List ((Int × Int) × Int)} {ms : List Int} (c1 : 1 ≤ count) (c2 : count ≤ most) (h : FoundOk count wide l) (hm : NamesOk count.toNat ms) (hl : (l.length : Int) ≤ count + 3) (ht : ∀ p : Int, 1 ≤ p → p ≤ count → ∃ a, (a, p) ∈ l.map (·.1)) : GoodYard most wide count (wm (l.map (zH ms))) := by
  have pm := zbc (l.map (zH ms))
  have hcc : ((count.toNat : Nat) : Int) = count := by omega
  have inl : ∀ {x}, x ∈ wm (l.map (zH ms)) → ∃ e ∈ l, x = zH ms e := fun hx => by
    obtain ⟨e, he, rfl⟩ := List.mem_map.mp (pm.mem_iff.mp hx)
    exact ⟨e, he, rfl⟩
  have ne : ∀ e ∈ l, nmI ms e.1.1 ≠ nmI ms e.1.2 := fun e he z => by
    obtain ⟨r1, r2, r3, _⟩ := h.rng e he
    have := ze4 hm r1 (by omega) (by omega) (by omega) z
    omega
  refine ⟨c1, c2, fun x hx => ?_, ?_, by rw [pm.length_eq, List.length_map]; exact hl, fun S s0 hS p p1 p2 => ?_⟩
  · obtain ⟨e, he, rfl⟩ := inl hx
    obtain ⟨r1, r2, r3, r4, r5⟩ := h.rng e he
    have n1 := zff hm r1 (by omega)
    have n2 := zff hm (i := e.1.2) (by omega) (by omega)
    have := ne e he
    unfold zH
    refine ⟨?_, ?_, ?_, r4, r5⟩ <;> simp only <;> omega
  · have ndp : ((l.map (zH ms)).map fun x => (x.1, x.2.1)).Nodup := by
      rw [List.map_map]
      have hnd := h.nd
      rw [List.Nodup, List.pairwise_map] at hnd ⊢
      refine hnd.imp_of_mem fun {a b} ha hb hab z => hab ?_
      obtain ⟨r1, r2, r3, _⟩ := h.rng a ha
      obtain ⟨t1, t2, t3, _⟩ := h.rng b hb
      have z1 : min (nmI ms a.1.1) (nmI ms a.1.2) = min (nmI ms b.1.1) (nmI ms b.1.2) := congrArg Prod.fst z
      have z2 : max (nmI ms a.1.1) (nmI ms a.1.2) = max (nmI ms b.1.1) (nmI ms b.1.2) := congrArg Prod.snd z
      have go : ∀ {i j}, nmI ms i = nmI ms j → 0 ≤ i → i ≤ count → 0 ≤ j → j ≤ count → i = j := fun e a1 a2 b1 b2 => ze4 hm a1 (by omega) b1 (by omega) e
      by_cases q1 : nmI ms a.1.1 = nmI ms b.1.1
      · have q2 : nmI ms a.1.2 = nmI ms b.1.2 := by omega
        exact Prod.ext (go q1 r1 (by omega) t1 (by omega)) (go q2 (by omega) (by omega) (by omega) (by omega))
      · have q2 : nmI ms a.1.1 = nmI ms b.1.2 := by omega
        have q3 : nmI ms a.1.2 = nmI ms b.1.1 := by omega
        have w1 := go q2 r1 (by omega) (by omega) (by omega)
        have w2 := go q3 (by omega) (by omega) t1 (by omega)
        omega
    have ndp' : ((wm (l.map (zH ms))).map fun x => (x.1, x.2.1)).Nodup := (pm.map _).nodup_iff.mpr ndp
    rw [List.Nodup, List.pairwise_map] at ndp'
    exact ((zd9 (l.map (zH ms))).and ndp').imp fun {a b} ⟨h1, h2⟩ => zgr h1 fun z => h2 (Prod.ext z.1 z.2)
  · have key : ∀ k : Nat, ∀ q : Int, 0 ≤ q → q ≤ count → q ≤ k → S (nmI ms q) := by
      intro k
      induction k with
      | zero =>
        intro q q0 q1 q2
        have : q = 0 := by omega
        subst this
        rw [zbR hm]; exact s0
      | succ k ih =>
        intro q q0 q1 q2
        by_cases hq : q = 0
        · subst hq; rw [zbR hm]; exact s0
        · obtain ⟨a, ha⟩ := ht q (by omega) q1
          obtain ⟨e, he, ee⟩ := List.mem_map.mp ha
          obtain ⟨r1, r2, r3, _⟩ := h.rng e he
          have e1 : e.1.1 = a := congrArg Prod.fst ee
          have e2 : e.1.2 = q := congrArg Prod.snd ee
          have hx : zH ms e ∈ wm (l.map (zH ms)) := pm.mem_iff.mpr (List.mem_map.mpr ⟨e, he, rfl⟩)
          have iff := hS _ hx
          have prev := ih a (by omega) (by omega) (by push_cast at q2; omega)
          unfold zH at iff
          simp only at iff
          rw [e1, e2] at iff
          by_cases lt : nmI ms a ≤ nmI ms q
          · rw [Int.min_eq_left lt, Int.max_eq_right lt] at iff
            exact iff.mp prev
          · rw [Int.min_eq_right (by omega), Int.max_eq_left (by omega)] at iff
            exact iff.mpr prev
    obtain ⟨i, i1, i2, i3⟩ := zfr hm p1 (by omega)
    rw [← i3]
    exact key i.toNat i i1 (by omega) (by omega)
end L2.Y
namespace L2.Y
open PySem
theorem zl {g h : GS} {ρ ρ' : Env'} (e : g ρ = some (.nxt ρ')) : sSeq g h ρ = h ρ' := by
  unfold sSeq
  rw [e]
  rfl
theorem zej {g h : GS} {ρ : Env'} {d : D} (e : g ρ = some (.ret d)) : sSeq g h ρ = some (.ret d) := by
  unfold sSeq
  rw [e]
  rfl
theorem jc {n : Nat} {g : GS} {ds : List D} {d : D} (e : g (qP n ds) = some (.ret d)) : qk n g ds = some d := by
  unfold qk
  rw [e]
  rfl
theorem ju {g : Env' → Option (List D)} {h : GT} {gb : GS} {ρ : Env'} {ds : List D} {o : Option Out} (e : g ρ = some ds) (e2 : forF h gb ds ρ = o) : sFor g h gb ρ = o := by
  unfold sFor
  rw [e, Option.bind_some]
  exact e2
theorem wF {i j : Int} (h1 : -(2 ^ 62) ≤ i) (h2 : i < 2 ^ 62) (h3 : -(2 ^ 62) ≤ j) (h4 : j < 2 ^ 62) : wl [.int i, .int j] = some (zu i (j - i).toNat) := if_pos ⟨h1, h2, h3, h4⟩
theorem vE {j : Int} (h3 : -(2 ^ 62) ≤ j) (h4 : j < 2 ^ 62) : wq [.int j] = some (zu 0 j.toNat) := if_pos ⟨h3, h4⟩
theorem zf4 (n most wide : Int) (hm1 : 1 ≤ most) (hm2 : most ≤ 50) (hw : 1 ≤ wide) : ∃ count ls, F_law_yard [.int n, .int most, .int wide] = some (zO count ls) ∧ GoodYard most wide count ls := by
  have hm0 : 0 < most := by omega
  have c0 := Int.emod_nonneg n (b := most) (by omega)
  have c9 := Int.emod_lt_of_pos n (b := most) hm0
  obtain ⟨count, hc⟩ : ∃ count, count = 1 + n % most := ⟨_, rfl⟩
  have t0 := Int.emod_nonneg (n / 7) (b := 4) (by omega)
  have t9 := Int.emod_lt_of_pos (n / 7) (b := 4) (by omega)
  obtain ⟨l1, x5, e1, f1, f2, f3⟩ := zbx n most wide count hw (by omega) (by omega)
  obtain ⟨l, x6, x7, x8, e2, g1, g2', g3⟩ := zbh n most wide count hw (by omega) (by omega) (n / 7 % 4).toNat (by omega) l1 x5 f1 f3
  obtain ⟨ms, y5, x10, e3, hms⟩ := zbz n most wide count (by omega) (by omega) (dT l) x5 x6 x7 x8
  obtain ⟨y7, y8, y12, y13, e4⟩ := zbn n most wide count (by omega) l (by omega) g1 ms hms y5 x6 x7 x8 x10
  have hle : (l.length : Int) ≤ count + 3 := by omega
  refine ⟨count, wm (l.map (zH ms)), ?_, zfT (by omega) (by omega) g1 hms hle fun p p1 p2 => let ⟨a, ha⟩ := f2 p p1 p2; ⟨a, g2' _ ha⟩⟩
  unfold F_law_yard
  refine jc ?_
  show wa [vI n, vI most, vI wide, none, none, none, none, none, none, none, none, none, none, none] = _
  unfold wa
  rw [zl (ρ' := [vI n, vI most, vI wide, vI count, none, none, none, none, none, none, none, none, none, none]) (by
    show ((modD (.int n) (.int most)).bind fun y => addD (.int 1) y).bind _ = _
    rw [zJ hm0, Option.bind_some, zD, Option.bind_some, hc]
    rfl)]
  rw [zl (ρ' := [vI n, vI most, vI wide, vI count, dT [], none, none, none, none, none, none, none, none, none]) rfl]
  rw [zl (ju (ds := zu 1 count.toNat) (by
    show wl [.int 1, .int (count + 1)] = _
    rw [wF (by decide) (by decide) (by omega) (by omega)]
    congr 2
    omega) e1)]
  rw [zl (ju (ds := zu 0 (n / 7 % 4).toNat) (by
    show ((((zdS (.int n) (.int 7)).bind fun x => modD x (.int 4)).bind fun x => (some [x] : Option (List D))).bind wq) = _
    rw [zcO (by decide) (by decide), Option.bind_some, zJ (by decide), Option.bind_some, Option.bind_some, vE (by omega) (by omega)]) e2)]
  rw [zl (ρ' := [vI n, vI most, vI wide, vI count, dT l, x5, x6, x7, x8, some (.val (.list [.int 0])), none, none, none, none]) rfl]
  rw [zl (ju (ds := zu 1 count.toNat) (by
    show wl [.int 1, .int (count + 1)] = _
    rw [wF (by decide) (by decide) (by omega) (by omega)]
    congr 2
    omega) e3)]
  rw [zl (ρ' := [vI n, vI most, vI wide, vI count, dT l, y5, x6, x7, x8, some (.val (.list (ms.map PyData.int))), x10, some (.own (.list [])), none, none]) rfl]
  rw [zl (ρ' := [vI n, vI most, vI wide, vI count, some (.val (.dict ((.none, .int 0) :: fk l))), y5, x6, y7, y8, some (.val (.list (ms.map PyData.int))), x10, some (.own (.list ((l.map (zH ms)).map zw))), y12, y13]) (by
    show sFor _ _ _ [vI n, vI most, vI wide, vI count, some (.val (.dict ((.none, .int 0) :: fk l))), y5, x6, x7, x8, some (.val (.list (ms.map PyData.int))), x10, some (.own (.list [])), none, none] = _
    exact ju (ds := (fk l).map (·.1)) rfl e4)]
  have es : vN [.list ((l.map (zH ms)).map zw)] = some ((wm (l.map (zH ms))).map zw) := zeF _ (by simp; omega)
  generalize hr : ([vI n, vI most, vI wide, vI count, some (.val (.dict ((.none, .int 0) :: fk l))), y5, x6, y7, y8, some (.val (.list (ms.map PyData.int))), x10, some (.own (.list ((l.map (zH ms)).map zw))), y12, y13] : Env') = ρ
  have v3 : gVar 3 ρ = some (.int count) := by rw [← hr]; rfl
  have v11 : qj 11 ρ = some (.list ((l.map (zH ms)).map zw)) := by rw [← hr]; rfl
  simp only [sRet, gA, zc, gNil, gLs, gItL, v3, v11, Option.bind_some, es, Option.map_some]
  rfl
end L2.Y
namespace L2.Y
open PySem
def LkOk (c : Int) (l : Int × Int × Int) : Prop := 0 ≤ l.1 ∧ l.1 < l.2.1 ∧ l.2.1 ≤ c ∧ 1 ≤ l.2.2 ∧ l.2.2 ≤ 4
def pairD (l : Int × Int × Int) : D := .tuple [.int l.1, .int l.2.1]
theorem zeD (l : Int × Int × Int) : slD (zw l) none (some 2) = some (pairD l) := rfl
theorem zbq (ds : List D) : seqD (.tuple ds) = some ds := rfl
def unlink : D → Int × Int × Int
  | .tuple [.int a, .int b, .int m] => (a, b, m)
  | _ => (0, 0, 0)
theorem zcL (l : List Int) : yv (l.map PyData.int) = some l := by
  induction l with
  | nil => rfl
  | cons x l ih =>
    unfold yv at ih ⊢
    rw [List.map_cons, List.mapM_cons, ih]
    rfl
theorem xJ (l : List Int) : sumD [.list (l.map PyData.int)] = some (.int l.sum) := by
  show (yv _).map _ = _
  rw [zcL]
  rfl
theorem zdg (ls : List (Int × Int × Int)) (p : Int × Int × Int → Bool) : sumD [.list (((ls.map zw).filter fun d => p (unlink d)).map fun d => .int (unlink d).2.2)] = some (.int ((ls.filter p).map (·.2.2)).sum) := by
  have e : ((ls.map zw).filter fun d => p (unlink d)).map (fun d => PyData.int (unlink d).2.2) = ((ls.filter p).map (·.2.2)).map PyData.int := by
    rw [List.filter_map, List.map_map, List.map_map]
    rfl
  rw [e, xJ]
theorem zay (c : Int) (ls : List (Int × Int × Int)) : ixD (zO c ls) (.int 1) = some (.tuple (ls.map zw)) := rfl
theorem vQ (c : Int) (ls : List (Int × Int × Int)) : ixD (zO c ls) (.int 0) = some (.int c) := rfl
def jy (ls : List (Int × Int × Int)) (p : Int) : Int := ((ls.filter fun l => decide (l.1 = p) || decide (l.2.1 = p)).map (·.2.2)).sum
theorem qB (ds : List D) : xj [.list ds] = some (.tuple ds) := rfl
def wb (c : Int) (ls : List (Int × Int × Int)) : List Int := (List.range c.toNat).map fun (k : Nat) => jy ls (1 + k)
theorem zal (a b : Int) : SeqAt.shaped (.tuple [.int a, .int b]) = true := by simp [SeqAt.shaped, PyData.canLay0, PyData.canLayAll0, PyData.depth, PyData.depthAll]
def zb (ls : List (Int × Int × Int)) (a b : Int) : Int := ((ls.filter fun l => !decide (l.1 = l.2.1) && ((decide (a = l.1) && decide (b = l.2.1)) || (decide (b = l.1) && decide (a = l.2.1)))).map (·.2.2)).sum
theorem zad {α : Type} (f g : α → Int) : ∀ l : List α, (l.map fun x => f x + g x).sum = (l.map f).sum + (l.map g).sum
  | [] => rfl
  | x :: l => by simp only [List.map_cons, List.sum_cons, zad f g l]; omega
theorem wA {α : Type} (l : List α) : (l.map fun _ => (0 : Int)).sum = 0 := by
  induction l with
  | nil => rfl
  | cons x l ih => simp only [List.map_cons, List.sum_cons, ih]; rfl
theorem zcu (n : Nat) (q m : Int) : ((List.range n).map fun (k : Nat) => if (k : Int) = q then m else 0).sum = if 0 ≤ q ∧ q < n then m else 0 := by
  induction n with
  | zero => rw [if_neg (by omega)]; rfl
  | succ n ih =>
    rw [List.range_succ, List.map_append, List.sum_append, ih]
    simp only [List.map_cons, List.map_nil, List.sum_cons, List.sum_nil]
    by_cases h : (n : Int) = q
    · rw [if_pos h, if_neg (by omega), if_pos (by omega)]; omega
    · rw [if_neg h]
      by_cases h2 : 0 ≤ q ∧ q < (n : Int)
      · rw [if_pos h2, if_pos (by omega)]; omega
      · rw [if_neg h2, if_neg (by omega)]; rfl
theorem wX (l : Int × Int × Int) (ls : List (Int × Int × Int)) (a b : Int) (h : l.1 < l.2.1) : zb (l :: ls) a b = (if (a = l.1 ∧ b = l.2.1) ∨ (b = l.1 ∧ a = l.2.1) then l.2.2 else 0) + zb ls a b := by
  unfold zb
  rw [List.filter_cons]
  by_cases q : (a = l.1 ∧ b = l.2.1) ∨ (b = l.1 ∧ a = l.2.1)
  · have : (!decide (l.1 = l.2.1) && ((decide (a = l.1) && decide (b = l.2.1)) || (decide (b = l.1) && decide (a = l.2.1)))) = true := by
      simp only [Bool.and_eq_true, Bool.or_eq_true, Bool.not_eq_true', decide_eq_true_eq, decide_eq_false_iff_not]
      exact ⟨by omega, q⟩
    rw [this, if_pos rfl, if_pos q, List.map_cons, List.sum_cons]
  · have : (!decide (l.1 = l.2.1) && ((decide (a = l.1) && decide (b = l.2.1)) || (decide (b = l.1) && decide (a = l.2.1)))) = false := by
      rw [← Bool.not_eq_true]
      intro z
      simp only [Bool.and_eq_true, Bool.or_eq_true, Bool.not_eq_true', decide_eq_true_eq, decide_eq_false_iff_not] at z
      exact q z.2
    rw [this, if_neg q]
    simp
theorem zcD (l : Int × Int × Int) (ls : List (Int × Int × Int)) (p : Int) : jy (l :: ls) p = (if l.1 = p ∨ l.2.1 = p then l.2.2 else 0) + jy ls p := by
  unfold jy
  rw [List.filter_cons]
  by_cases q : l.1 = p ∨ l.2.1 = p
  · have : (decide (l.1 = p) || decide (l.2.1 = p)) = true := by
      simpa using q
    rw [this, if_pos rfl, if_pos q, List.map_cons, List.sum_cons]
  · have : (decide (l.1 = p) || decide (l.2.1 = p)) = false := by
      rw [← Bool.not_eq_true]
      intro z
      exact q (by simpa using z)
    rw [this, if_neg q]
    simp
theorem jg {c : Int} (hc : 0 ≤ c) (p : Int) : ∀ {ls : List (Int × Int × Int)}, (∀ l ∈ ls, LkOk c l) → ((List.range (c.toNat + 1)).map fun (k : Nat) => zb ls p k).sum = jy ls p
  | [], _ => by
    have : (fun (k : Nat) => zb [] p k) = fun _ => (0 : Int) := rfl
    rw [this, wA]
    rfl
  | l :: ls, h => by
    obtain ⟨h1, h2, h3, _⟩ := h l List.mem_cons_self
    have ih := jg hc p (ls := ls) fun x hx => h x (List.mem_cons_of_mem _ hx)
    have e : (fun (k : Nat) => zb (l :: ls) p k) = fun (k : Nat) => (if (p = l.1 ∧ (k : Int) = l.2.1) ∨ ((k : Int) = l.1 ∧ p = l.2.1) then l.2.2 else 0) + zb ls p k := funext fun k => wX l ls p k h2
    rw [e, zad, ih, zcD]
    congr 1
    by_cases q1 : l.1 = p
    · have e2 : (fun (k : Nat) => if (p = l.1 ∧ (k : Int) = l.2.1) ∨ ((k : Int) = l.1 ∧ p = l.2.1) then l.2.2 else 0) = fun (k : Nat) => if (k : Int) = l.2.1 then l.2.2 else 0 := funext fun k => by
        by_cases z : (k : Int) = l.2.1
        · rw [if_pos z, if_pos (.inl ⟨q1.symm, z⟩)]
        · rw [if_neg z, if_neg (by omega)]
      rw [e2, zcu, if_pos (by omega), if_pos (Or.inl q1)]
    · by_cases q2 : l.2.1 = p
      · have e2 : (fun (k : Nat) => if (p = l.1 ∧ (k : Int) = l.2.1) ∨ ((k : Int) = l.1 ∧ p = l.2.1) then l.2.2 else 0) = fun (k : Nat) => if (k : Int) = l.1 then l.2.2 else 0 := funext fun k => by
          by_cases z : (k : Int) = l.1
          · rw [if_pos z, if_pos (.inr ⟨z, q2.symm⟩)]
          · rw [if_neg z, if_neg (by omega)]
        rw [e2, zcu, if_pos (by omega), if_pos (Or.inr q2)]
      · have e2 : (fun (k : Nat) => if (p = l.1 ∧ (k : Int) = l.2.1) ∨ ((k : Int) = l.1 ∧ p = l.2.1) then l.2.2 else 0) = fun (_ : Nat) => (0 : Int) := funext fun k => by
          rw [if_neg (by omega)]
        rw [e2, wA, if_neg (by omega)]
end L2.Y
namespace L2.Y
open PySem
theorem zem (x y a b : Int) : inD (.tuple [.int x, .int y]) (.tuple [.tuple [.int a, .int b], .tuple [.int b, .int a]]) = some (.bool ((decide (a = x) && decide (b = y)) || (decide (b = x) && decide (a = y)))) := by
  show (if (([.tuple [.int a, .int b], .tuple [.int b, .int a]] : List D).all SeqAt.shaped && SeqAt.shaped (.tuple [.int x, .int y])) = true then some (([.tuple [.int a, .int b], .tuple [.int b, .int a]] : List D).any fun z => PyData.eqv z (.tuple [.int x, .int y])) else none).map _ = _
  rw [if_pos (by simp [zal])]
  simp only [List.any_cons, List.any_nil, PyData.eqv, PyData.eqvAll, Option.map_some, Bool.or_false, Bool.and_true]
  rfl
theorem xi (c a b : Int) (ls : List (Int × Int × Int)) (h : ls.length ≤ 1000) : F_law_between [zO c ls, .int a, .int b] = some (.int (zb ls a b)) := by
  unfold F_law_between
  refine jc ?_
  show qA [some (.val (zO c ls)), vI a, vI b] = _
  unfold qA
  refine qT (zW (zd (qd (jF (qa (zE (x := zO c ls) rfl ji (zay c ls)) (zbq _)) (by simp; omega) (vj (fun d => !decide ((unlink d).1 = (unlink d).2.1) && ((decide (a = (unlink d).1) && decide (b = (unlink d).2.1)) || (decide (b = (unlink d).1) && decide (a = (unlink d).2.1)))) (fun d => .int (unlink d).2.2) _ fun d hd => ?_))) zj) (zdg ls fun l => !decide (l.1 = l.2.1) && ((decide (a = l.1) && decide (b = l.2.1)) || (decide (b = l.1) && decide (a = l.2.1)))))
  obtain ⟨l, _, rfl⟩ := List.mem_map.mp hd
  refine ⟨[vI l.1, vI l.2.1, vI l.2.2, vI a, vI b], rfl, zaX (qE (zE (x := .int l.1) rfl (y := .int l.2.1) rfl (zc8 l.1 l.2.1))) (fun _ => qE (zE (x := .tuple [.int l.1, .int l.2.1]) rfl (y := .tuple [.tuple [.int a, .int b], .tuple [.int b, .int a]]) rfl (zem l.1 l.2.1 a b))), fun _ => rfl⟩
theorem vW (c : Int) (h0 : 0 ≤ c) (h9 : c ≤ 1000) (ls : List (Int × Int × Int)) (h : ls.length ≤ 1000) (hl : ∀ l ∈ ls, LkOk c l) : F_law_sizes [zO c ls] = some (.list ((wb c ls).map PyData.int)) := by
  have er1 : wq [.int (c + 1)] = some (zu 0 (c.toNat + 1)) := by
    rw [vE (by omega) (by omega)]
    congr 2
    omega
  have er2 : wl [.int 1, .int (c + 1)] = some (zu 1 c.toNat) := by
    rw [wF (by decide) (by decide) (by omega) (by omega)]
    congr 2
    omega
  obtain ⟨ρ', e, x2, rfl⟩ := qe (h := hName 2) (gb := qC) (fun i ρ => ∃ x2, ρ = [some (.val (zO c ls)), some (.own (.list (((List.range i).map fun (k : Nat) => jy ls (1 + k)).map PyData.int))), x2])
    (zu 1 c.toNat) 0 [some (.val (zO c ls)), some (.own (.list [])), none] ⟨none, rfl⟩ (fun k d ρ hk ⟨x2, hr⟩ => by
      obtain ⟨hlt, rfl⟩ := qv hk
      subst hr
      rw [Nat.zero_add]
      refine ⟨[some (.val (zO c ls)), some (.own (.list (((List.range k).map fun (k : Nat) => jy ls (1 + k)).map PyData.int))), vI (1 + k)], _, rfl, ?_, vI (1 + k), rfl⟩
      have es : ((List.range (k + 1)).map fun (k : Nat) => jy ls (1 + k)).map PyData.int = ((List.range k).map fun (k : Nat) => jy ls (1 + k)).map PyData.int ++ [.int (jy ls (1 + k))] := by
        rw [List.range_succ, List.map_append, List.map_append]
        rfl
      rw [es]
      unfold qC
      refine xy ?_ rfl (by simp; omega)
      have ec : xX (hName 0) xQ (gA (zS 3 F_law_between) (zc (gVar 1) (zc (gVar 2) (zc (gVar 0) gNil)))) (capS 1 [0, 2] [some (.val (zO c ls)), some (.own (.list (((List.range k).map fun (k : Nat) => jy ls (1 + k)).map PyData.int))), vI (1 + k)]) (zu 0 (c.toNat + 1)) = some ((zu 0 (c.toNat + 1)).map fun d => match d with | .int j => .int (zb ls (1 + k) j) | d => d) :=
        zck _ _ fun d hd => by
          obtain ⟨j, hj, rfl⟩ := zbv hd
          exact ⟨[vI (0 + j), some (.val (zO c ls)), vI (1 + k)], rfl, zW (zd (x := zO c ls) rfl (zd (x := .int (1 + k)) rfl (zd (x := .int (0 + j)) rfl zj))) (by rw [zaV]; exact xi c (1 + k) (0 + j) ls h)⟩
      refine zW (zd (qd (jF (xo (zd (zE (zE (x := zO c ls) rfl ji (vQ c ls)) ji (zD c 1)) zj) er1) (by rw [jT]; omega) ec)) zj) ?_
      have ed : (zu 0 (c.toNat + 1)).map (fun d => match d with | .int j => PyData.int (zb ls (1 + k) j) | d => d) = ((List.range (c.toNat + 1)).map fun (j : Nat) => zb ls (1 + k) j).map PyData.int := by
        unfold zu
        rw [List.map_map, List.map_map]
        apply List.map_congr_left
        intro j _
        show PyData.int (zb ls (1 + k) (0 + j)) = PyData.int (zb ls (1 + k) j)
        rw [Int.zero_add]
      rw [ed, xJ, jg h0 (1 + k) hl])
  unfold F_law_sizes
  refine jc ?_
  show xu [some (.val (zO c ls)), none, none] = _
  unfold xu
  rw [zl (ρ' := [some (.val (zO c ls)), some (.own (.list [])), none]) rfl]
  rw [zl (ju (ds := zu 1 c.toNat) (xo (zd ji (zd (zE (zE (x := zO c ls) rfl ji (vQ c ls)) ji (zD c 1)) zj)) er2) e)]
  rw [jT, Nat.zero_add]
  rfl
end L2.Y
namespace L2.Y
open PySem
abbrev L3 := Int × Int × Int
def ja (ks : List Int) (l : L3) : List Int := if l.1 ∈ ks then (if l.2.1 ∈ ks then ks else ks ++ [l.2.1]) else if l.2.1 ∈ ks then ks ++ [l.1] else ks
def zV (ls : List L3) : Nat → List Int → List Int
  | 0, ks => ks
  | n + 1, ks => zV ls n (ls.foldl ja ks)
theorem zcS : ∀ (m : Nat) (ks : List Int), (∀ i : Nat, i < m → (i : Int) ∈ ks) → m ≤ ks.length
  | 0, _, _ => Nat.zero_le _
  | m + 1, ks, h => by
    have hm := h m (by omega)
    have := zcS m (ks.erase (m : Int)) fun i hi => (List.mem_erase_of_ne (by omega)).mpr (h i (by omega))
    rw [List.length_erase_of_mem hm] at this
    have : 0 < ks.length := List.length_pos_of_mem hm
    omega
structure Rch (c : Int) (ks : List Int) : Prop where
  nd : ks.Nodup
  rg : ∀ k ∈ ks, 0 ≤ k ∧ k ≤ c
  z : 0 ∈ ks
section
variable {c : Int} {ks : List Int} {l : L3}
theorem Rch.more (h : Rch c ks) {k : Int} (hk : k ∉ ks) (h0 : 0 ≤ k) (h1 : k ≤ c) : Rch c (ks ++ [k]) := by
  refine ⟨?_, ?_, List.mem_append_left _ h.z⟩
  · rw [List.nodup_append]
    refine ⟨h.nd, by simp, fun a ha b hb => ?_⟩
    rw [List.mem_singleton.mp hb]
    rintro rfl
    exact hk ha
  · intro x hx
    rcases List.mem_append.mp hx with hx | hx
    · exact h.rg x hx
    · rw [List.mem_singleton.mp hx]; exact ⟨h0, h1⟩
def InL (c : Int) (l : L3) : Prop := 0 ≤ l.1 ∧ l.1 < l.2.1 ∧ l.2.1 ≤ c
theorem zbX (h : Rch c ks) (hl : InL c l) : Rch c (ja ks l) := by
  obtain ⟨h1, h2, h3⟩ := hl
  unfold ja
  split
  · split
    · exact h
    · rename_i q; exact h.more q (by omega) h3
  · rename_i q
    split
    · exact h.more q h1 (by omega)
    · exact h
theorem za5 : ks.length ≤ (ja ks l).length := by
  unfold ja
  split
  · split <;> simp
  · split <;> simp
theorem zeh (h : (ja ks l).length = ks.length) : ja ks l = ks ∧ (l.1 ∈ ks ↔ l.2.1 ∈ ks) := by
  unfold ja at h ⊢
  by_cases p : l.1 ∈ ks <;> by_cases q : l.2.1 ∈ ks <;> simp [p, q] at h ⊢
theorem vm : ∀ (ls : List L3) {ks : List Int}, Rch c ks → (∀ l ∈ ls, InL c l) → Rch c (ls.foldl ja ks)
  | [], _, h, _ => h
  | l :: ls, _, h, hl => vm ls (zbX h (hl l List.mem_cons_self)) fun x hx => hl x (List.mem_cons_of_mem _ hx)
theorem vp : ∀ (ls : List L3) (ks : List Int), ks.length ≤ (ls.foldl ja ks).length
  | [], _ => Nat.le_refl _
  | l :: ls, ks => Nat.le_trans (za5 (l := l)) (vp ls (ja ks l))
theorem zdl : ∀ (ls : List L3) (ks : List Int), (ls.foldl ja ks).length = ks.length → ∀ l ∈ ls, (l.1 ∈ ks ↔ l.2.1 ∈ ks)
  | [], _, _, l, hl => absurd hl (by simp)
  | m :: ls, ks, h, l, hl => by
    rw [List.foldl_cons] at h
    have a := vp ls (ja ks m)
    have b := za5 (ks := ks) (l := m)
    obtain ⟨e, q⟩ := zeh (ks := ks) (l := m) (by omega)
    rcases List.mem_cons.mp hl with rfl | hl
    · exact q
    · rw [e] at h
      exact zdl ls ks h l hl
def Conn (c : Int) (ls : List L3) : Prop := ∀ S : Int → Prop, S 0 → (∀ l ∈ ls, S l.1 ↔ S l.2.1) → ∀ p, 0 ≤ p → p ≤ c → S p
theorem kb {ls : List L3} (hc : 0 ≤ c) (hl : ∀ l ∈ ls, InL c l) (conn : Conn c ls) :
    ∀ (n : Nat) (ks : List Int), Rch c ks → ((ks.length : Int) + n ≤ (zV ls n ks).length ∨ c + 1 ≤ (zV ls n ks).length)
  | 0, ks, h => .inl (by show (ks.length : Int) + 0 ≤ ks.length; omega)
  | n + 1, ks, h => by
    have ih := kb hc hl conn n (ls.foldl ja ks) (vm ls h hl)
    show ((ks.length : Int) + (n + 1 : Nat) ≤ (zV ls n (ls.foldl ja ks)).length ∨ _)
    have g := vp ls ks
    by_cases e : (ls.foldl ja ks).length = ks.length
    · right
      have all := conn (· ∈ ks) h.z (zdl ls ks e)
      have m := zcS (c.toNat + 1) ks fun i hi => all i (by omega) (by omega)
      have : ∀ (n : Nat) (ks : List Int), ks.length ≤ (zV ls n ks).length := fun n => by
        induction n with
        | zero => exact fun ks => Nat.le_refl _
        | succ n ih => exact fun ks => Nat.le_trans (vp ls ks) (ih _)
      have t := this n (ls.foldl ja ks)
      show c + 1 ≤ ((zV ls n (ls.foldl ja ks)).length : Int)
      omega
    · rcases ih with q | q
      · left; omega
      · exact .inr q
theorem kc {ls : List L3} (hl : ∀ l ∈ ls, InL c l) : ∀ (n : Nat) (ks : List Int), Rch c ks → Rch c (zV ls n ks)
  | 0, _, h => h
  | n + 1, ks, h => kc hl n _ (vm ls h hl)
theorem zbO {S : Int → Prop} : ∀ (ls : List L3) (ks : List Int), (∀ l ∈ ls, S l.1 ↔ S l.2.1) → (∀ k ∈ ks, S k) → ∀ k ∈ ls.foldl ja ks, S k
  | [], _, _, h => h
  | l :: ls, ks, hl, h => zbO ls (ja ks l) (fun x hx => hl x (List.mem_cons_of_mem _ hx)) (by
    have q := hl l List.mem_cons_self
    intro k hk
    unfold ja at hk
    split at hk
    · split at hk
      · exact h k hk
      · rcases List.mem_append.mp hk with hk | hk
        · exact h k hk
        · rw [List.mem_singleton.mp hk]; exact q.mp (h _ (by assumption))
    · split at hk
      · rcases List.mem_append.mp hk with hk | hk
        · exact h k hk
        · rw [List.mem_singleton.mp hk]; exact q.mpr (h _ (by assumption))
      · exact h k hk)
theorem zaA {S : Int → Prop} {ls : List L3} (hl : ∀ l ∈ ls, S l.1 ↔ S l.2.1) : ∀ (n : Nat) (ks : List Int), (∀ k ∈ ks, S k) → ∀ k ∈ zV ls n ks, S k
  | 0, _, h => h
  | n + 1, ks, h => zaA hl n _ (zbO ls ks hl h)
theorem rch0 (hc : 0 ≤ c) : Rch c [0] := ⟨by simp, fun k hk => by rw [List.mem_singleton.mp hk]; omega, by simp⟩
theorem zc6 {n : Nat} {ls : List L3} (hl : ∀ l ∈ ls, InL n l) : (zV ls n [0]).length = n + 1 ↔ Conn n ls := by
  have r := kc hl n [0] (rch0 (by omega))
  have u := qV (n + 1) (zV ls n [0]) r.nd fun x hx => by have := r.rg x hx; omega
  constructor
  · intro h S h0 hS p p0 p1
    refine zaA hS n [0] (fun k hk => by rw [List.mem_singleton.mp hk]; exact h0) p ?_
    apply Classical.byContradiction
    intro hp
    have := qV (n + 1) (p :: zV ls n [0]) (List.nodup_cons.mpr ⟨hp, r.nd⟩) fun x hx => by
      rcases List.mem_cons.mp hx with rfl | hx
      · omega
      · have := r.rg x hx; omega
    rw [List.length_cons] at this
    omega
  · intro h
    rcases kb (c := n) (by omega) hl h n [0] (rch0 (by omega)) with q | q
    · simp only [List.length_singleton] at q; omega
    · omega
end
def jK (G : Int → Int) (a b : Int) : Int → Int := fun x => if G x = G b then G a else G x
def grp (r : List L3) (G : Int → Int) : Int → Int := r.foldl (fun G l => jK G l.1 l.2.1) G
def acS : List L3 → (Int → Int) → Bool
  | [], _ => true
  | l :: r, G => !decide (G l.1 = G l.2.1) && acS r (jK G l.1 l.2.1)
theorem zdD (r : List L3) (l : L3) (G : Int → Int) : grp (r ++ [l]) G = jK (grp r G) l.1 l.2.1 := by
  unfold grp; rw [List.foldl_append]; rfl
theorem za0 : ∀ (r : List L3) (l : L3) (G : Int → Int), acS (r ++ [l]) G = (acS r G && !decide (grp r G l.1 = grp r G l.2.1))
  | [], l, G => by
    show (!decide (G l.1 = G l.2.1) && true) = (true && !decide (G l.1 = G l.2.1))
    rw [Bool.and_true, Bool.true_and]
  | m :: r, l, G => by
    show (!decide (G m.1 = G m.2.1) && acS (r ++ [l]) (jK G m.1 m.2.1)) = (!decide (G m.1 = G m.2.1) && acS r (jK G m.1 m.2.1) && _)
    rw [za0 r l, Bool.and_assoc]
    rfl
structure GI (n : Int) (G : Int → Int) : Prop where
  rg : ∀ x, 0 ≤ x → x ≤ n → 0 ≤ G x ∧ G x ≤ n
  idm : ∀ x, 0 ≤ x → x ≤ n → G (G x) = G x
theorem zb5 (n : Int) : GI n fun x => x := ⟨fun _ h0 h1 => ⟨h0, h1⟩, fun _ _ _ => rfl⟩
theorem kY {n : Int} {G : Int → Int} (g : GI n G) {a b : Int} (ha : 0 ≤ a ∧ a ≤ n) (hb : 0 ≤ b ∧ b ≤ n) : GI n (jK G a b) := by
  constructor
  · intro x h0 h1
    unfold jK
    split
    · exact g.rg a ha.1 ha.2
    · exact g.rg x h0 h1
  · intro x h0 h1
    have ra := g.idm a ha.1 ha.2
    have rb := g.idm b hb.1 hb.2
    have rx := g.idm x h0 h1
    unfold jK
    by_cases q : G x = G b
    · simp only [q, if_true]
      split <;> simp_all
    · simp only [q, if_false, rx]
theorem zdu {G : Int → Int} {a b : Int} (h : G a = G b) : jK G a b = G := by
  funext x
  unfold jK
  split
  · rename_i q; rw [h, q]
  · rfl
def fx (n : Nat) (G : Int → Int) : Nat := ((List.range (n + 1)).filter fun (k : Nat) => decide (G k = k)).length
theorem xH {P : Nat → Bool} {B : Nat} (hB : P B = true) : ∀ l : List Nat, l.Nodup → B ∈ l → (l.filter fun k => P k && !decide (k = B)).length + 1 = (l.filter P).length
  | [], _, h => absurd h (by simp)
  | k :: l, nd, h => by
    have nd' := List.nodup_cons.mp nd
    by_cases e : k = B
    · subst e
      have : l.filter (fun j => P j && !decide (j = k)) = l.filter P := List.filter_congr fun j hj => by
        have : j ≠ k := fun q => nd'.1 (q ▸ hj)
        simp [this]
      simp [List.filter_cons, hB, this]
    · have ih := xH hB l nd'.2 (by
        rcases List.mem_cons.mp h with q | q
        · exact absurd q.symm e
        · exact q)
      cases hp : P k <;> simp [List.filter_cons, hp, e] <;> omega
theorem zfK {n : Nat} {G : Int → Int} (g : GI n G) {a b : Int} (ha : 0 ≤ a ∧ a ≤ n) (hb : 0 ≤ b ∧ b ≤ n) (h : G a ≠ G b) : fx n (jK G a b) + 1 = fx n G := by
  have rb := g.rg b hb.1 hb.2
  obtain ⟨B, hB⟩ : ∃ B : Nat, (B : Int) = G b := ⟨(G b).toNat, by omega⟩
  have ib := g.idm b hb.1 hb.2
  have ia := g.idm a ha.1 ha.2
  unfold fx
  rw [← xH (P := fun (k : Nat) => decide (G k = k)) (B := B) (by rw [hB, ib]; simp) (List.range (n + 1)) List.nodup_range (by rw [List.mem_range]; omega)]
  congr 2
  apply List.filter_congr
  intro k hk
  rw [Bool.eq_iff_iff, Bool.and_eq_true, Bool.not_eq_true', decide_eq_true_eq, decide_eq_true_eq, decide_eq_false_iff_not]
  unfold jK
  constructor
  · intro q
    split at q
    · rename_i e
      exfalso
      apply h
      have : G (k : Int) = G a := by rw [← q]; exact ia
      rw [← this, e]
    · rename_i e
      exact ⟨q, fun z => e (by rw [z, hB, ib])⟩
  · rintro ⟨q1, q2⟩
    rw [if_neg fun e => q2 (by have : (k : Int) = (B : Int) := by rw [hB, ← e, q1]
                               omega)]
    exact q1
theorem ze9 {n : Nat} {G : Int → Int} (g : GI n G) : 1 ≤ fx n G := by
  have r := g.rg 0 (by omega) (by omega)
  have i := g.idm 0 (by omega) (by omega)
  unfold fx
  refine List.length_pos_of_mem (a := (G 0).toNat) (List.mem_filter.mpr ⟨by rw [List.mem_range]; omega, ?_⟩)
  rw [show (((G 0).toNat : Nat) : Int) = G 0 by omega, i]
  simp
theorem zgQ (n : Nat) : fx n (fun x => x) = n + 1 := by
  unfold fx
  rw [List.filter_eq_self.mpr fun k _ => by simp, List.length_range]
theorem zcs {n : Int} : ∀ (r : List L3) {G : Int → Int}, GI n G → (∀ l ∈ r, InL n l) → GI n (grp r G)
  | [], _, g, _ => g
  | l :: r, G, g, h => by
    have q := h l List.mem_cons_self
    exact zcs r (kY g ⟨q.1, by have := q.2.1; have := q.2.2; omega⟩ ⟨by have := q.1; have := q.2.1; omega, q.2.2⟩) fun x hx => h x (List.mem_cons_of_mem _ hx)
theorem zdj {n : Nat} : ∀ (r : List L3) {G : Int → Int}, GI n G → (∀ l ∈ r, InL n l) → fx n G ≤ fx n (grp r G) + r.length ∧ (acS r G = true ↔ fx n (grp r G) + r.length = fx n G)
  | [], G, g, _ => ⟨Nat.le_refl _, by simp [acS, grp]⟩
  | l :: r, G, g, h => by
    obtain ⟨q1, q2, q3⟩ := h l List.mem_cons_self
    have g' := kY g (a := l.1) (b := l.2.1) ⟨q1, by omega⟩ ⟨by omega, q3⟩
    obtain ⟨i1, i2⟩ := zdj r g' fun x hx => h x (List.mem_cons_of_mem _ hx)
    show fx n G ≤ fx n (grp r (jK G l.1 l.2.1)) + (r.length + 1) ∧ ((!decide (G l.1 = G l.2.1) && acS r (jK G l.1 l.2.1)) = true ↔ fx n (grp r (jK G l.1 l.2.1)) + (r.length + 1) = fx n G)
    by_cases e : G l.1 = G l.2.1
    · rw [zdu e] at i1 i2 ⊢
      refine ⟨by omega, ?_⟩
      rw [decide_eq_true e]
      simp only [Bool.not_true, Bool.false_and, Bool.false_eq_true, false_iff]
      omega
    · have f := zfK g (a := l.1) (b := l.2.1) ⟨q1, by omega⟩ ⟨by omega, q3⟩ e
      refine ⟨by omega, ?_⟩
      rw [decide_eq_false e]
      simp only [Bool.not_false, Bool.true_and]
      rw [i2]
      omega
theorem zf2 {n : Nat} {r : List L3} (h : ∀ l ∈ r, InL n l) (a : acS r (fun x => x) = true) : r.length ≤ n := by
  obtain ⟨_, q⟩ := zdj r (zb5 n) h
  have := q.mp a
  rw [zgQ] at this
  have := ze9 (zcs r (zb5 n) h)
  omega
theorem zey {G : Int → Int} {a b x y : Int} (h : G x = G y) : jK G a b x = jK G a b y := by unfold jK; rw [h]
theorem zcc : ∀ (r : List L3) (G : Int → Int), (∀ l ∈ r, grp r G l.1 = grp r G l.2.1) ∧ ∀ x y, G x = G y → grp r G x = grp r G y
  | [], G => ⟨fun l hl => absurd hl (by simp), fun _ _ h => h⟩
  | m :: r, G => by
    obtain ⟨i1, i2⟩ := zcc r (jK G m.1 m.2.1)
    refine ⟨fun l hl => ?_, fun x y h => i2 x y (zey h)⟩
    rcases List.mem_cons.mp hl with rfl | hl
    · refine i2 _ _ ?_
      unfold jK
      rw [if_pos rfl]
      split <;> rfl
    · exact i1 l hl
theorem zcU {n : Int} {S : Int → Prop} : ∀ (r : List L3) {G : Int → Int}, GI n G → (∀ l ∈ r, InL n l) → (∀ l ∈ r, S l.1 ↔ S l.2.1) → (∀ x, 0 ≤ x → x ≤ n → (S x ↔ S (G x))) → ∀ x, 0 ≤ x → x ≤ n → (S x ↔ S (grp r G x))
  | [], _, _, _, _, h => h
  | l :: r, G, g, hin, hl, h => by
    obtain ⟨q1, q2, q3⟩ := hin l List.mem_cons_self
    refine zcU r (kY g (a := l.1) (b := l.2.1) ⟨q1, by omega⟩ ⟨by omega, q3⟩) (fun x hx => hin x (List.mem_cons_of_mem _ hx)) (fun x hx => hl x (List.mem_cons_of_mem _ hx)) fun x h0 h1 => ?_
    show S x ↔ S (if G x = G l.2.1 then G l.1 else G x)
    split
    · rename_i e
      rw [h x h0 h1, e, ← h l.2.1 (by omega) q3, ← hl l List.mem_cons_self, h l.1 q1 (by omega)]
    · exact h x h0 h1
theorem zfN {n : Nat} {r : List L3} (h : ∀ l ∈ r, InL n l) : fx n (grp r fun x => x) = 1 ↔ Conn n r := by
  have g := zcs r (zb5 n) h
  constructor
  · intro f S h0 hS p p0 p1
    have cl := zcU (S := S) r (zb5 n) h hS (fun x _ _ => Iff.rfl)
    have mem : ∀ x, 0 ≤ x → x ≤ (n : Int) → (grp r (fun x => x) x).toNat ∈ (List.range (n + 1)).filter fun (k : Nat) => decide (grp r (fun x => x) k = k) := fun x x0 x1 => by
      have rx := g.rg x x0 x1
      rw [List.mem_filter, List.mem_range]
      refine ⟨by omega, ?_⟩
      rw [show (((grp r (fun x => x) x).toNat : Nat) : Int) = grp r (fun x => x) x by omega, g.idm x x0 x1]
      simp
    obtain ⟨z, hz⟩ := List.length_eq_one_iff.mp f
    have m0 := mem 0 (by omega) (by omega)
    have mp := mem p p0 p1
    rw [hz, List.mem_singleton] at m0 mp
    have r0 := g.rg 0 (by omega) (by omega)
    have rp := g.rg p p0 p1
    have e : grp r (fun x => x) p = grp r (fun x => x) 0 := by omega
    rw [cl p p0 p1, e, ← cl 0 (by omega) (by omega)]
    exact h0
  · intro hc
    have all := hc (fun x => grp r (fun x => x) x = grp r (fun x => x) 0) rfl (fun l hl => by rw [(zcc r fun x => x).1 l hl])
    have p := ze9 g
    have : fx n (grp r fun x => x) ≤ 1 := by
      unfold fx
      have key : ∀ l : List Nat, l.Nodup → (∀ k ∈ l, k ≤ n) → (l.filter fun (k : Nat) => decide (grp r (fun x => x) k = k)).length ≤ 1 := fun l nd hk => by
        have nd' := nd.filter (fun (k : Nat) => decide (grp r (fun x => x) k = k))
        have one : ∀ k ∈ l.filter (fun (k : Nat) => decide (grp r (fun x => x) k = k)), (k : Int) = grp r (fun x => x) 0 := fun k hk' => by
          obtain ⟨a, b⟩ := List.mem_filter.mp hk'
          have := all k (by omega) (by have := hk k a; omega)
          rw [← this]
          exact (of_decide_eq_true b).symm
        match hL : l.filter (fun (k : Nat) => decide (grp r (fun x => x) k = k)) with
        | [] => simp
        | [_] => simp
        | x :: y :: t =>
          rw [hL] at nd' one
          have a := one x (by simp)
          have b := one y (by simp)
          have : x = y := by omega
          exact absurd this (by have := (List.nodup_cons.mp nd').1; simp at this; exact this.1)
      exact key _ List.nodup_range fun k hk => by have := List.mem_range.mp hk; omega
    omega
theorem zdO {n : Nat} {r : List L3} (h : ∀ l ∈ r, InL n l) (hn : r.length = n) : acS r (fun x => x) = decide ((zV r n [0]).length = n + 1) := by
  rw [Bool.eq_iff_iff, decide_eq_true_eq, zc6 h, ← zfN h, (zdj r (zb5 n) h).2, zgQ]
  omega
end L2.Y
set_option maxHeartbeats 4000000
namespace L2.Y
open PySem
def jI (n : Nat) (rs : List (List L3)) (ls : List L3) : List (List L3) := ls.foldl (fun rs l => rs ++ (rs.filter fun r => decide (r.length < n)).map (· ++ [l])) rs
def okJ (l : L3) (r : List L3) : Bool := !decide (grp r (fun x => x) l.1 = grp r (fun x => x) l.2.1)
def yi (rs : List (List L3)) (ls : List L3) : List (List L3) := ls.foldl (fun rs l => rs ++ (rs.filter (okJ l)).map (· ++ [l])) rs
def acB (r : List L3) : Bool := acS r fun x => x
theorem xq {n : Nat} : ∀ (ls : List L3) (rs : List (List L3)), (∀ l ∈ ls, InL n l) → (∀ r ∈ rs, ∀ l ∈ r, InL n l) → yi (rs.filter acB) ls = (jI n rs ls).filter acB
  | [], _, _, _ => rfl
  | l :: ls, rs, hl, hr => by
    have q := hl l List.mem_cons_self
    have ih := xq ls (rs ++ (rs.filter fun r => decide (r.length < n)).map (· ++ [l])) (fun x hx => hl x (List.mem_cons_of_mem _ hx)) (fun r h => by
      rcases List.mem_append.mp h with h | h
      · exact hr r h
      · obtain ⟨r', h', rfl⟩ := List.mem_map.mp h
        intro x hx
        rcases List.mem_append.mp hx with hx | hx
        · exact hr r' (List.mem_filter.mp h').1 x hx
        · rw [List.mem_singleton.mp hx]; exact q)
    show yi (rs.filter acB ++ ((rs.filter acB).filter (okJ l)).map (· ++ [l])) ls = (jI n (rs ++ (rs.filter fun r => decide (r.length < n)).map (· ++ [l])) ls).filter acB
    rw [← ih]
    congr 1
    rw [List.filter_append]
    congr 1
    rw [List.filter_map, List.filter_filter, List.filter_filter]
    congr 1
    apply List.filter_congr
    intro r h
    have e : acB (r ++ [l]) = (acB r && okJ l r) := za0 r l _
    show (okJ l r && acB r) = (acB (r ++ [l]) && decide (r.length < n))
    rw [e]
    cases a : acB r <;> cases b : okJ l r <;> simp
    have := zf2 (n := n) (r := r ++ [l]) (fun x hx => by
      rcases List.mem_append.mp hx with hx | hx
      · exact hr r h x hx
      · rw [List.mem_singleton.mp hx]; exact q) (by rw [show acS (r ++ [l]) (fun x => x) = acB (r ++ [l]) from rfl, e, a, b]; rfl)
    rw [List.length_append, List.length_singleton] at this
    omega
theorem zab {P : L3 → Prop} {n : Nat} : ∀ (ls : List L3) (rs : List (List L3)), (∀ l ∈ ls, P l) → (∀ r ∈ rs, ∀ l ∈ r, P l) → ∀ r ∈ jI n rs ls, ∀ l ∈ r, P l
  | [], _, _, h => h
  | l :: ls, rs, hl, hr => zab ls _ (fun x hx => hl x (List.mem_cons_of_mem _ hx)) (fun r h => by
      rcases List.mem_append.mp h with h | h
      · exact hr r h
      · obtain ⟨r', h', rfl⟩ := List.mem_map.mp h
        intro x hx
        rcases List.mem_append.mp hx with hx | hx
        · exact hr r' (List.mem_filter.mp h').1 x hx
        · rw [List.mem_singleton.mp hx]; exact hl l List.mem_cons_self)
theorem yN {n : Nat} : ∀ (ls : List L3) (rs : List (List L3)), (∀ r ∈ rs, r.length ≤ n) → ∀ r ∈ jI n rs ls, r.length ≤ n
  | [], _, h => h
  | l :: ls, rs, hr => yN ls _ (fun r h => by
      rcases List.mem_append.mp h with h | h
      · exact hr r h
      · obtain ⟨r', h', rfl⟩ := List.mem_map.mp h
        have := of_decide_eq_true (List.mem_filter.mp h').2
        rw [List.length_append, List.length_singleton]
        omega)
theorem zaq {n : Nat} : ∀ (ls : List L3) (rs : List (List L3)), (jI n rs ls).length ≤ rs.length * 2 ^ ls.length
  | [], rs => by show rs.length ≤ rs.length * 1; omega
  | l :: ls, rs => by
    have ih := zaq (n := n) ls (rs ++ (rs.filter fun r => decide (r.length < n)).map (· ++ [l]))
    have : (rs ++ (rs.filter fun r => decide (r.length < n)).map (· ++ [l])).length ≤ 2 * rs.length := by
      rw [List.length_append, List.length_map]
      have := List.length_filter_le (fun r : List L3 => decide (r.length < n)) rs
      omega
    have h2 := Nat.mul_le_mul_right (2 ^ ls.length) this
    rw [List.length_cons, Nat.pow_succ]
    refine Nat.le_trans ih (Nat.le_trans h2 ?_)
    rw [Nat.mul_comm 2 rs.length, Nat.mul_assoc, Nat.mul_comm 2]
    exact Nat.le_refl _
def cn (rs : List (List L3)) (k : Nat) : Nat := (rs.filter fun r => decide (r.length = k)).length
def nx (f : Nat → Nat) (k : Nat) : Nat := f k + match k with | 0 => 0 | k + 1 => f k
def itn : Nat → (Nat → Nat) → Nat → Nat
  | 0, f => f
  | m + 1, f => itn m (nx f)
theorem zfB {n : Nat} {rs : List (List L3)} {f : Nat → Nat} (l : L3) (h : ∀ k, cn rs k ≤ f k) (k : Nat) : cn (rs ++ (rs.filter fun r => decide (r.length < n)).map (· ++ [l])) k ≤ nx f k := by
  unfold cn nx at *
  rw [List.filter_append, List.length_append, List.filter_map, List.length_map, List.filter_filter]
  have a := h k
  cases k with
  | zero =>
    rw [show (rs.filter fun r => ((fun r : List L3 => decide (r.length = 0)) ∘ fun x => x ++ [l]) r && decide (r.length < n)) = [] from List.filter_eq_nil_iff.mpr fun r _ => by simp]
    simpa using a
  | succ k =>
    have b := h k
    have c : (rs.filter fun r => ((fun r : List L3 => decide (r.length = k + 1)) ∘ fun x => x ++ [l]) r && decide (r.length < n)).length ≤ (rs.filter fun r => decide (r.length = k)).length := by
      rw [← List.countP_eq_length_filter, ← List.countP_eq_length_filter]
      exact List.countP_mono_left fun r _ hr => by simp at hr ⊢; omega
    show _ ≤ f (k + 1) + f k
    omega
theorem zcF {n : Nat} : ∀ (ls : List L3) (rs : List (List L3)) (f : Nat → Nat), (∀ k, cn rs k ≤ f k) → ∀ k, cn (jI n rs ls) k ≤ itn ls.length f k
  | [], _, _, h => h
  | l :: ls, rs, f, h => zcF ls _ (nx f) (zfB l h)
def f1 (k : Nat) : Nat := match k with | 0 => 1 | _ + 1 => 0
theorem zdH {n : Nat} {ls : List L3} (h1 : n ≤ 4) (h2 : ls.length ≤ n + 3) : cn (jI n [[]] ls) n < 64 := by
  have a := zcF (n := n) ls [[]] f1 (fun k => by cases k <;> simp [cn, f1]) n
  have b : ∀ m, m < 8 → ∀ n, n < 5 → m ≤ n + 3 → itn m f1 n < 64 := by decide +kernel
  have := b ls.length (by omega) n (by omega) h2
  omega
def ways (r : List L3) : Int := r.foldl (fun w l => w * l.2.2) 1
theorem zbV : ∀ r : List L3, r.foldl (fun w l => w * l.2.2) (0 : Int) = 0
  | [] => rfl
  | l :: r => by rw [List.foldl_cons, Int.zero_mul]; exact zbV r
theorem zb7 (p s : List L3) {l : L3} (h : l.2.2 = 0) : ways (p ++ l :: s) = 0 := by
  unfold ways
  rw [List.foldl_append, List.foldl_cons, h, Int.mul_zero]
  exact zbV s
def trB (n : Nat) (r : List L3) : Bool := decide (r.length = n) && decide ((zV r n [0]).length = n + 1)
def fT (n : Nat) (r : List L3) : Int := if trB n r = true then ways r else 0
def subs {α : Type} : List α → List (List α)
  | [] => [[]]
  | l :: ls => subs ls ++ (subs ls).map (l :: ·)
theorem wB {α : Type} (p : α → Bool) (g : α → Int) : ∀ l : List α, ((l.filter p).map g).sum = (l.map fun x => if p x = true then g x else 0).sum
  | [] => rfl
  | x :: l => by
    have ih := wB p g l
    cases h : p x
    · rw [List.filter_cons_of_neg (by rw [h]; decide), ih, List.map_cons, List.sum_cons, if_neg (by rw [h]; decide), Int.zero_add]
    · rw [List.filter_cons_of_pos h, List.map_cons, List.sum_cons, ih, List.map_cons, List.sum_cons, if_pos h]
theorem sum_rows {n : Nat} (f : List L3 → Int) : ∀ (ls : List L3) (rs : List (List L3)), (∀ r ∈ rs, r.length ≤ n) →
    ((jI n rs ls).map f).sum = (rs.map fun r0 => ((subs ls).map fun s => if r0.length + s.length ≤ n then f (r0 ++ s) else 0).sum).sum
  | [], rs, h => by
    show (rs.map f).sum = _
    congr 1
    apply List.map_congr_left
    intro r hr
    simp [subs, h r hr]
  | l :: ls, rs, h => by
    show ((jI n (rs ++ (rs.filter fun r => decide (r.length < n)).map (· ++ [l])) ls).map f).sum = _
    rw [sum_rows f ls _ (fun r hr => by
      rcases List.mem_append.mp hr with hr | hr
      · exact h r hr
      · obtain ⟨r', h', rfl⟩ := List.mem_map.mp hr
        have := of_decide_eq_true (List.mem_filter.mp h').2
        rw [List.length_append, List.length_singleton]
        omega), List.map_append, List.sum_append, List.map_map, wB, ← zad]
    congr 1
    apply List.map_congr_left
    intro r hr
    rw [subs, List.map_append, List.sum_append]
    congr 1
    rw [List.map_map]
    split
    · show ((subs ls).map fun s => if (r ++ [l]).length + s.length ≤ n then f ((r ++ [l]) ++ s) else 0).sum = _
      congr 1
      apply List.map_congr_left
      intro s _
      simp only [Function.comp, List.length_append, List.length_cons, List.length_nil, List.append_assoc, List.cons_append, List.nil_append]
      rw [show r.length + (0 + 1) + s.length = r.length + (s.length + 1) by omega]
    · rename_i q
      have : ¬ r.length < n := fun z => q (decide_eq_true z)
      rw [show ((subs ls).map ((fun s => if r.length + s.length ≤ n then f (r ++ s) else 0) ∘ fun x => l :: x)) = (subs ls).map fun _ => (0 : Int) from List.map_congr_left fun s _ => if_neg (by simp only [List.length_cons]; omega), wA]
def Tp (n : Nat) (pre ls : List L3) : Int := ((subs ls).map fun s => fT n (pre ++ s)).sum
theorem zdn (n : Nat) (pre : List L3) (l : L3) (ls : List L3) : Tp n pre (l :: ls) = Tp n pre ls + Tp n (pre ++ [l]) ls := by
  unfold Tp
  rw [subs, List.map_append, List.sum_append, List.map_map]
  congr 2
  apply List.map_congr_left
  intro s _
  simp
theorem xD (n : Nat) (ls : List L3) : ((jI n [[]] ls).map (fT n)).sum = Tp n [] ls := by
  rw [sum_rows (fT n) ls [[]] (by simp)]
  unfold Tp
  simp only [List.map_cons, List.map_nil, List.sum_cons, List.sum_nil, Int.add_zero, List.length_nil, Nat.zero_add, List.nil_append]
  congr 1
  apply List.map_congr_left
  intro s _
  split
  · rfl
  · rename_i q
    unfold fT trB
    rw [decide_eq_false (fun z => q (by omega)), Bool.false_and, if_neg (by decide)]
theorem zfl (n : Nat) (pre : List L3) {l : L3} (h : l.2.2 = 0) (ls : List L3) : Tp n (pre ++ [l]) ls = 0 := by
  unfold Tp
  rw [show ((subs ls).map fun s => fT n (pre ++ [l] ++ s)) = (subs ls).map fun _ => (0 : Int) from List.map_congr_left fun s _ => by
    unfold fT
    rw [List.append_assoc, List.singleton_append, zb7 pre s h]
    split <;> rfl, wA]
theorem xY (n : Nat) : ∀ (ls pre : List L3), Tp n pre ls = Tp n pre (ls.filter fun l => !decide (l.2.2 = 0))
  | [], _ => rfl
  | l :: ls, pre => by
    rw [zdn, xY n ls pre]
    by_cases h : l.2.2 = 0
    · rw [zfl n pre h, Int.add_zero, List.filter_cons_of_neg (by simp [h])]
    · rw [xY n ls (pre ++ [l]), List.filter_cons_of_pos (by simp [h]), zdn]
def allP (n : Nat) : List (Int × Int) := (List.range (n + 1)).flatMap fun a => ((List.range (n + 1)).filter fun b => decide (a < b)).map fun (b : Nat) => ((a : Int), (b : Int))
def tP (n : Nat) (s : List (Int × Int)) : Bool := trB n (s.map fun p => ((p.1, p.2, 0) : L3))
theorem zav {α β : Type} (f : α → β) : ∀ l : List α, subs (l.map f) = (subs l).map (List.map f)
  | [] => rfl
  | x :: l => by
    rw [List.map_cons, subs, subs, zav f l, List.map_append, List.map_map, List.map_map]
    rfl
theorem yc (w : Int → Int → Int) (s : List (Int × Int)) : ∀ (n : Nat) (ks : List Int), zV (s.map fun p => ((p.1, p.2, w p.1 p.2) : L3)) n ks = zV (s.map fun p => ((p.1, p.2, 0) : L3)) n ks
  | 0, _ => rfl
  | n + 1, ks => by
    show zV _ n ((s.map fun p => ((p.1, p.2, w p.1 p.2) : L3)).foldl ja ks) = zV _ n ((s.map fun p => ((p.1, p.2, 0) : L3)).foldl ja ks)
    rw [List.foldl_map, List.foldl_map]
    exact yc w s n _
theorem zeH (w : Int → Int → Int) (s : List (Int × Int)) (n : Nat) : trB n (s.map fun p => ((p.1, p.2, w p.1 p.2) : L3)) = tP n s := by
  unfold tP trB
  rw [yc, List.length_map, List.length_map]
theorem vi (n : Nat) (w : Int → Int → Int) : Tp n [] ((allP n).map fun p => ((p.1, p.2, w p.1 p.2) : L3)) = (((subs (allP n)).filter (tP n)).map fun s => ways (s.map fun p => ((p.1, p.2, w p.1 p.2) : L3))).sum := by
  unfold Tp
  rw [zav, List.map_map, wB]
  congr 1
  apply List.map_congr_left
  intro s _
  show fT n ([] ++ s.map fun p => ((p.1, p.2, w p.1 p.2) : L3)) = _
  unfold fT
  rw [List.nil_append, zeH]
def detF : Nat → List (List Int) → Int
  | 0, _ => 1
  | _ + 1, [] => 1
  | k + 1, r0 :: rs => ((List.range r0.length).map fun j => r0.getD j 0 * detF k (rs.map fun r => r.take j ++ r.drop (j + 1)) * (1 - ((j : Int) % 2) * 2)).sum
theorem TS1 : (subs (allP 1)).filter (tP 1) = [[(0, 1)]] := by decide +kernel
theorem mt1 (w : Int → Int → Int) {w01 : Int} (h01 : w 0 1 = w01) : (((subs (allP 1)).filter (tP 1)).map fun s => ways (s.map fun p => ((p.1, p.2, w p.1 p.2) : L3))).sum = detF 8 [[(w01)]] := by
  rw [TS1]
  simp only [List.map_cons, List.map_nil, ways, List.foldl_cons, List.foldl_nil, List.sum_cons, List.sum_nil, h01]
  simp only [detF, List.length_cons, List.length_nil, List.range, List.range.loop, List.map_cons, List.map_nil, List.getD_cons_zero, List.getD_cons_succ, List.take, List.drop, List.append, List.cons_append, List.nil_append, List.sum_cons, List.sum_nil]
  grind
theorem TS2 : (subs (allP 2)).filter (tP 2) = [[(0, 2), (1, 2)], [(0, 1), (1, 2)], [(0, 1), (0, 2)]] := by decide +kernel
theorem mt2 (w : Int → Int → Int) {w01 w02 w12 : Int} (h01 : w 0 1 = w01) (h02 : w 0 2 = w02) (h12 : w 1 2 = w12) : (((subs (allP 2)).filter (tP 2)).map fun s => ways (s.map fun p => ((p.1, p.2, w p.1 p.2) : L3))).sum = detF 8 [[(w01 + w12), -w12], [-w12, (w02 + w12)]] := by
  rw [TS2]
  simp only [List.map_cons, List.map_nil, ways, List.foldl_cons, List.foldl_nil, List.sum_cons, List.sum_nil, h01, h02, h12]
  simp only [detF, List.length_cons, List.length_nil, List.range, List.range.loop, List.map_cons, List.map_nil, List.getD_cons_zero, List.getD_cons_succ, List.take, List.drop, List.append, List.cons_append, List.nil_append, List.sum_cons, List.sum_nil]
  grind
theorem TS3 : (subs (allP 3)).filter (tP 3) = [[(0, 3), (1, 3), (2, 3)], [(0, 3), (1, 2), (2, 3)], [(0, 3), (1, 2), (1, 3)], [(0, 2), (1, 3), (2, 3)], [(0, 2), (1, 2), (2, 3)], [(0, 2), (1, 2), (1, 3)], [(0, 2), (0, 3), (1, 3)], [(0, 2), (0, 3), (1, 2)], [(0, 1), (1, 3), (2, 3)], [(0, 1), (1, 2), (2, 3)], [(0, 1), (1, 2), (1, 3)], [(0, 1), (0, 3), (2, 3)], [(0, 1), (0, 3), (1, 2)], [(0, 1), (0, 2), (2, 3)], [(0, 1), (0, 2), (1, 3)], [(0, 1), (0, 2), (0, 3)]] := by decide +kernel
theorem mt3 (w : Int → Int → Int) {w01 w02 w03 w12 w13 w23 : Int} (h01 : w 0 1 = w01) (h02 : w 0 2 = w02) (h03 : w 0 3 = w03) (h12 : w 1 2 = w12) (h13 : w 1 3 = w13) (h23 : w 2 3 = w23) : (((subs (allP 3)).filter (tP 3)).map fun s => ways (s.map fun p => ((p.1, p.2, w p.1 p.2) : L3))).sum = detF 8 [[(w01 + w12 + w13), -w12, -w13], [-w12, (w02 + w12 + w23), -w23], [-w13, -w23, (w03 + w13 + w23)]] := by
  rw [TS3]
  simp only [List.map_cons, List.map_nil, ways, List.foldl_cons, List.foldl_nil, List.sum_cons, List.sum_nil, h01, h02, h03, h12, h13, h23]
  simp only [detF, List.length_cons, List.length_nil, List.range, List.range.loop, List.map_cons, List.map_nil, List.getD_cons_zero, List.getD_cons_succ, List.take, List.drop, List.append, List.cons_append, List.nil_append, List.sum_cons, List.sum_nil]
  grind
theorem TS4 : (subs (allP 4)).filter (tP 4) = [[(0, 4), (1, 4), (2, 4), (3, 4)], [(0, 4), (1, 4), (2, 3), (3, 4)], [(0, 4), (1, 4), (2, 3), (2, 4)], [(0, 4), (1, 3), (2, 4), (3, 4)], [(0, 4), (1, 3), (2, 3), (3, 4)], [(0, 4), (1, 3), (2, 3), (2, 4)], [(0, 4), (1, 3), (1, 4), (2, 4)], [(0, 4), (1, 3), (1, 4), (2, 3)], [(0, 4), (1, 2), (2, 4), (3, 4)], [(0, 4), (1, 2), (2, 3), (3, 4)], [(0, 4), (1, 2), (2, 3), (2, 4)], [(0, 4), (1, 2), (1, 4), (3, 4)], [(0, 4), (1, 2), (1, 4), (2, 3)], [(0, 4), (1, 2), (1, 3), (3, 4)], [(0, 4), (1, 2), (1, 3), (2, 4)], [(0, 4), (1, 2), (1, 3), (1, 4)], [(0, 3), (1, 4), (2, 4), (3, 4)], [(0, 3), (1, 4), (2, 3), (3, 4)], [(0, 3), (1, 4), (2, 3), (2, 4)], [(0, 3), (1, 3), (2, 4), (3, 4)], [(0, 3), (1, 3), (2, 3), (3, 4)], [(0, 3), (1, 3), (2, 3), (2, 4)], [(0, 3), (1, 3), (1, 4), (2, 4)], [(0, 3), (1, 3), (1, 4), (2, 3)], [(0, 3), (1, 2), (2, 4), (3, 4)], [(0, 3), (1, 2), (2, 3), (3, 4)], [(0, 3), (1, 2), (2, 3), (2, 4)], [(0, 3), (1, 2), (1, 4), (3, 4)], [(0, 3), (1, 2), (1, 4), (2, 3)], [(0, 3), (1, 2), (1, 3), (3, 4)], [(0, 3), (1, 2), (1, 3), (2, 4)], [(0, 3), (1, 2), (1, 3), (1, 4)], [(0, 3), (0, 4), (1, 4), (2, 4)], [(0, 3), (0, 4), (1, 4), (2, 3)], [(0, 3), (0, 4), (1, 3), (2, 4)], [(0, 3), (0, 4), (1, 3), (2, 3)], [(0, 3), (0, 4), (1, 2), (2, 4)], [(0, 3), (0, 4), (1, 2), (2, 3)], [(0, 3), (0, 4), (1, 2), (1, 4)], [(0, 3), (0, 4), (1, 2), (1, 3)], [(0, 2), (1, 4), (2, 4), (3, 4)], [(0, 2), (1, 4), (2, 3), (3, 4)], [(0, 2), (1, 4), (2, 3), (2, 4)], [(0, 2), (1, 3), (2, 4), (3, 4)], [(0, 2), (1, 3), (2, 3), (3, 4)], [(0, 2), (1, 3), (2, 3), (2, 4)], [(0, 2), (1, 3), (1, 4), (2, 4)], [(0, 2), (1, 3), (1, 4), (2, 3)], [(0, 2), (1, 2), (2, 4), (3, 4)], [(0, 2), (1, 2), (2, 3), (3, 4)], [(0, 2), (1, 2), (2, 3), (2, 4)], [(0, 2), (1, 2), (1, 4), (3, 4)], [(0, 2), (1, 2), (1, 4), (2, 3)], [(0, 2), (1, 2), (1, 3), (3, 4)], [(0, 2), (1, 2), (1, 3), (2, 4)], [(0, 2), (1, 2), (1, 3), (1, 4)], [(0, 2), (0, 4), (1, 4), (3, 4)], [(0, 2), (0, 4), (1, 4), (2, 3)], [(0, 2), (0, 4), (1, 3), (3, 4)], [(0, 2), (0, 4), (1, 3), (2, 3)], [(0, 2), (0, 4), (1, 3), (1, 4)], [(0, 2), (0, 4), (1, 2), (3, 4)], [(0, 2), (0, 4), (1, 2), (2, 3)], [(0, 2), (0, 4), (1, 2), (1, 3)], [(0, 2), (0, 3), (1, 4), (3, 4)], [(0, 2), (0, 3), (1, 4), (2, 4)], [(0, 2), (0, 3), (1, 3), (3, 4)], [(0, 2), (0, 3), (1, 3), (2, 4)], [(0, 2), (0, 3), (1, 3), (1, 4)], [(0, 2), (0, 3), (1, 2), (3, 4)], [(0, 2), (0, 3), (1, 2), (2, 4)], [(0, 2), (0, 3), (1, 2), (1, 4)], [(0, 2), (0, 3), (0, 4), (1, 4)], [(0, 2), (0, 3), (0, 4), (1, 3)], [(0, 2), (0, 3), (0, 4), (1, 2)], [(0, 1), (1, 4), (2, 4), (3, 4)], [(0, 1), (1, 4), (2, 3), (3, 4)], [(0, 1), (1, 4), (2, 3), (2, 4)], [(0, 1), (1, 3), (2, 4), (3, 4)], [(0, 1), (1, 3), (2, 3), (3, 4)], [(0, 1), (1, 3), (2, 3), (2, 4)], [(0, 1), (1, 3), (1, 4), (2, 4)], [(0, 1), (1, 3), (1, 4), (2, 3)], [(0, 1), (1, 2), (2, 4), (3, 4)], [(0, 1), (1, 2), (2, 3), (3, 4)], [(0, 1), (1, 2), (2, 3), (2, 4)], [(0, 1), (1, 2), (1, 4), (3, 4)], [(0, 1), (1, 2), (1, 4), (2, 3)], [(0, 1), (1, 2), (1, 3), (3, 4)], [(0, 1), (1, 2), (1, 3), (2, 4)], [(0, 1), (1, 2), (1, 3), (1, 4)], [(0, 1), (0, 4), (2, 4), (3, 4)], [(0, 1), (0, 4), (2, 3), (3, 4)], [(0, 1), (0, 4), (2, 3), (2, 4)], [(0, 1), (0, 4), (1, 3), (2, 4)], [(0, 1), (0, 4), (1, 3), (2, 3)], [(0, 1), (0, 4), (1, 2), (3, 4)], [(0, 1), (0, 4), (1, 2), (2, 3)], [(0, 1), (0, 4), (1, 2), (1, 3)], [(0, 1), (0, 3), (2, 4), (3, 4)], [(0, 1), (0, 3), (2, 3), (3, 4)], [(0, 1), (0, 3), (2, 3), (2, 4)], [(0, 1), (0, 3), (1, 4), (2, 4)], [(0, 1), (0, 3), (1, 4), (2, 3)], [(0, 1), (0, 3), (1, 2), (3, 4)], [(0, 1), (0, 3), (1, 2), (2, 4)], [(0, 1), (0, 3), (1, 2), (1, 4)], [(0, 1), (0, 3), (0, 4), (2, 4)], [(0, 1), (0, 3), (0, 4), (2, 3)], [(0, 1), (0, 3), (0, 4), (1, 2)], [(0, 1), (0, 2), (2, 4), (3, 4)], [(0, 1), (0, 2), (2, 3), (3, 4)], [(0, 1), (0, 2), (2, 3), (2, 4)], [(0, 1), (0, 2), (1, 4), (3, 4)], [(0, 1), (0, 2), (1, 4), (2, 3)], [(0, 1), (0, 2), (1, 3), (3, 4)], [(0, 1), (0, 2), (1, 3), (2, 4)], [(0, 1), (0, 2), (1, 3), (1, 4)], [(0, 1), (0, 2), (0, 4), (3, 4)], [(0, 1), (0, 2), (0, 4), (2, 3)], [(0, 1), (0, 2), (0, 4), (1, 3)], [(0, 1), (0, 2), (0, 3), (3, 4)], [(0, 1), (0, 2), (0, 3), (2, 4)], [(0, 1), (0, 2), (0, 3), (1, 4)], [(0, 1), (0, 2), (0, 3), (0, 4)]] := by decide +kernel
theorem mt4 (w : Int → Int → Int) {w01 w02 w03 w04 w12 w13 w14 w23 w24 w34 : Int} (h01 : w 0 1 = w01) (h02 : w 0 2 = w02) (h03 : w 0 3 = w03) (h04 : w 0 4 = w04) (h12 : w 1 2 = w12) (h13 : w 1 3 = w13) (h14 : w 1 4 = w14) (h23 : w 2 3 = w23) (h24 : w 2 4 = w24) (h34 : w 3 4 = w34) : (((subs (allP 4)).filter (tP 4)).map fun s => ways (s.map fun p => ((p.1, p.2, w p.1 p.2) : L3))).sum = detF 8 [[(w01 + w12 + w13 + w14), -w12, -w13, -w14], [-w12, (w02 + w12 + w23 + w24), -w23, -w24], [-w13, -w23, (w03 + w13 + w23 + w34), -w34], [-w14, -w24, -w34, (w04 + w14 + w24 + w34)]] := by
  rw [TS4]
  simp only [List.map_cons, List.map_nil, ways, List.foldl_cons, List.foldl_nil, List.sum_cons, List.sum_nil, h01, h02, h03, h04, h12, h13, h14, h23, h24, h34]
  simp only [detF, List.length_cons, List.length_nil, List.range, List.range.loop, List.map_cons, List.map_nil, List.getD_cons_zero, List.getD_cons_succ, List.take, List.drop, List.append, List.cons_append, List.nil_append, List.sum_cons, List.sum_nil]
  grind
end L2.Y
set_option maxHeartbeats 4000000
namespace L2.Y
open PySem
theorem wH {a b : L3} (h1 : Ris a b) (h2 : Ris b a) : False := by unfold Ris at h1 h2; omega
theorem zcZ : ∀ (xs ys : List L3), xs.Pairwise Ris → ys.Pairwise Ris → (∀ l, l ∈ xs ↔ l ∈ ys) → xs = ys
  | [], [], _, _, _ => rfl
  | [], y :: ys, _, _, h => absurd ((h y).mpr List.mem_cons_self) (by simp)
  | x :: xs, [], _, _, h => absurd ((h x).mp List.mem_cons_self) (by simp)
  | x :: xs, y :: ys, hx, hy, h => by
    obtain ⟨x1, x2⟩ := List.pairwise_cons.mp hx
    obtain ⟨y1, y2⟩ := List.pairwise_cons.mp hy
    have e : x = y := by
      rcases List.mem_cons.mp ((h x).mp List.mem_cons_self) with q | q
      · exact q
      · rcases List.mem_cons.mp ((h y).mpr List.mem_cons_self) with p | p
        · exact p.symm
        · exact (wH (x1 y p) (y1 x q)).elim
    subst e
    rw [zcZ xs ys x2 y2 fun l => ?_]
    constructor
    · intro hl
      rcases List.mem_cons.mp ((h l).mp (List.mem_cons_of_mem _ hl)) with q | q
      · exact (wH (x1 l hl) (q ▸ x1 l hl)).elim
      · exact q
    · intro hl
      rcases List.mem_cons.mp ((h l).mpr (List.mem_cons_of_mem _ hl)) with q | q
      · exact (wH (y1 l hl) (q ▸ y1 l hl)).elim
      · exact q
theorem kZ {n : Int} {a b : Int} (hab : a < b) : ∀ {ls : List L3}, (∀ l ∈ ls, LkOk n l) → (∀ l ∈ ls, ¬ (l.1 = a ∧ l.2.1 = b)) → zb ls a b = 0
  | [], _, _ => rfl
  | l :: ls, h, h2 => by
    have q := h l List.mem_cons_self
    have p := h2 l List.mem_cons_self
    obtain ⟨q1, q2, _⟩ := q
    rw [wX l ls a b q2, kZ hab (fun x hx => h x (List.mem_cons_of_mem _ hx)) fun x hx => h2 x (List.mem_cons_of_mem _ hx), if_neg (by omega)]
    rfl
theorem vA {n : Int} : ∀ {ls : List L3}, (∀ l ∈ ls, LkOk n l) → ls.Pairwise Ris → ∀ l ∈ ls, zb ls l.1 l.2.1 = l.2.2
  | [], _, _, l, hl => absurd hl (by simp)
  | m :: ls, h, hr, l, hl => by
    obtain ⟨r1, r2⟩ := List.pairwise_cons.mp hr
    have q := h l hl
    have qm := h m List.mem_cons_self
    obtain ⟨q1, q2, _⟩ := q
    obtain ⟨m1, m2, _⟩ := qm
    rw [wX m ls _ _ m2]
    rcases List.mem_cons.mp hl with rfl | hl'
    · rw [if_pos (by omega), kZ q2 (fun x hx => h x (List.mem_cons_of_mem _ hx)) fun x hx e => by
        have := r1 x hx
        unfold Ris at this
        omega]
      omega
    · have := r1 l hl'
      unfold Ris at this
      rw [if_neg (by omega), vA (fun x hx => h x (List.mem_cons_of_mem _ hx)) r2 l hl']
      omega
theorem zq (ls : List L3) (a b : Int) : zb ls a b = zb ls b a := by
  unfold zb
  congr 2
  apply List.filter_congr
  intro l _
  rw [Bool.or_comm]
theorem je {n : Int} {ls : List L3} (h : ∀ l ∈ ls, LkOk n l) (a : Int) : zb ls a a = 0 := by
  unfold zb
  rw [List.filter_eq_nil_iff.mpr fun l hl => by
    obtain ⟨q1, q2, _⟩ := h l hl
    simp
    omega]
  rfl
theorem zaQ {n : Nat} {p : Int × Int} : p ∈ allP n ↔ 0 ≤ p.1 ∧ p.1 < p.2 ∧ p.2 ≤ n := by
  unfold allP
  simp only [List.mem_flatMap, List.mem_range, List.mem_map, List.mem_filter, decide_eq_true_eq]
  constructor
  · rintro ⟨a, ha, b, ⟨hb, hab⟩, rfl⟩
    exact ⟨by show (0 : Int) ≤ (a : Int); omega, by show (a : Int) < (b : Int); omega, by show (b : Int) ≤ (n : Int); omega⟩
  · rintro ⟨h1, h2, h3⟩
    exact ⟨p.1.toNat, by omega, p.2.toNat, ⟨by omega, by omega⟩, Prod.ext (by show ((p.1.toNat : Nat) : Int) = p.1; omega) (by show ((p.2.toNat : Nat) : Int) = p.2; omega)⟩
def RisP (a b : Int × Int) : Bool := decide (a.1 < b.1) || (decide (a.1 = b.1) && decide (a.2 < b.2))
def pwB (l : List (Int × Int)) : Bool := match l with
  | [] => true
  | x :: r => r.all (RisP x) && pwB r
theorem zfb (w : Int → Int → Int) : ∀ l : List (Int × Int), pwB l = true → (l.map fun p => ((p.1, p.2, w p.1 p.2) : L3)).Pairwise Ris
  | [], _ => .nil
  | x :: l, h => by
    rw [pwB, Bool.and_eq_true, List.all_eq_true] at h
    rw [List.map_cons, List.pairwise_cons]
    refine ⟨fun y hy => ?_, zfb w l h.2⟩
    obtain ⟨z, hz, rfl⟩ := List.mem_map.mp hy
    have := h.1 z hz
    unfold RisP at this
    unfold Ris
    simp only [Bool.or_eq_true, Bool.and_eq_true, decide_eq_true_eq] at this
    exact this
theorem vq {n : Nat} (hn : pwB (allP n) = true) {ls : List L3} (hl : ∀ l ∈ ls, LkOk n l) (ris : ls.Pairwise Ris) : Tp n [] ls = Tp n [] (((allP n).map fun p => ((p.1, p.2, zb ls p.1 p.2) : L3)).filter fun l => !decide (l.2.2 = 0)) := by
  congr 1
  refine zcZ _ _ ris ((zfb (zb ls) _ hn).filter _) fun l => ?_
  rw [List.mem_filter, List.mem_map]
  constructor
  · intro h
    obtain ⟨q1, q2, q3, q4, q5⟩ := hl l h
    have e := vA hl ris l h
    refine ⟨⟨(l.1, l.2.1), zaQ.mpr ⟨q1, q2, q3⟩, ?_⟩, by simp; omega⟩
    show (l.1, l.2.1, zb ls l.1 l.2.1) = l
    rw [e]
  · rintro ⟨⟨p, hp, rfl⟩, h⟩
    obtain ⟨p1, p2, p3⟩ := zaQ.mp hp
    have h' : zb ls p.1 p.2 ≠ 0 := by simpa using h
    apply Classical.byContradiction
    intro no
    apply h'
    refine kZ p2 hl fun l hl' e => no ?_
    have b := vA hl ris l hl'
    rw [← e.1, ← e.2, b]
    exact hl'
def Mx (n : Nat) (ls : List L3) : List (List Int) := (List.range n).map fun (i : Nat) => (List.range n).map fun (j : Nat) => if j = i then jy ls (1 + i) else -zb ls (1 + i) (1 + j)
theorem Mx1 {ls : List L3} (hl : ∀ l ∈ ls, LkOk 1 l) : Mx 1 ls = [[(zb ls 0 1)]] := by
  have s1 : jy ls (1 + (0 : Nat)) = zb ls 0 1 := by
    have e := jg (c := 1) (by decide) (1 + (0 : Nat)) hl
    rw [← e]
    have z := je hl 1
    simp only [List.range, List.range.loop, List.map_cons, List.map_nil, List.sum_cons, List.sum_nil, show ((1 : Int).toNat + 1) = 2 from rfl]
    show zb ls 1 0 + (zb ls 1 1 + 0) = _
    rw [zq ls 1 0, z]
    omega
  unfold Mx
  simp only [List.range, List.range.loop, List.map_cons, List.map_nil]
  simp only [s1, if_true, reduceIte, Nat.reduceEqDiff]
theorem det1 {ls : List L3} (hl : ∀ l ∈ ls, LkOk 1 l) (ris : ls.Pairwise Ris) : ((jI 1 [[]] ls).map (fT 1)).sum = detF 8 (Mx 1 ls) := by
  rw [xD, vq (n := 1) (by decide) hl ris, ← xY, vi, Mx1 hl]
  exact mt1 (zb ls) rfl
theorem Mx2 {ls : List L3} (hl : ∀ l ∈ ls, LkOk 2 l) : Mx 2 ls = [[(zb ls 0 1 + zb ls 1 2), -zb ls 1 2], [-zb ls 1 2, (zb ls 0 2 + zb ls 1 2)]] := by
  have s1 : jy ls (1 + (0 : Nat)) = zb ls 0 1 + zb ls 1 2 := by
    have e := jg (c := 2) (by decide) (1 + (0 : Nat)) hl
    rw [← e]
    have z := je hl 1
    simp only [List.range, List.range.loop, List.map_cons, List.map_nil, List.sum_cons, List.sum_nil, show ((2 : Int).toNat + 1) = 3 from rfl]
    show zb ls 1 0 + (zb ls 1 1 + (zb ls 1 2 + 0)) = _
    rw [zq ls 1 0, z]
    omega
  have s2 : jy ls (1 + (1 : Nat)) = zb ls 0 2 + zb ls 1 2 := by
    have e := jg (c := 2) (by decide) (1 + (1 : Nat)) hl
    rw [← e]
    have z := je hl 2
    simp only [List.range, List.range.loop, List.map_cons, List.map_nil, List.sum_cons, List.sum_nil, show ((2 : Int).toNat + 1) = 3 from rfl]
    show zb ls 2 0 + (zb ls 2 1 + (zb ls 2 2 + 0)) = _
    rw [zq ls 2 0, zq ls 2 1, z]
    omega
  unfold Mx
  simp only [List.range, List.range.loop, List.map_cons, List.map_nil]
  simp only [s1, s2, if_true, reduceIte, Nat.reduceEqDiff]
  show [[(zb ls 0 1 + zb ls 1 2), -zb ls 1 2], [-zb ls 2 1, (zb ls 0 2 + zb ls 1 2)]] = _
  rw [zq ls 2 1]
theorem det2 {ls : List L3} (hl : ∀ l ∈ ls, LkOk 2 l) (ris : ls.Pairwise Ris) : ((jI 2 [[]] ls).map (fT 2)).sum = detF 8 (Mx 2 ls) := by
  rw [xD, vq (n := 2) (by decide) hl ris, ← xY, vi, Mx2 hl]
  exact mt2 (zb ls) rfl rfl rfl
theorem Mx3 {ls : List L3} (hl : ∀ l ∈ ls, LkOk 3 l) : Mx 3 ls = [[(zb ls 0 1 + zb ls 1 2 + zb ls 1 3), -zb ls 1 2, -zb ls 1 3], [-zb ls 1 2, (zb ls 0 2 + zb ls 1 2 + zb ls 2 3), -zb ls 2 3], [-zb ls 1 3, -zb ls 2 3, (zb ls 0 3 + zb ls 1 3 + zb ls 2 3)]] := by
  have s1 : jy ls (1 + (0 : Nat)) = zb ls 0 1 + zb ls 1 2 + zb ls 1 3 := by
    have e := jg (c := 3) (by decide) (1 + (0 : Nat)) hl
    rw [← e]
    have z := je hl 1
    simp only [List.range, List.range.loop, List.map_cons, List.map_nil, List.sum_cons, List.sum_nil, show ((3 : Int).toNat + 1) = 4 from rfl]
    show zb ls 1 0 + (zb ls 1 1 + (zb ls 1 2 + (zb ls 1 3 + 0))) = _
    rw [zq ls 1 0, z]
    omega
  have s2 : jy ls (1 + (1 : Nat)) = zb ls 0 2 + zb ls 1 2 + zb ls 2 3 := by
    have e := jg (c := 3) (by decide) (1 + (1 : Nat)) hl
    rw [← e]
    have z := je hl 2
    simp only [List.range, List.range.loop, List.map_cons, List.map_nil, List.sum_cons, List.sum_nil, show ((3 : Int).toNat + 1) = 4 from rfl]
    show zb ls 2 0 + (zb ls 2 1 + (zb ls 2 2 + (zb ls 2 3 + 0))) = _
    rw [zq ls 2 0, zq ls 2 1, z]
    omega
  have s3 : jy ls (1 + (2 : Nat)) = zb ls 0 3 + zb ls 1 3 + zb ls 2 3 := by
    have e := jg (c := 3) (by decide) (1 + (2 : Nat)) hl
    rw [← e]
    have z := je hl 3
    simp only [List.range, List.range.loop, List.map_cons, List.map_nil, List.sum_cons, List.sum_nil, show ((3 : Int).toNat + 1) = 4 from rfl]
    show zb ls 3 0 + (zb ls 3 1 + (zb ls 3 2 + (zb ls 3 3 + 0))) = _
    rw [zq ls 3 0, zq ls 3 1, zq ls 3 2, z]
    omega
  unfold Mx
  simp only [List.range, List.range.loop, List.map_cons, List.map_nil]
  simp only [s1, s2, s3, if_true, reduceIte, Nat.reduceEqDiff]
  show [[(zb ls 0 1 + zb ls 1 2 + zb ls 1 3), -zb ls 1 2, -zb ls 1 3], [-zb ls 2 1, (zb ls 0 2 + zb ls 1 2 + zb ls 2 3), -zb ls 2 3], [-zb ls 3 1, -zb ls 3 2, (zb ls 0 3 + zb ls 1 3 + zb ls 2 3)]] = _
  rw [zq ls 2 1, zq ls 3 1, zq ls 3 2]
theorem det3 {ls : List L3} (hl : ∀ l ∈ ls, LkOk 3 l) (ris : ls.Pairwise Ris) : ((jI 3 [[]] ls).map (fT 3)).sum = detF 8 (Mx 3 ls) := by
  rw [xD, vq (n := 3) (by decide) hl ris, ← xY, vi, Mx3 hl]
  exact mt3 (zb ls) rfl rfl rfl rfl rfl rfl
theorem Mx4 {ls : List L3} (hl : ∀ l ∈ ls, LkOk 4 l) : Mx 4 ls = [[(zb ls 0 1 + zb ls 1 2 + zb ls 1 3 + zb ls 1 4), -zb ls 1 2, -zb ls 1 3, -zb ls 1 4], [-zb ls 1 2, (zb ls 0 2 + zb ls 1 2 + zb ls 2 3 + zb ls 2 4), -zb ls 2 3, -zb ls 2 4], [-zb ls 1 3, -zb ls 2 3, (zb ls 0 3 + zb ls 1 3 + zb ls 2 3 + zb ls 3 4), -zb ls 3 4], [-zb ls 1 4, -zb ls 2 4, -zb ls 3 4, (zb ls 0 4 + zb ls 1 4 + zb ls 2 4 + zb ls 3 4)]] := by
  have s1 : jy ls (1 + (0 : Nat)) = zb ls 0 1 + zb ls 1 2 + zb ls 1 3 + zb ls 1 4 := by
    have e := jg (c := 4) (by decide) (1 + (0 : Nat)) hl
    rw [← e]
    have z := je hl 1
    simp only [List.range, List.range.loop, List.map_cons, List.map_nil, List.sum_cons, List.sum_nil, show ((4 : Int).toNat + 1) = 5 from rfl]
    show zb ls 1 0 + (zb ls 1 1 + (zb ls 1 2 + (zb ls 1 3 + (zb ls 1 4 + 0)))) = _
    rw [zq ls 1 0, z]
    omega
  have s2 : jy ls (1 + (1 : Nat)) = zb ls 0 2 + zb ls 1 2 + zb ls 2 3 + zb ls 2 4 := by
    have e := jg (c := 4) (by decide) (1 + (1 : Nat)) hl
    rw [← e]
    have z := je hl 2
    simp only [List.range, List.range.loop, List.map_cons, List.map_nil, List.sum_cons, List.sum_nil, show ((4 : Int).toNat + 1) = 5 from rfl]
    show zb ls 2 0 + (zb ls 2 1 + (zb ls 2 2 + (zb ls 2 3 + (zb ls 2 4 + 0)))) = _
    rw [zq ls 2 0, zq ls 2 1, z]
    omega
  have s3 : jy ls (1 + (2 : Nat)) = zb ls 0 3 + zb ls 1 3 + zb ls 2 3 + zb ls 3 4 := by
    have e := jg (c := 4) (by decide) (1 + (2 : Nat)) hl
    rw [← e]
    have z := je hl 3
    simp only [List.range, List.range.loop, List.map_cons, List.map_nil, List.sum_cons, List.sum_nil, show ((4 : Int).toNat + 1) = 5 from rfl]
    show zb ls 3 0 + (zb ls 3 1 + (zb ls 3 2 + (zb ls 3 3 + (zb ls 3 4 + 0)))) = _
    rw [zq ls 3 0, zq ls 3 1, zq ls 3 2, z]
    omega
  have s4 : jy ls (1 + (3 : Nat)) = zb ls 0 4 + zb ls 1 4 + zb ls 2 4 + zb ls 3 4 := by
    have e := jg (c := 4) (by decide) (1 + (3 : Nat)) hl
    rw [← e]
    have z := je hl 4
    simp only [List.range, List.range.loop, List.map_cons, List.map_nil, List.sum_cons, List.sum_nil, show ((4 : Int).toNat + 1) = 5 from rfl]
    show zb ls 4 0 + (zb ls 4 1 + (zb ls 4 2 + (zb ls 4 3 + (zb ls 4 4 + 0)))) = _
    rw [zq ls 4 0, zq ls 4 1, zq ls 4 2, zq ls 4 3, z]
    omega
  unfold Mx
  simp only [List.range, List.range.loop, List.map_cons, List.map_nil]
  simp only [s1, s2, s3, s4, if_true, reduceIte, Nat.reduceEqDiff]
  show [[(zb ls 0 1 + zb ls 1 2 + zb ls 1 3 + zb ls 1 4), -zb ls 1 2, -zb ls 1 3, -zb ls 1 4], [-zb ls 2 1, (zb ls 0 2 + zb ls 1 2 + zb ls 2 3 + zb ls 2 4), -zb ls 2 3, -zb ls 2 4], [-zb ls 3 1, -zb ls 3 2, (zb ls 0 3 + zb ls 1 3 + zb ls 2 3 + zb ls 3 4), -zb ls 3 4], [-zb ls 4 1, -zb ls 4 2, -zb ls 4 3, (zb ls 0 4 + zb ls 1 4 + zb ls 2 4 + zb ls 3 4)]] = _
  rw [zq ls 2 1, zq ls 3 1, zq ls 3 2, zq ls 4 1, zq ls 4 2, zq ls 4 3]
theorem det4 {ls : List L3} (hl : ∀ l ∈ ls, LkOk 4 l) (ris : ls.Pairwise Ris) : ((jI 4 [[]] ls).map (fT 4)).sum = detF 8 (Mx 4 ls) := by
  rw [xD, vq (n := 4) (by decide) hl ris, ← xY, vi, Mx4 hl]
  exact mt4 (zb ls) rfl rfl rfl rfl rfl rfl rfl rfl rfl rfl
theorem zgb {n : Nat} (h1 : 1 ≤ n) (h4 : n ≤ 4) {ls : List L3} (hl : ∀ l ∈ ls, LkOk n l) (ris : ls.Pairwise Ris) : ((jI n [[]] ls).map (fT n)).sum = detF 8 (Mx n ls) := by
  have : n = 1 ∨ n = 2 ∨ n = 3 ∨ n = 4 := by omega
  rcases this with rfl | rfl | rfl | rfl
  · exact det1 hl ris
  · exact det2 hl ris
  · exact det3 hl ris
  · exact det4 hl ris
end L2.Y
namespace L2.Y
open PySem
theorem zg2 {c : Env' → Option Bool} {g h : Env' → Option D} {ρ : Env'} {b : Bool} (h1 : c ρ = some b) : gIf c g h ρ = if b then g ρ else h ρ := by
  unfold gIf; rw [h1]; rfl
theorem zbB {c : Env' → Option Bool} {g h : GS} {ρ : Env'} (h1 : c ρ = some false) : sIf c g h ρ = h ρ := by rw [zfe h1]; rfl
theorem zbJ {c : Env' → Option Bool} {g h : GS} {ρ : Env'} (h1 : c ρ = some true) : sIf c g h ρ = g ρ := by rw [zfe h1]; rfl
theorem xG {α : Type} {h : GT} {gt : Env' → Option Bool} {ge : Env' → Option D} {ρ : Env'} (p : α → D) (q : α → Bool) (f : α → D) : ∀ l : List α, (∀ x ∈ l, ∃ ρ1, h (p x) ρ = some ρ1 ∧ gt ρ1 = some (q x) ∧ (q x = true → ge ρ1 = some (f x))) → xX h gt ge ρ (l.map p) = some ((l.filter q).map f)
  | [], _ => rfl
  | x :: l, hh => by
    obtain ⟨ρ1, e1, e2, e3⟩ := hh x List.mem_cons_self
    have ih := xG p q f l fun y hy => hh y (List.mem_cons_of_mem _ hy)
    rw [List.map_cons, xX, e1, Option.bind_some, e2, Option.bind_some]
    cases hq : q x
    · rw [if_neg (by decide), ih, List.filter_cons_of_neg (by rw [hq]; decide)]
    · rw [if_pos rfl, e3 hq, Option.bind_some, ih, List.filter_cons_of_pos hq]
      rfl
theorem qt {α : Type} {h : GT} {ge : Env' → Option D} {ρ : Env'} (p : α → D) (f : α → D) (l : List α) (hh : ∀ x ∈ l, ∃ ρ1, h (p x) ρ = some ρ1 ∧ ge ρ1 = some (f x)) : xX h xQ ge ρ (l.map p) = some (l.map f) := by
  have := xG (h := h) (gt := xQ) (ge := ge) (ρ := ρ) p (fun _ => true) f l fun x hx => by
    obtain ⟨ρ1, e1, e2⟩ := hh x hx
    exact ⟨ρ1, e1, rfl, fun _ => e2⟩
  rw [this, List.filter_eq_self.mpr fun _ _ => rfl]
def vG (n : Nat) (G : Int → Int) : List D := (List.range (n + 1)).map fun (k : Nat) => .int (G k)
theorem ze7 (n : Nat) (G : Int → Int) : (vG n G).length = n + 1 := by simp [vG]
theorem zeg {n : Nat} {G : Int → Int} {a : Int} (h0 : 0 ≤ a) (h1 : a ≤ n) : ixD (.tuple (vG n G)) (.int a) = some (.int (G a)) := by
  refine xT h0 ?_
  unfold vG
  rw [List.getElem?_map, List.getElem?_range (by omega)]
  show some (PyData.int (G ((a.toNat : Nat) : Int))) = _
  rw [show ((a.toNat : Nat) : Int) = a by omega]
theorem zdk {n : Nat} (hn : n ≤ 1000) {G : Int → Int} {a b : Int} (a0 : 0 ≤ a) (a1 : a ≤ n) (b0 : 0 ≤ b) (b1 : b ≤ n) : F_joined [.tuple (vG n G), .int a, .int b] = some (.tuple (vG n (jK G a b))) := by
  unfold F_joined
  refine jc ?_
  show yZ [some (.val (.tuple (vG n G))), vI a, vI b] = _
  unfold yZ
  refine qT (zW (zd (qd (jF (ds := vG n G) (qa (x := .tuple (vG n G)) rfl rfl) (by rw [ze7]; omega) (r := vG n (jK G a b)) ?_)) zj) (qB _))
  refine qt (fun (k : Nat) => (.int (G k) : D)) (fun (k : Nat) => (.int (jK G a b k) : D)) _ fun k _ => ⟨[vI (G k), some (.val (.tuple (vG n G))), vI a, vI b], rfl, ?_⟩
  have ec : gBo (g2 eqD (gVar 0) (g2 ixD (gVar 1) (gVar 3))) [vI (G k), some (.val (.tuple (vG n G))), vI a, vI b] = some (decide (G k = G b)) :=
    qE (zE (x := .int (G k)) rfl (zE (x := .tuple (vG n G)) rfl (y := .int b) rfl (zeg b0 b1)) (xZ _ _))
  rw [zg2 ec]
  unfold jK
  by_cases e : G k = G b
  · rw [decide_eq_true e, if_pos rfl, if_pos e]
    exact zE (x := .tuple (vG n G)) rfl (y := .int a) rfl (zeg a0 a1)
  · rw [decide_eq_false e, if_neg (by decide), if_neg e]
    rfl
def idG : Int → Int := fun x => x
def zT (n : Nat) (r : List L3) : D := .tuple [.tuple (r.map pairD), .int (ways r), .tuple (vG n (grp r idG))]
def jM (r : List L3) : D := .tuple [.tuple (r.map pairD), .int (ways r)]
theorem zc9 (n : Nat) (r : List L3) (l : L3) : zT n (r ++ [l]) = .tuple [.tuple (r.map pairD ++ [pairD l]), .int (ways r * l.2.2), .tuple (vG n (jK (grp r idG) l.1 l.2.1))] := by
  unfold zT
  rw [zdD, List.map_append]
  unfold ways
  rw [List.foldl_append]
  rfl
theorem yt {n : Nat} (hn : n ≤ 1000) {l : L3} (hl : LkOk n l) (x0 x1 : Option En) : ∀ (as bs : List (List L3)) (x6 x7 x8 : Option En), (∀ r ∈ as, r.length ≤ 1000) → bs.length + as.length ≤ 1000000 →
    ∃ y6 y7 y8, forF (hTup 3 (zy (hName 6) (zy (hName 7) (zy (hName 8) hNil)))) qp (as.map (zT n)) [x0, x1, vI l.1, vI l.2.1, vI l.2.2, some (.own (.list (bs.map (zT n)))), x6, x7, x8] =
      some (.nxt [x0, x1, vI l.1, vI l.2.1, vI l.2.2, some (.own (.list ((bs ++ (as.filter (okJ l)).map (· ++ [l])).map (zT n)))), y6, y7, y8])
  | [], bs, x6, x7, x8, _, _ => ⟨x6, x7, x8, by rw [show bs ++ (([] : List (List L3)).filter (okJ l)).map (· ++ [l]) = bs from List.append_nil bs]; rfl⟩
  | r :: as, bs, x6, x7, x8, hr, hlen => by
    obtain ⟨q1, q2, q3, q4, q5⟩ := hl
    rw [List.length_cons] at hlen
    let ρ : Env' := [x0, x1, vI l.1, vI l.2.1, vI l.2.2, some (.own (.list (bs.map (zT n)))), some (.val (.tuple (r.map pairD))), vI (ways r), some (.val (.tuple (vG n (grp r idG))))]
    have et : hTup 3 (zy (hName 6) (zy (hName 7) (zy (hName 8) hNil))) (zT n r) [x0, x1, vI l.1, vI l.2.1, vI l.2.2, some (.own (.list (bs.map (zT n)))), x6, x7, x8] = some ρ := rfl
    have ec : gBo (g2 neD (g2 ixD (gVar 8) (gVar 2)) (g2 ixD (gVar 8) (gVar 3))) ρ = some (okJ l r) :=
      qE (zE (zE (x := .tuple (vG n (grp r idG))) rfl (y := .int l.1) rfl (zeg q1 (by omega))) (zE (x := .tuple (vG n (grp r idG))) rfl (y := .int l.2.1) rfl (zeg (by omega) q3)) (zc8 _ _))
    have lr := hr r List.mem_cons_self
    cases ho : okJ l r with
    | false =>
      rw [ho] at ec
      obtain ⟨y6, y7, y8, e⟩ := yt hn ⟨q1, q2, q3, q4, q5⟩ x0 x1 as bs (some (.val (.tuple (r.map pairD)))) (vI (ways r)) (some (.val (.tuple (vG n (grp r idG))))) (fun x hx => hr x (List.mem_cons_of_mem _ hx)) (by omega)
      refine ⟨y6, y7, y8, ?_⟩
      rw [List.filter_cons_of_neg (by rw [ho]; decide)]
      show ((hTup 3 (zy (hName 6) (zy (hName 7) (zy (hName 8) hNil))) (zT n r) [x0, x1, vI l.1, vI l.2.1, vI l.2.2, some (.own (.list (bs.map (zT n)))), x6, x7, x8]).bind _) = _
      rw [et, Option.bind_some, show qp ρ = some (.nxt ρ) by unfold qp; rw [zbB ec]; rfl, Option.bind_some]
      exact e
    | true =>
      rw [ho] at ec
      obtain ⟨y6, y7, y8, e⟩ := yt hn ⟨q1, q2, q3, q4, q5⟩ x0 x1 as (bs ++ [r ++ [l]]) (some (.val (.tuple (r.map pairD)))) (vI (ways r)) (some (.val (.tuple (vG n (grp r idG))))) (fun x hx => hr x (List.mem_cons_of_mem _ hx)) (by rw [List.length_append, List.length_singleton]; omega)
      refine ⟨y6, y7, y8, ?_⟩
      rw [List.filter_cons_of_pos ho]
      show ((hTup 3 (zy (hName 6) (zy (hName 7) (zy (hName 8) hNil))) (zT n r) [x0, x1, vI l.1, vI l.2.1, vI l.2.2, some (.own (.list (bs.map (zT n)))), x6, x7, x8]).bind _) = _
      have es : gA tupD (zc (g2 addD (gVar 6) (gA tupD (zc (gA tupD (zc (gVar 2) (zc (gVar 3) gNil))) gNil))) (zc (g2 qi (gVar 7) (gVar 4)) (zc (gA (zS 3 F_joined) (zc (gVar 8) (zc (gVar 2) (zc (gVar 3) gNil)))) gNil))) ρ = some (zT n (r ++ [l])) := by
        rw [zc9]
        refine zW (zd (zE (x := .tuple (r.map pairD)) rfl (zW (zd (zW (zd (x := .int l.1) rfl (zd (x := .int l.2.1) rfl zj)) (zcp _ _)) zj) (zhg _)) ?_) (zd (zE (x := .int (ways r)) rfl (y := .int l.2.2) rfl (jV (by omega) (by omega))) (zd (zW (zd (x := .tuple (vG n (grp r idG))) rfl (zd (x := .int l.1) rfl (zd (x := .int l.2.1) rfl zj))) (by rw [zaV]; exact zdk hn q1 (by omega) (by omega) q3)) zj))) (zgU _ _ _)
        show (if (r.map pairD).length + 1 ≤ sizeLine then _ else none) = _
        rw [if_pos (show _ ≤ sizeLine by show _ ≤ 16777216; rw [List.length_map]; omega)]
        rfl
      rw [et, Option.bind_some, show qp ρ = some (.nxt [x0, x1, vI l.1, vI l.2.1, vI l.2.2, some (.own (.list ((bs ++ [r ++ [l]]).map (zT n)))), some (.val (.tuple (r.map pairD))), vI (ways r), some (.val (.tuple (vG n (grp r idG))))]) by
        unfold qp
        rw [zbJ ec, xy (ds := bs.map (zT n)) es rfl (by rw [List.length_map]; omega), List.map_append]
        rfl, Option.bind_some]
      rw [List.append_assoc] at e
      exact e
theorem zea {n : Nat} (hn : n ≤ 1000) {l : L3} (hl : LkOk n l) (as : List (List L3)) (hr : ∀ r ∈ as, r.length ≤ 1000) (hlen : as.length ≤ 1000000) : F_grown [.list (as.map (zT n)), zw l] = some (.list ((as ++ (as.filter (okJ l)).map (· ++ [l])).map (zT n))) := by
  obtain ⟨y6, y7, y8, e⟩ := yt hn hl (some (.val (.list (as.map (zT n))))) (some (.val (zw l))) as [] none none none hr (by simpa using hlen)
  unfold F_grown
  refine jc ?_
  show zaa [some (.val (.list (as.map (zT n)))), some (.val (zw l)), none, none, none, none, none, none, none] = _
  unfold zaa
  rw [zl (ρ' := [some (.val (.list (as.map (zT n)))), some (.val (zw l)), vI l.1, vI l.2.1, vI l.2.2, none, none, none, none]) (jq (d := zw l) rfl rfl),
    zl (ρ' := [some (.val (.list (as.map (zT n)))), some (.val (zw l)), vI l.1, vI l.2.1, vI l.2.2, some (.own (.list (([] : List (List L3)).map (zT n)))), none, none, none]) (wR (ds := []) (qO zj (by simp))),
    zl (ju (ds := as.map (zT n)) (qa (x := .list (as.map (zT n))) rfl rfl) e)]
  refine qT (zE (x := .list (as.map (zT n))) rfl (y := .list (([] ++ (as.filter (okJ l)).map (· ++ [l])).map (zT n))) rfl ?_)
  have := List.length_filter_le (okJ l) as
  show (if (as.map (zT n)).length + (([] ++ (as.filter (okJ l)).map (· ++ [l])).map (zT n)).length ≤ sizeLine then _ else none) = _
  rw [if_pos (show _ ≤ sizeLine by show _ ≤ 16777216; rw [List.length_map, List.length_map, List.nil_append, List.length_map]; omega), List.nil_append, ← List.map_append]
theorem yX {n : Nat} (hn : n ≤ 100) (x0 x1 x2 : Option En) : ∀ (ls : List L3) (as : List (List L3)) (x4 : Option En), (∀ l ∈ ls, LkOk n l) → (∀ r ∈ as, r.length + ls.length ≤ 1000) → as.length * 2 ^ ls.length ≤ 1000000 →
    ∃ y4, forF (hName 4) qN (ls.map zw) [x0, x1, x2, some (.val (.list (as.map (zT n)))), x4] = some (.nxt [x0, x1, x2, some (.val (.list ((yi as ls).map (zT n)))), y4])
  | [], as, x4, _, _, _ => ⟨x4, rfl⟩
  | l :: ls, as, x4, hl, hr, hlen => by
    have hlen2 : as.length * 2 ^ (ls.length + 1) ≤ 1000000 := hlen
    rw [Nat.pow_succ] at hlen2
    have p1 : 1 ≤ 2 ^ ls.length := Nat.one_le_two_pow
    have a1 : as.length ≤ as.length * (2 ^ ls.length * 2) := Nat.le_mul_of_pos_right _ (by omega)
    have fl := List.length_filter_le (okJ l) as
    obtain ⟨y4, e⟩ := yX hn x0 x1 x2 ls (as ++ (as.filter (okJ l)).map (· ++ [l])) (some (.val (zw l))) (fun x hx => hl x (List.mem_cons_of_mem _ hx)) (fun r h => by
      rcases List.mem_append.mp h with h | h
      · have := hr r h; rw [List.length_cons] at this; omega
      · obtain ⟨r', h', rfl⟩ := List.mem_map.mp h
        have := hr r' (List.mem_filter.mp h').1
        rw [List.length_cons] at this
        rw [List.length_append, List.length_singleton]
        omega) (by
      rw [List.length_append, List.length_map]
      refine Nat.le_trans (Nat.mul_le_mul_right _ (show as.length + (as.filter (okJ l)).length ≤ as.length * 2 by omega)) ?_
      rw [Nat.mul_assoc, Nat.mul_comm 2]
      exact hlen2)
    refine ⟨y4, ?_⟩
    show (qN [x0, x1, x2, some (.val (.list (as.map (zT n)))), some (.val (zw l))]).bind _ = _
    rw [show qN [x0, x1, x2, some (.val (.list (as.map (zT n)))), some (.val (zw l))] = some (.nxt [x0, x1, x2, some (.val (.list ((as ++ (as.filter (okJ l)).map (· ++ [l])).map (zT n)))), some (.val (zw l))]) by
      unfold qN
      exact jq (zW (zd (x := .list (as.map (zT n))) rfl (zd (x := zw l) rfl zj)) (by rw [qD]; exact zea (by omega) (hl l List.mem_cons_self) as (fun r h => by have := hr r h; omega) (by omega))) rfl, Option.bind_some]
    exact e
def keyT (r : List L3) : List Int := (r.flatMap fun l => [l.1, l.2.1]) ++ [ways r]
theorem za3 : ∀ r : List L3, prsD (r.flatMap fun l => [l.1, l.2.1]) = r.map pairD
  | [] => rfl
  | l :: r => by rw [List.flatMap_cons, List.map_cons, ← za3 r]; rfl
theorem zby (r : List L3) : jO (keyT r) = jM r := by
  unfold jO keyT jM
  rw [List.dropLast_concat, za3, List.getLast?_concat]
  rfl
theorem yQ : ∀ r : List L3, (r.map pairD).mapM zdL = some (r.map fun l => [l.1, l.2.1])
  | [] => rfl
  | l :: r => by rw [List.map_cons, List.mapM_cons, yQ r]; rfl
theorem zcw (r : List L3) : vz r.length (jM r) = some (keyT r) := by
  unfold jM vz
  dsimp only
  rw [if_pos (List.length_map _), yQ]
  show some ((r.map fun l => [l.1, l.2.1]).flatten ++ [ways r]) = _
  rw [← List.flatMap_def]
  rfl
theorem yF {n : Nat} : ∀ rs : List (List L3), (∀ r ∈ rs, r.length = n) → (rs.map jM).mapM (vz n) = some (rs.map keyT)
  | [], _ => rfl
  | r :: rs, h => by
    rw [List.map_cons, List.mapM_cons, yF rs fun x hx => h x (List.mem_cons_of_mem _ hx)]
    have := zcw r
    rw [h r List.mem_cons_self] at this
    rw [this]
    rfl
def srtT (rs : List (List L3)) : List D := (qx (rs.map keyT)).map jO
theorem wj {n : Nat} {rs : List (List L3)} (h : ∀ r ∈ rs, r.length = n) (h64 : rs.length < 64) : xB [.list (rs.map jM)] = some (srtT rs) := by
  cases rs with
  | nil => rfl
  | cons r rs =>
    have e := yF (r :: rs) h
    have el : (r.map pairD).length = n := by rw [List.length_map]; exact h r List.mem_cons_self
    show zeu (r.map pairD).length ((r :: rs).map jM) = _
    rw [el]
    unfold zeu
    rw [e, Option.bind_some, if_pos (by rw [List.length_map]; exact h64)]
    rfl
theorem ww (rs : List (List L3)) : (srtT rs).Perm (rs.map jM) := by
  have := (qq (rs.map keyT)).map jO
  rw [List.map_map, show (jO ∘ keyT) = jM from funext zby] at this
  exact this
theorem zeI {c : Int} {n : Nat} (ec : c = n) (hn : n ≤ 100) {ls : List L3} (hl : ∀ l ∈ ls, LkOk c l) (h7 : ls.length ≤ 12) (h64 : ((yi [[]] ls).filter fun r => decide (r.length = n)).length < 64) (hsh : ∀ r ∈ yi [[]] ls, r.length ≤ 1000) (hln : (yi [[]] ls).length ≤ 1000000) :
    F_trees [zO c ls] = some (.tuple (srtT ((yi [[]] ls).filter fun r => decide (r.length = n)))) := by
  subst ec
  have pw : 2 ^ ls.length ≤ 2 ^ 12 := Nat.pow_le_pow_right (by omega) h7
  obtain ⟨y4, e⟩ := yX hn (some (.val (zO n ls))) (vI n) (some (.val (.tuple (ls.map zw)))) ls [[]] none hl (fun r hr => by rw [List.mem_singleton.mp hr]; simp; omega) (by simp; omega)
  have rg : wq [.int ((n : Int) + 1)] = some (zu 0 (n + 1)) := by
    rw [vE (by omega) (by omega)]
    congr 2
  have er : zu 0 (n + 1) = vG n (grp [] idG) := by
    unfold zu vG
    apply List.map_congr_left
    intro k _
    show PyData.int (0 + (k : Int)) = PyData.int (k : Int)
    rw [Int.zero_add]
  unfold F_trees
  refine jc ?_
  show zap [some (.val (zO n ls)), none, none, none, none] = _
  unfold zap
  rw [zl (ρ' := [some (.val (zO n ls)), vI n, some (.val (.tuple (ls.map zw))), none, none]) (jq (d := zO n ls) rfl rfl),
    zl (ρ' := [some (.val (zO n ls)), vI n, some (.val (.tuple (ls.map zw))), some (.val (.list (([[]] : List (List L3)).map (zT n)))), none]) (jq (qd (qO (zd (zW (zd (zW zj rfl) (zd ji (zd (x := .tuple (vG n (grp [] idG))) (by
      unfold zfv
      rw [xo (zd (zE (x := .int n) rfl ji (zD _ _)) zj) rg, Option.bind_some, er, if_pos (show _ ≤ sizeLine by show _ ≤ 16777216; rw [ze7]; omega)]) zj))) (zgU _ _ _)) zj) (by simp))) rfl),
    zl (ju (ds := ls.map zw) (qa (x := .tuple (ls.map zw)) rfl rfl) e)]
  refine qT (zW (zd (qd (zdt (zd (qd (jF (ds := (yi [[]] ls).map (zT n)) (qa (x := .list ((yi [[]] ls).map (zT n))) rfl rfl) (by rw [List.length_map]; omega) (xG (zT n) (fun r => decide (r.length = n)) jM _ fun r hr => ⟨[some (.val (.tuple (r.map pairD))), vI (ways r), some (.val (.tuple (vG n (grp r idG)))), vI n], rfl, ?_, fun _ => ?_⟩))) zj) (wj (n := n) (fun r hr => of_decide_eq_true (List.mem_filter.mp hr).2) h64))) zj) (qB _))
  · have : gBo (g2 eqD (gA lenD (zc (gVar 0) gNil)) (gVar 3)) [some (.val (.tuple (r.map pairD))), vI (ways r), some (.val (.tuple (vG n (grp r idG)))), vI n] = some (decide (((r.map pairD).length : Int) = n)) := qE (zE (zW (zd (x := .tuple (r.map pairD)) rfl zj) rfl) (y := .int n) rfl (xZ _ _))
    have e9 : decide ((r.length : Int) = n) = decide (r.length = n) := decide_eq_decide.mpr (by omega)
    rw [this, List.length_map, e9]
  · exact zW (zd (x := .tuple (r.map pairD)) rfl (zd (x := .int (ways r)) rfl zj)) (zcp _ _)
def wayI : D → Int
  | .tuple [_, .int w] => w
  | _ => 0
theorem zdC {a b : List Int} (h : a.Perm b) : a.sum = b.sum := by
  induction h with
  | nil => rfl
  | cons x _ ih => rw [List.sum_cons, List.sum_cons, ih]
  | swap x y l => simp only [List.sum_cons]; omega
  | trans _ _ h1 h2 => rw [h1, h2]
theorem zdX (rs : List (List L3)) : ((srtT rs).map wayI).sum = (rs.map ways).sum := by
  rw [zdC ((ww rs).map wayI), List.map_map]
  rfl
theorem kC {ρ : Env'} (X : List D) (h : ∀ d ∈ X, ∃ t w, d = .tuple [t, .int w]) : xX (hTup 2 (zy (hName 0) (zy (hName 1) hNil))) xQ (gVar 1) [none, none] X = some ((X.map wayI).map PyData.int) := by
  have := qt (h := hTup 2 (zy (hName 0) (zy (hName 1) hNil))) (ge := gVar 1) (ρ := [none, none]) (fun d : D => d) (fun d => .int (wayI d)) X fun d hd => by
    obtain ⟨t, w, rfl⟩ := h d hd
    exact ⟨[some (.val t), vI w], rfl, rfl⟩
  rw [List.map_id'] at this
  rw [this, List.map_map]
  rfl
theorem zen {rs : List (List L3)} : ∀ d ∈ srtT rs, ∃ t w, d = .tuple [t, .int w] := fun d hd => by
  obtain ⟨r, _, rfl⟩ := List.mem_map.mp ((ww rs).mem_iff.mp hd)
  exact ⟨_, _, rfl⟩
theorem zdR {c : Int} {ls : List L3} {rs : List (List L3)} (h : F_trees [zO c ls] = some (.tuple (srtT rs))) (hl : rs.length ≤ 1000) : F_count_of [zO c ls] = some (.int ((rs.map ways).sum)) := by
  unfold F_count_of
  refine jc ?_
  show xS [some (.val (zO c ls))] = _
  unfold xS
  refine qT (zW (zd (qd (jF (ds := srtT rs) (qa (zW (zd (x := zO c ls) rfl zj) (by rw [yV]; exact h)) rfl) (by rw [(ww rs).length_eq, List.length_map]; omega) (kC (ρ := []) _ zen))) zj) ?_)
  rw [xJ, zdX]
end L2.Y
namespace L2.Y
open PySem
theorem zc2 : ∀ {ds : List D}, (∀ d ∈ ds, d.canLay0 = true) → PyData.canLayAll0 ds = true
  | [], _ => rfl
  | d :: ds, h => by rw [PyData.canLayAll0, h d List.mem_cons_self, zc2 fun x hx => h x (List.mem_cons_of_mem _ hx)]; rfl
theorem zcv {m : Nat} : ∀ {ds : List D}, (∀ d ∈ ds, d.depth ≤ m) → PyData.depthAll ds ≤ m
  | [], _ => by rw [PyData.depthAll]; exact Nat.zero_le _
  | d :: ds, h => by
    rw [PyData.depthAll]
    have a := h d List.mem_cons_self
    have b := zcv (m := m) fun x hx => h x (List.mem_cons_of_mem _ hx)
    omega
def Laid (m : Nat) (d : D) : Prop := d.canLay0 = true ∧ d.depth ≤ m
theorem vM (i : Int) (m : Nat) : Laid m (.int i) := ⟨rfl, by rw [PyData.depth] <;> simp⟩
theorem xf {m : Nat} {ds : List D} (h : ∀ d ∈ ds, Laid m d) : Laid (m + 1) (.tuple ds) := ⟨by rw [PyData.canLay0]; exact zc2 fun d hd => (h d hd).1, by rw [PyData.depth]; have := zcv (m := m) fun d hd => (h d hd).2; omega⟩
theorem kQ {m : Nat} {ds : List D} (h : ∀ d ∈ ds, Laid m d) : Laid (m + 1) (.list ds) := ⟨by rw [PyData.canLay0]; exact zc2 fun d hd => (h d hd).1, by rw [PyData.depth]; have := zcv (m := m) fun d hd => (h d hd).2; omega⟩
theorem Laid.shaped {m : Nat} {d : D} (h : Laid m d) (hm : m ≤ 64) : SeqAt.shaped d = true := by
  unfold SeqAt.shaped
  rw [h.1, decide_eq_true (Nat.le_trans h.2 hm)]
  rfl
theorem Laid.ne {m : Nat} {d : D} (h : Laid m d) (hm : m ≤ 64) : neD d d = some (.bool false) := by
  unfold neD
  rw [h.shaped hm, SeqAt.eqv_refl d h.1]
  rfl
theorem zdo (l : List Int) (m : Nat) : ∀ d ∈ l.map PyData.int, Laid m d := fun d hd => by
  obtain ⟨i, _, rfl⟩ := List.mem_map.mp hd
  exact vM i m
theorem zbf (r : List L3) : Laid 3 (jM r) := by
  refine xf fun d hd => ?_
  simp only [List.mem_cons, List.not_mem_nil, or_false] at hd
  rcases hd with rfl | rfl
  · refine xf fun d hd => ?_
    obtain ⟨l, _, rfl⟩ := List.mem_map.mp hd
    refine xf fun d hd => ?_
    simp only [List.mem_cons, List.not_mem_nil, or_false] at hd
    rcases hd with rfl | rfl <;> exact vM _ _
  · exact vM _ _
theorem zeB (rs : List (List L3)) : Laid 4 (.tuple (srtT rs)) := xf fun d hd => by
  obtain ⟨r, _, rfl⟩ := List.mem_map.mp ((ww rs).mem_iff.mp hd)
  exact zbf r
def rowI (r : List Int) : D := .list (r.map PyData.int)
def matD (rs : List (List Int)) : D := .list (rs.map rowI)
theorem zeT (rs : List (List Int)) : Laid 2 (matD rs) := kQ fun d hd => by
  obtain ⟨r, _, rfl⟩ := List.mem_map.mp hd
  exact kQ (zdo r 0)
theorem zfO (rs : List (List Int)) : eqD (matD rs) (.list []) = some (.bool rs.isEmpty) := by
  have h2 : SeqAt.shaped (.list []) = true := by simp [SeqAt.shaped, PyData.canLay0, PyData.canLayAll0, PyData.depth, PyData.depthAll]
  unfold eqD
  rw [(zeT rs).shaped (by decide), h2]
  cases rs <;> rfl
theorem ze1 : ∀ (ds : List D) (i k : Nat), (qu i ds)[k]? = (ds[k]?).map fun d => (.tuple [.int ((i + k : Nat) : Int), d] : D)
  | [], _, _ => by simp [qu]
  | d :: ds, i, 0 => by simp [qu]
  | d :: ds, i, k + 1 => by
    show (qu (i + 1) ds)[k]? = _
    rw [ze1 ds (i + 1) k, List.getElem?_cons_succ, show i + 1 + k = i + (k + 1) by omega]
def cutC (j : Nat) (r : List Int) : List Int := r.take j ++ r.drop (j + 1)
def kE (k : Nat) (r0 : List Int) (rs : List (List Int)) (j : Nat) : Int := r0.getD j 0 * detF k (rs.map fun r => r.take j ++ r.drop (j + 1)) * (1 - ((j : Int) % 2) * 2)
theorem zg5 (k : Nat) (r0 : List Int) (rs : List (List Int)) : detF (k + 1) (r0 :: rs) = ((List.range r0.length).map (kE k r0 rs)).sum := rfl
theorem zgv {r : List Int} {j : Nat} (h : j < r.length) (hl : r.length ≤ 1000) (x2 : Option En) : g2 addD (gSl (gVar 0) jN (jz (gVar 1))) (gSl (gVar 0) (jz (g2 addD (gVar 1) (gK (.int 1)))) jN) [some (.val (rowI r)), vI j] = some (rowI (cutC j r)) := by
  have t1 : slD (rowI r) none (some (j : Int)) = some (.list ((r.take j).map PyData.int)) := by
    show some (PyData.list (cutD (r.map PyData.int) none (some (j : Int)))) = _
    rw [kH _ _ (by rw [List.length_map]; omega), List.map_take]
  have t2 : slD (rowI r) (some ((j : Int) + 1)) none = some (.list ((r.drop (j + 1)).map PyData.int)) := by
    show some (PyData.list (cutD (r.map PyData.int) (some ((j + 1 : Nat) : Int)) none)) = _
    rw [wI _ _ (by rw [List.length_map]; omega), List.map_drop]
  refine zE (zaR (d := rowI r) rfl rfl (xC (i := j) rfl) t1) (zaR (d := rowI r) rfl (xC (zE (x := .int j) rfl ji (zD _ _))) rfl t2) ?_
  show (if ((r.take j).map PyData.int).length + ((r.drop (j + 1)).map PyData.int).length ≤ sizeLine then _ else none) = _
  rw [if_pos (show _ ≤ sizeLine by show _ ≤ 16777216; rw [List.length_map, List.length_map, List.length_take, List.length_drop]; omega), ← List.map_append]
  rfl
theorem yK : ∀ (k : Nat) (rows : List (List Int)) (m : Nat), rows.length < k → m ≤ 100 → (∀ r ∈ rows, r.length = m) → (∀ r ∈ rows, ∀ x ∈ r, -(2 ^ 64) < x ∧ x < 2 ^ 64) → rows.length ≤ 1000 → F_law_measure k [matD rows] = some (.int (detF k rows))
  | 0, _, _, h, _, _, _, _ => absurd h (by omega)
  | k + 1, rows, m, hk, hm, hs, hb, hl => by
    show qk 5 (jP (F_law_measure k)) [matD rows] = _
    refine jc ?_
    show jP (F_law_measure k) [some (.val (matD rows)), none, none, none, none] = _
    have ec : gBo (g2 eqD (gVar 0) (gLs (gLst gNil))) [some (.val (matD rows)), none, none, none, none] = some rows.isEmpty := qE (zE (x := matD rows) rfl (qd (qO zj (by simp))) (zfO rows))
    unfold jP
    match rows, hk, hs, hb, hl, ec with
    | [], _, _, _, _, ec => exact zej (by rw [zbJ ec]; rfl)
    | r0 :: rs, hk, hs, hb, hl, ec =>
      rw [zl (ρ' := [some (.val (matD (r0 :: rs))), none, none, none, none]) (by rw [zbB ec]; rfl), zl (ρ' := [some (.val (matD (r0 :: rs))), vI 0, none, none, none]) (jq ji rfl)]
      have l0 : r0.length = m := hs r0 List.mem_cons_self
      obtain ⟨ρ', e, x2, x3, x4, hr⟩ := qe (h := hTup 2 (zy (hName 2) (zy (hName 3) hNil))) (gb := (sSeq (zcf 4 (qG 1 [2] (gIt seqD (gSl (gVar 0) (jz (gK (.int 1))) jN)) (hName 0) xQ (g2 addD (gSl (gVar 0) jN (jz (gVar 1))) (gSl (gVar 0) (jz (g2 addD (gVar 1) (gK (.int 1)))) jN))))
        (sAsg (hName 1) (g2 addD (gVar 1) (g2 qi (g2 qi (gVar 3) (gA (zS 1 (F_law_measure k)) (zc (gVar 4) gNil))) (g2 subD (gK (.int 1)) (g2 qi (g2 modD (gVar 2) (gK (.int 2))) (gK (.int 2)))))))))
        (fun i ρ => ∃ x2 x3 x4, ρ = [some (.val (matD (r0 :: rs))), vI (((List.range i).map (kE k r0 rs)).sum), x2, x3, x4]) (qu 0 (r0.map PyData.int)) 0 [some (.val (matD (r0 :: rs))), vI 0, none, none, none] ⟨none, none, none, rfl⟩ (fun j d ρ hj ⟨x2, x3, x4, hr⟩ => by
          subst hr
          rw [ze1, List.getElem?_map] at hj
          obtain ⟨d0, hd0, rfl⟩ := Option.map_eq_some_iff.mp hj
          obtain ⟨x, hx, rfl⟩ := Option.map_eq_some_iff.mp hd0
          obtain ⟨jl, jx⟩ := List.getElem?_eq_some_iff.mp hx
          have hxb := hb r0 List.mem_cons_self x (jx ▸ List.getElem_mem jl)
          have ih := yK k (rs.map (cutC j)) (m - 1) (by rw [List.length_map]; simp only [List.length_cons] at hk; omega) (by omega) (fun r hr => by
            obtain ⟨r', h', rfl⟩ := List.mem_map.mp hr
            have := hs r' (List.mem_cons_of_mem _ h')
            unfold cutC
            rw [List.length_append, List.length_take, List.length_drop]
            omega) (fun r hr x hx => by
            obtain ⟨r', h', rfl⟩ := List.mem_map.mp hr
            refine hb r' (List.mem_cons_of_mem _ h') x ?_
            rcases List.mem_append.mp hx with q | q
            · exact List.mem_of_mem_take q
            · exact List.mem_of_mem_drop q) (by rw [List.length_map]; simp only [List.length_cons] at hl; omega)
          refine ⟨[some (.val (matD (r0 :: rs))), vI (((List.range (0 + j)).map (kE k r0 rs)).sum), vI ((0 + j : Nat) : Int), vI x, x4], [some (.val (matD (r0 :: rs))), vI (((List.range (0 + j + 1)).map (kE k r0 rs)).sum), vI ((0 + j : Nat) : Int), vI x, some (.val (matD (rs.map (cutC j))))], rfl, ?_, _, _, _, rfl⟩
          rw [Nat.zero_add]
          rw [zl (ρ' := [some (.val (matD (r0 :: rs))), vI (((List.range j).map (kE k r0 rs)).sum), vI (j : Int), vI x, some (.val (matD (rs.map (cutC j))))]) (by
            refine zeW (ds := (rs.map (cutC j)).map rowI) (jF (ds := rs.map rowI) (qa (zaR (d := matD (r0 :: rs)) (r := .list (rs.map rowI)) rfl (xC ji) rfl ?_) rfl) (by rw [List.length_map]; simp only [List.length_cons] at hl; omega) ?_)
            · show some (PyData.list (cutD ((r0 :: rs).map rowI) (some ((1 : Nat) : Int)) none)) = _
              rw [wI _ _ (by simp)]
              rfl
            · rw [List.map_map]
              exact qt rowI (rowI ∘ cutC j) rs fun r hr => ⟨[some (.val (rowI r)), vI (j : Int)], rfl, zgv (by have := hs r (List.mem_cons_of_mem _ hr); omega) (by have := hs r (List.mem_cons_of_mem _ hr); omega) none⟩)]
          have ex : r0.getD j 0 = x := by rw [List.getD_eq_getElem?_getD, hx]; rfl
          have et : kE k r0 rs j = x * detF k (rs.map (cutC j)) * (1 - ((j : Int) % 2) * 2) := by unfold kE; rw [ex]; rfl
          rw [List.range_succ, List.map_append, List.sum_append, List.map_singleton, List.sum_singleton, et]
          exact jq (zE (x := .int (((List.range j).map (kE k r0 rs)).sum)) rfl (zE (zE (x := .int x) rfl (zW (zd (x := matD (rs.map (cutC j))) rfl zj) (by rw [yV]; exact ih)) (qL hxb.1 hxb.2)) (zE ji (zE (zE (x := .int (j : Int)) rfl ji (zJ (by omega))) ji (jV (by omega) (by omega))) (ve _ _)) (jV (by omega) (by omega))) (zD _ _)) rfl)
      subst hr
      have le : (qu 0 (r0.map PyData.int)).length = r0.length := by
        have : ∀ (ds : List D) (i : Nat), (qu i ds).length = ds.length := fun ds => by
          induction ds with
          | nil => exact fun _ => rfl
          | cons d ds ih => exact fun i => by rw [qu, List.length_cons, List.length_cons, ih]
        rw [this, List.length_map]
      rw [le, Nat.zero_add] at e
      rw [zl (ju (ds := qu 0 (r0.map PyData.int)) (xo (zd (zE (x := matD (r0 :: rs)) rfl ji (show ixD (matD (r0 :: rs)) (.int 0) = some (rowI r0) from xT (by decide) rfl)) zj) rfl) e), zg5]
      exact qT rfl
end L2.Y
namespace L2.Y
open PySem
theorem zb0 (l : List Int) (p : Int) : inD (.int p) (.list (l.map PyData.int)) = some (.bool (decide (p ∈ l))) := by
  have h1 : (l.map PyData.int).all SeqAt.shaped = true := by
    rw [List.all_map, List.all_eq_true]
    exact fun x _ => xa x
  have : hasD (.int p) (.list (l.map PyData.int)) = some (decide (p ∈ l)) := by
    show (if ((l.map PyData.int).all SeqAt.shaped && SeqAt.shaped (.int p)) = true then some ((l.map PyData.int).any fun y => PyData.eqv y (.int p)) else none) = _
    rw [if_pos (by rw [h1, xa]; rfl)]
    congr 1
    rw [List.any_map, Bool.eq_iff_iff, List.any_eq_true, decide_eq_true_eq]
    constructor
    · rintro ⟨x, hx, h⟩
      simp only [Function.comp, PyData.eqv] at h
      have : x = p := by simpa using h
      exact this ▸ hx
    · intro hx
      refine ⟨p, hx, ?_⟩
      simp only [Function.comp, PyData.eqv]
      simp
  unfold inD
  rw [this]
  rfl
theorem zeA (a b : Bool) : neD (.bool a) (.bool b) = some (.bool (a != b)) := by
  unfold neD
  rw [wJ, wJ]
  cases a <;> cases b <;> simp [PyData.eqv]
theorem zbG (x0 x1 x3 : Option En) (ks : List Int) (l : L3) (hk : ks.length ≤ 100000) :
    jn [x0, x1, some (.own (.list (ks.map PyData.int))), x3, vI l.1, vI l.2.1, vI l.2.2] = some (.nxt [x0, x1, some (.own (.list ((ja ks l).map PyData.int))), x3, vI l.1, vI l.2.1, vI l.2.2]) := by
  let ρ : Env' := [x0, x1, some (.own (.list (ks.map PyData.int))), x3, vI l.1, vI l.2.1, vI l.2.2]
  have i1 : g2 inD (gVar 4) (qj 2) ρ = some (.bool (decide (l.1 ∈ ks))) := zE (x := .int l.1) rfl (y := .list (ks.map PyData.int)) rfl (zb0 _ _)
  have i2 : g2 inD (gVar 5) (qj 2) ρ = some (.bool (decide (l.2.1 ∈ ks))) := zE (x := .int l.2.1) rfl (y := .list (ks.map PyData.int)) rfl (zb0 _ _)
  have ec : gBo (g2 neD (g2 inD (gVar 4) (qj 2)) (g2 inD (gVar 5) (qj 2))) ρ = some (decide (l.1 ∈ ks) != decide (l.2.1 ∈ ks)) := qE (zE i1 i2 (zeA _ _))
  have ix : ∀ b : Bool, gA intOfD (zc (g2 inD (gVar 4) (qj 2)) gNil) ρ = some (.int (if decide (l.1 ∈ ks) = true then 1 else 0)) := fun _ => zW (zd i1 zj) rfl
  have ls : gLs (gLst (zc (gVar 4) (zc (gVar 5) gNil))) ρ = some (.list [.int l.1, .int l.2.1]) := qd (qO (zd (x := .int l.1) rfl (zd (x := .int l.2.1) rfl zj)) (by simp))
  have lm : (ks.map PyData.int).length < 16777216 := by rw [List.length_map]; omega
  unfold jn
  show sIf _ _ _ ρ = _
  unfold ja
  by_cases p : l.1 ∈ ks <;> by_cases q : l.2.1 ∈ ks
  · rw [if_pos p, if_pos q, zbB (by rw [ec, decide_eq_true p, decide_eq_true q]; rfl)]
    rfl
  · rw [if_pos p, if_neg q, zbJ (by rw [ec, decide_eq_true p, decide_eq_false q]; rfl), xy (ds := ks.map PyData.int) (d := .int l.2.1) (zE ls (ix true) (by rw [decide_eq_true p]; rfl)) rfl lm, List.map_append]
    rfl
  · rw [if_neg p, if_pos q, zbJ (by rw [ec, decide_eq_false p, decide_eq_true q]; rfl), xy (ds := ks.map PyData.int) (d := .int l.1) (zE ls (ix true) (by rw [decide_eq_false p]; rfl)) rfl lm, List.map_append]
    rfl
  · rw [if_neg p, if_neg q, zbB (by rw [ec, decide_eq_false p, decide_eq_false q]; rfl)]
    rfl
theorem zaK (ks : List Int) (l : L3) : (ja ks l).length ≤ ks.length + 1 := by
  unfold ja
  split
  · split <;> simp
  · split <;> simp
theorem zaw : ∀ (ls : List L3) (ks : List Int), (ls.foldl ja ks).length ≤ ks.length + ls.length
  | [], _ => Nat.le_refl _
  | l :: ls, ks => by
    have a := zaK ks l
    have b := zaw ls (ja ks l)
    rw [List.foldl_cons, List.length_cons]
    omega
theorem yM (x0 x1 x3 : Option En) : ∀ (r : List L3) (ks : List Int) (x4 x5 x6 : Option En), ks.length + r.length ≤ 100000 →
    ∃ y4 y5 y6, forF (hTup 3 (zy (hName 4) (zy (hName 5) (zy (hName 6) hNil)))) jn (r.map zw) [x0, x1, some (.own (.list (ks.map PyData.int))), x3, x4, x5, x6] = some (.nxt [x0, x1, some (.own (.list ((r.foldl ja ks).map PyData.int))), x3, y4, y5, y6])
  | [], ks, x4, x5, x6, _ => ⟨x4, x5, x6, rfl⟩
  | l :: r, ks, x4, x5, x6, h => by
    rw [List.length_cons] at h
    have a := zaK ks l
    obtain ⟨y4, y5, y6, e⟩ := yM x0 x1 x3 r (ja ks l) (vI l.1) (vI l.2.1) (vI l.2.2) (by omega)
    refine ⟨y4, y5, y6, ?_⟩
    show (jn [x0, x1, some (.own (.list (ks.map PyData.int))), x3, vI l.1, vI l.2.1, vI l.2.2]).bind _ = _
    rw [zbG x0 x1 x3 ks l (by omega), Option.bind_some]
    exact e
def rowD (r : List L3) : D := .tuple (r.map zw)
theorem yG (r : List L3) (x1 : Option En) : ∀ (n : Nat) (lo : Int) (ks : List Int) (x3 x4 x5 x6 : Option En), ks.length + n * r.length ≤ 100000 →
    ∃ y3 y4 y5 y6, forF (hName 3) jt (zu lo n) [some (.val (rowD r)), x1, some (.own (.list (ks.map PyData.int))), x3, x4, x5, x6] = some (.nxt [some (.val (rowD r)), x1, some (.own (.list ((zV r n ks).map PyData.int))), y3, y4, y5, y6])
  | 0, lo, ks, x3, x4, x5, x6, _ => ⟨x3, x4, x5, x6, rfl⟩
  | n + 1, lo, ks, x3, x4, x5, x6, h => by
    rw [Nat.succ_mul] at h
    have a := zaw r ks
    obtain ⟨z4, z5, z6, e1⟩ := yM (some (.val (rowD r))) x1 (vI lo) r ks x4 x5 x6 (by omega)
    obtain ⟨y3, y4, y5, y6, e2⟩ := yG r x1 n (lo + 1) (r.foldl ja ks) (vI lo) z4 z5 z6 (by omega)
    refine ⟨y3, y4, y5, y6, ?_⟩
    have hr : zu lo (n + 1) = .int lo :: zu (lo + 1) n := by
      unfold zu
      rw [List.range_succ_eq_map, List.map_cons, List.map_map]
      congr 1
      · simp
      · apply List.map_congr_left
        intro i _
        show PyData.int (lo + ((i + 1 : Nat) : Int)) = PyData.int (lo + 1 + (i : Int))
        congr 1
        omega
    rw [hr]
    show (jt [some (.val (rowD r)), x1, some (.own (.list (ks.map PyData.int))), vI lo, x4, x5, x6]).bind _ = _
    rw [show jt [some (.val (rowD r)), x1, some (.own (.list (ks.map PyData.int))), vI lo, x4, x5, x6] = some (.nxt [some (.val (rowD r)), x1, some (.own (.list ((r.foldl ja ks).map PyData.int))), vI lo, z4, z5, z6]) by
      unfold jt
      exact ju (ds := r.map zw) (qa (x := rowD r) rfl rfl) e1, Option.bind_some]
    exact e2
theorem zdB {n : Nat} (hn : n ≤ 100) {r : List L3} (hr : r.length ≤ 100) : F_law_leads [rowD r, .int n] = some (.bool (decide ((zV r n [0]).length = n + 1))) := by
  have pr : n * r.length ≤ 100 * 100 := Nat.mul_le_mul hn hr
  obtain ⟨y3, y4, y5, y6, e⟩ := yG r (vI n) n 0 [0] none none none none (by simp; omega)
  unfold F_law_leads
  refine jc ?_
  show xp [some (.val (rowD r)), vI n, none, none, none, none, none] = _
  unfold xp
  rw [zl (ρ' := [some (.val (rowD r)), vI n, some (.own (.list (([0] : List Int).map PyData.int))), none, none, none, none]) (wR (ds := [.int 0]) (qO (zd ji zj) (by simp))),
    zl (ju (ds := zu 0 n) (xo (zd (x := .int n) rfl zj) (by rw [vE (by omega) (by omega)]; rfl)) e)]
  refine qT (zE (zW (zd (x := .list ((zV r n [0]).map PyData.int)) rfl zj) (show lenD [.list ((zV r n [0]).map PyData.int)] = some (.int (((zV r n [0]).map PyData.int).length : Nat)) from rfl)) (zE (x := .int n) rfl ji (zD _ _)) ?_)
  rw [xZ, List.length_map, decide_eq_decide.mpr (show ((zV r n [0]).length : Int) = (n : Int) + 1 ↔ (zV r n [0]).length = n + 1 by omega)]
theorem zaG {n : Nat} (S Y : Option En) : ∀ (ls : List L3) (rs : List (List L3)) (x4 : Option En), (∀ r ∈ rs, r.length + ls.length ≤ 1000) → rs.length * 2 ^ ls.length ≤ 1000000 →
    ∃ y4, forF (hName 4) wG (ls.map zw) [S, Y, vI n, some (.val (.list (rs.map rowD))), x4, none, none, none, none, none, none, none, none, none, none] = some (.nxt [S, Y, vI n, some (.val (.list ((jI n rs ls).map rowD))), y4, none, none, none, none, none, none, none, none, none, none])
  | [], rs, x4, _, _ => ⟨x4, rfl⟩
  | l :: ls, rs, x4, hr, hlen => by
    have hlen2 : rs.length * 2 ^ (ls.length + 1) ≤ 1000000 := hlen
    rw [Nat.pow_succ] at hlen2
    have p1 : 1 ≤ 2 ^ ls.length := Nat.one_le_two_pow
    have a1 : rs.length ≤ rs.length * (2 ^ ls.length * 2) := Nat.le_mul_of_pos_right _ (by omega)
    have fl := List.length_filter_le (fun r : List L3 => decide (r.length < n)) rs
    obtain ⟨y4, e⟩ := zaG (n := n) S Y ls (rs ++ (rs.filter fun r => decide (r.length < n)).map (· ++ [l])) (some (.val (zw l))) (fun r h => by
      rcases List.mem_append.mp h with h | h
      · have := hr r h; rw [List.length_cons] at this; omega
      · obtain ⟨r', h', rfl⟩ := List.mem_map.mp h
        have := hr r' (List.mem_filter.mp h').1
        rw [List.length_cons] at this
        rw [List.length_append, List.length_singleton]
        omega) (by
      rw [List.length_append, List.length_map]
      refine Nat.le_trans (Nat.mul_le_mul_right _ (show rs.length + (rs.filter fun r => decide (r.length < n)).length ≤ rs.length * 2 by omega)) ?_
      rw [Nat.mul_assoc, Nat.mul_comm 2]
      exact hlen2)
    refine ⟨y4, ?_⟩
    let ρ : Env' := [S, Y, vI n, some (.val (.list (rs.map rowD))), some (.val (zw l)), none, none, none, none, none, none, none, none, none, none]
    show (wG ρ).bind _ = _
    rw [show wG ρ = some (.nxt [S, Y, vI n, some (.val (.list ((rs ++ (rs.filter fun r => decide (r.length < n)).map (· ++ [l])).map rowD))), some (.val (zw l)), none, none, none, none, none, none, none, none, none, none]) by
      unfold wG
      refine jq (d := .list ((rs ++ (rs.filter fun r => decide (r.length < n)).map (· ++ [l])).map rowD)) (zE (x := .list (rs.map rowD)) rfl (qd (jF (ds := rs.map rowD) (r := (rs.filter fun r => decide (r.length < n)).map fun r => rowD (r ++ [l])) (qa (x := .list (rs.map rowD)) rfl rfl) (by rw [List.length_map]; omega) (xG rowD (fun r => decide (r.length < n)) (fun r => rowD (r ++ [l])) rs fun r h => ⟨[some (.val (rowD r)), some (.val (zw l)), vI n], rfl, ?_, fun _ => ?_⟩))) ?_) rfl
      · have : gBo (g2 ltD (gA lenD (zc (qj 0) gNil)) (gVar 2)) [some (.val (rowD r)), some (.val (zw l)), vI n] = some (decide (((r.map zw).length : Int) < n)) := qE (zE (zW (zd (x := rowD r) rfl zj) rfl) (y := .int n) rfl (zag _ _))
        rw [this, List.length_map, decide_eq_decide.mpr (show (r.length : Int) < (n : Int) ↔ r.length < n by omega)]
      · refine zE (x := rowD r) rfl (zW (zd (x := zw l) rfl zj) (zhg _)) ?_
        show (if (r.map zw).length + 1 ≤ sizeLine then _ else none) = _
        have := hr r h
        rw [if_pos (show _ ≤ sizeLine by show _ ≤ 16777216; rw [List.length_map]; omega)]
        unfold rowD
        rw [List.map_append]
        rfl
      · show (if (rs.map rowD).length + ((rs.filter fun r => decide (r.length < n)).map fun r => rowD (r ++ [l])).length ≤ sizeLine then _ else none) = _
        rw [if_pos (show _ ≤ sizeLine by show _ ≤ 16777216; rw [List.length_map, List.length_map]; omega), List.map_append, List.map_map]
        rfl, Option.bind_some]
    exact e
def lW (S Y R : Option En) (n : Nat) (x4 : Option En) (ds : List (List L3)) (x6 x7 x8 x9 x10 : Option En) : Env' := [S, Y, vI n, R, x4, some (.own (.list (ds.map jM))), x6, x7, x8, x9, x10, none, none, none, none]
theorem vX (S Y R : Option En) (n : Nat) (x4 : Option En) (ds : List (List L3)) (x6 : Option En) : ∀ (r : List L3) (w : Int) (x8 x9 x10 : Option En), (∀ l ∈ r, l.2.2 ≤ 4 ∧ 1 ≤ l.2.2) →
    ∃ y8 y9 y10, forF (hTup 3 (zy (hName 8) (zy (hName 9) (zy (hName 10) hNil)))) wM (r.map zw) (lW S Y R n x4 ds x6 (vI w) x8 x9 x10) = some (.nxt (lW S Y R n x4 ds x6 (vI (r.foldl (fun w l => w * l.2.2) w)) y8 y9 y10))
  | [], w, x8, x9, x10, _ => ⟨x8, x9, x10, rfl⟩
  | l :: r, w, x8, x9, x10, h => by
    have q := h l List.mem_cons_self
    obtain ⟨y8, y9, y10, e⟩ := vX S Y R n x4 ds x6 r (w * l.2.2) (vI l.1) (vI l.2.1) (vI l.2.2) fun x hx => h x (List.mem_cons_of_mem _ hx)
    refine ⟨y8, y9, y10, ?_⟩
    show (wM (lW S Y R n x4 ds x6 (vI w) (vI l.1) (vI l.2.1) (vI l.2.2))).bind _ = _
    rw [show wM (lW S Y R n x4 ds x6 (vI w) (vI l.1) (vI l.2.1) (vI l.2.2)) = some (.nxt (lW S Y R n x4 ds x6 (vI (w * l.2.2)) (vI l.1) (vI l.2.1) (vI l.2.2))) by
      unfold wM
      exact jq (zE (x := .int w) rfl (y := .int l.2.2) rfl (jV (by omega) (by omega))) rfl, Option.bind_some]
    exact e
theorem vc (S Y R : Option En) {n : Nat} (hn : n ≤ 100) (x4 : Option En) : ∀ (rs ds : List (List L3)) (x6 x7 x8 x9 x10 : Option En), (∀ r ∈ rs, r.length ≤ 100) → (∀ r ∈ rs, ∀ l ∈ r, l.2.2 ≤ 4 ∧ 1 ≤ l.2.2) → ds.length + rs.length ≤ 1000000 →
    ∃ y6 y7 y8 y9 y10, forF (hName 6) xn (rs.map rowD) (lW S Y R n x4 ds x6 x7 x8 x9 x10) = some (.nxt (lW S Y R n x4 (ds ++ rs.filter (trB n)) y6 y7 y8 y9 y10))
  | [], ds, x6, x7, x8, x9, x10, _, _, _ => ⟨x6, x7, x8, x9, x10, by rw [List.filter_nil, List.append_nil]; rfl⟩
  | r :: rs, ds, x6, x7, x8, x9, x10, hr, hw, hlen => by
    rw [List.length_cons] at hlen
    have lr := hr r List.mem_cons_self
    have ec : zbt (gBo (g2 eqD (gA lenD (zc (gVar 6) gNil)) (gVar 2))) (gTr (gA (zS 2 F_law_leads) (zc (gVar 6) (zc (gVar 2) gNil)))) (lW S Y R n x4 ds (some (.val (rowD r))) x7 x8 x9 x10) = some (trB n r) := by
      refine zaX (a := decide (r.length = n)) ?_ fun _ => zha (zW (zd (x := rowD r) rfl (zd (x := .int n) rfl zj)) (by rw [qD]; exact zdB hn lr))
      have : gBo (g2 eqD (gA lenD (zc (gVar 6) gNil)) (gVar 2)) (lW S Y R n x4 ds (some (.val (rowD r))) x7 x8 x9 x10) = some (decide (((r.map zw).length : Int) = n)) := qE (zE (zW (zd (x := rowD r) rfl zj) rfl) (y := .int n) rfl (xZ _ _))
      rw [this, List.length_map, decide_eq_decide.mpr (show (r.length : Int) = (n : Int) ↔ r.length = n by omega)]
    show ∃ y6 y7 y8 y9 y10, (xn (lW S Y R n x4 ds (some (.val (rowD r))) x7 x8 x9 x10)).bind _ = _
    cases ht : trB n r with
    | false =>
      rw [ht] at ec
      obtain ⟨y6, y7, y8, y9, y10, e⟩ := vc S Y R hn x4 rs ds (some (.val (rowD r))) x7 x8 x9 x10 (fun x hx => hr x (List.mem_cons_of_mem _ hx)) (fun x hx => hw x (List.mem_cons_of_mem _ hx)) (by omega)
      refine ⟨y6, y7, y8, y9, y10, ?_⟩
      rw [List.filter_cons_of_neg (by rw [ht]; decide), show xn (lW S Y R n x4 ds (some (.val (rowD r))) x7 x8 x9 x10) = some (.nxt (lW S Y R n x4 ds (some (.val (rowD r))) x7 x8 x9 x10)) by unfold xn; rw [zbB ec]; rfl, Option.bind_some]
      exact e
    | true =>
      rw [ht] at ec
      obtain ⟨z8, z9, z10, ew⟩ := vX S Y R n x4 ds (some (.val (rowD r))) r 1 x8 x9 x10 (hw r List.mem_cons_self)
      obtain ⟨y6, y7, y8, y9, y10, e⟩ := vc S Y R hn x4 rs (ds ++ [r]) (some (.val (rowD r))) (vI (ways r)) z8 z9 z10 (fun x hx => hr x (List.mem_cons_of_mem _ hx)) (fun x hx => hw x (List.mem_cons_of_mem _ hx)) (by rw [List.length_append, List.length_singleton]; omega)
      refine ⟨y6, y7, y8, y9, y10, ?_⟩
      rw [List.filter_cons_of_pos ht, show xn (lW S Y R n x4 ds (some (.val (rowD r))) x7 x8 x9 x10) = some (.nxt (lW S Y R n x4 (ds ++ [r]) (some (.val (rowD r))) (vI (ways r)) z8 z9 z10)) by
        unfold xn
        rw [zbJ ec, zl (ρ' := lW S Y R n x4 ds (some (.val (rowD r))) (vI 1) x8 x9 x10) (jq ji rfl), zl (ju (ds := r.map zw) (qa (x := rowD r) rfl rfl) ew)]
        have es : gA tupD (zc (gA xj (zc (gLs (qG 1 [] (gIt seqD (gVar 6)) (hName 0) xQ (gSl (gVar 0) jN (jz (gK (.int 2)))))) gNil)) (zc (gVar 7) gNil)) (lW S Y R n x4 ds (some (.val (rowD r))) (vI (ways r)) z8 z9 z10) = some (jM r) :=
          zW (zd (zW (zd (qd (jF (ds := r.map zw) (qa (x := rowD r) rfl rfl) (by rw [List.length_map]; omega) (qt zw pairD r fun l _ => ⟨[some (.val (zw l))], rfl, zaR (d := zw l) rfl rfl (xC ji) (zeD l)⟩))) zj) (qB _)) (zd (x := .int (ways r)) rfl zj)) (zcp _ _)
        rw [show vI (r.foldl (fun w l => w * l.2.2) 1) = vI (ways r) from rfl, xy (ds := ds.map jM) es rfl (by rw [List.length_map]; omega)]
        unfold lW
        rw [List.map_append]
        rfl, Option.bind_some]
      rw [List.append_assoc] at e
      exact e
end L2.Y
namespace L2.Y
open PySem
theorem ze2 {ns : List Int} {ρ : Env'} (k : Int) (hk : 0 ≤ k) (h : gVar 0 ρ = some (scrD (ns.map PyData.int))) : gA (zS 2 F_law_mixed) (zc (gVar 0) (zc (gK (.int k)) gNil)) ρ = some (.int (mixI ns k)) :=
  zW (zd h (zd ji zj)) (by rw [qD]; exact zed ns k hk)
theorem zd3 {i : Nat} {gi ge : Env' → Option D} {ρ : Env'} {ds : List D} {d : D} {j : Int} (h1 : ge ρ = some d) (h2 : gi ρ = some (.int j)) (h3 : ρ[i]? = some (some (.own (.list ds)))) (h0 : 0 ≤ j) (h4 : j < ds.length) : zeJ i gi ge ρ = some (.nxt (ρ.set i (some (.own (.list (ds.set j.toNat d)))))) := by
  unfold zeJ ownL ixN
  rw [h1, Option.bind_some, h2, Option.bind_some, h3]
  simp only [Option.bind_some, if_pos h0, if_pos h4]
theorem zbS {c : Int} (p : L3 → Bool) : ∀ {ls : List L3}, (∀ l ∈ ls, LkOk c l) → 0 ≤ ((ls.filter p).map (·.2.2)).sum ∧ ((ls.filter p).map (·.2.2)).sum ≤ 4 * ls.length
  | [], _ => ⟨Int.le_refl _, by simp⟩
  | l :: ls, h => by
    obtain ⟨a, b⟩ := zbS p (ls := ls) fun x hx => h x (List.mem_cons_of_mem _ hx)
    obtain ⟨_, _, _, q4, q5⟩ := h l List.mem_cons_self
    rw [List.length_cons]
    cases hp : p l
    · rw [List.filter_cons_of_neg (by rw [hp]; decide)]
      omega
    · rw [List.filter_cons_of_pos hp, List.map_cons, List.sum_cons]
      omega
theorem zf9 {c : Int} {ls : List L3} (h : ∀ l ∈ ls, LkOk c l) (p : Int) : 0 ≤ jy ls p ∧ jy ls p ≤ 4 * ls.length := zbS _ h
theorem zfX {c : Int} {ls : List L3} (h : ∀ l ∈ ls, LkOk c l) (p q : Int) : 0 ≤ zb ls p q ∧ zb ls p q ≤ 4 * ls.length := zbS _ h
def mxR (n : Nat) (ls : List L3) (i : Nat) : List Int := (List.range n).map fun (j : Nat) => if j = i then jy ls (1 + i) else -zb ls (1 + i) (1 + j)
theorem zgE (n : Nat) (ls : List L3) : Mx n ls = (List.range n).map (mxR n ls) := rfl
def lM (S : Option En) (n : Nat) (ls : List L3) (R x4 x5 x6 x7 x8 x9 x10 : Option En) (i : Nat) (x13 x14 : Option En) : Env' :=
  [S, some (.val (zO n ls)), vI n, R, x4, x5, x6, x7, x8, x9, x10, some (.val (.list ((wb n ls).map PyData.int))), some (.own (.list (((List.range i).map (mxR n ls)).map rowI))), x13, x14]
theorem zfL (S : Option En) {n : Nat} (hn : n ≤ 100) {ls : List L3} (hll : ls.length ≤ 1000) (R x4 x5 x6 x7 x8 x9 x10 x14 : Option En) {i : Nat} (hi : i < n) :
    ∃ y14, wK (lM S n ls R x4 x5 x6 x7 x8 x9 x10 i (vI (1 + i)) x14) = some (.nxt (lM S n ls R x4 x5 x6 x7 x8 x9 x10 (i + 1) (vI (1 + i)) y14)) := by
  refine ⟨some (.val (rowI (mxR n ls i))), ?_⟩
  let r0 : List D := (List.range n).map fun (j : Nat) => (.int (-zb ls (1 + i) (1 + j)) : D)
  have l0 : r0.length = n := by simp [r0]
  have rg : wl [.int 1, .int ((n : Int) + 1)] = some ((List.range n).map fun (j : Nat) => (.int (1 + (j : Int)) : D)) := by
    rw [wF (by decide) (by decide) (by omega) (by omega), show ((n : Int) + 1 - 1).toNat = n by omega]
    rfl
  have es : r0.set i (.int (jy ls (1 + i))) = (mxR n ls i).map PyData.int := by
    apply List.ext_getElem
    · rw [List.length_set, l0]; simp [mxR]
    · intro k h1 h2
      rw [List.getElem_set]
      simp only [mxR, List.getElem_map, List.getElem_range, r0]
      by_cases e : i = k
      · rw [if_pos e, if_pos e.symm]
      · rw [if_neg e, if_neg fun z => e z.symm]
  have eb : ixD (.list ((wb n ls).map PyData.int)) (.int ((1 + (i : Int)) - 1)) = some (.int (jy ls (1 + i))) := by
    rw [show (1 + (i : Int)) - 1 = (i : Int) by omega]
    refine xT (by omega) ?_
    unfold wb
    rw [Int.toNat_natCast, Int.toNat_natCast, List.getElem?_map, List.getElem?_map, List.getElem?_range hi]
    rfl
  unfold wK
  rw [zl (ρ' := lM S n ls R x4 x5 x6 x7 x8 x9 x10 i (vI (1 + i)) (some (.own (.list r0)))) (by
    refine (wR (ds := r0) (jF (ds := (List.range n).map fun (j : Nat) => (.int (1 + (j : Int)) : D)) (xo (zd ji (zd (zE (x := .int n) rfl ji (zD _ _)) zj)) rg) (by rw [List.length_map, List.length_range]; omega) ?_)).trans rfl
    exact qt _ _ _ fun j _ => ⟨[vI (1 + j), some (.val (zO n ls)), vI (1 + i)], rfl, zgW (zW (zd (x := zO n ls) rfl (zd (x := .int (1 + i)) rfl (zd (x := .int (1 + j)) rfl zj))) (by rw [zaV]; exact xi _ _ _ _ hll)) (zd4 _)⟩)]
  rw [zl (ρ' := lM S n ls R x4 x5 x6 x7 x8 x9 x10 i (vI (1 + i)) (some (.own (.list ((mxR n ls i).map PyData.int))))) (by
    rw [zd3 (ds := r0) (j := (1 + (i : Int)) - 1) (d := .int (jy ls (1 + i))) (zE (x := .list ((wb n ls).map PyData.int)) rfl (zE (x := .int (1 + i)) rfl ji (ve _ _)) eb) (zE (x := .int (1 + i)) rfl ji (ve _ _)) rfl (by omega) (by rw [l0]; omega), show ((1 + (i : Int)) - 1).toNat = i by omega, es]
    rfl)]
  show sApp 12 (gVar 14) (lM S n ls R x4 x5 x6 x7 x8 x9 x10 i (vI (1 + i)) (some (.val (rowI (mxR n ls i))))) = _
  rw [xy (ds := ((List.range i).map (mxR n ls)).map rowI) (d := rowI (mxR n ls i)) rfl rfl (by rw [List.length_map, List.length_map, List.length_range]; omega)]
  unfold lM
  rw [List.range_succ, List.map_append, List.map_append]
  rfl
theorem zfQ (S : Option En) {n : Nat} (hn : n ≤ 100) {ls : List L3} (hll : ls.length ≤ 1000) (R x4 x5 x6 x7 x8 x9 x10 : Option En) :
    ∃ y13 y14, forF (hName 13) wK (zu 1 n) (lM S n ls R x4 x5 x6 x7 x8 x9 x10 0 none none) = some (.nxt (lM S n ls R x4 x5 x6 x7 x8 x9 x10 n y13 y14)) := by
  obtain ⟨ρ', e, x13, x14, hr⟩ := qe (h := hName 13) (gb := wK) (fun i ρ => ∃ x13 x14, ρ = lM S n ls R x4 x5 x6 x7 x8 x9 x10 i x13 x14) (zu 1 n) 0 (lM S n ls R x4 x5 x6 x7 x8 x9 x10 0 none none) ⟨none, none, rfl⟩ (fun k d ρ hk ⟨x13, x14, hr⟩ => by
    subst hr
    obtain ⟨hk2, rfl⟩ := qv hk
    rw [Nat.zero_add]
    obtain ⟨y14, e⟩ := zfL S hn hll R x4 x5 x6 x7 x8 x9 x10 x14 hk2
    exact ⟨_, _, rfl, e, _, _, rfl⟩)
  subst hr
  rw [jT, Nat.zero_add] at e
  exact ⟨x13, x14, e⟩
theorem zgz {n : Nat} {ls : List L3} (h : ∀ l ∈ ls, InL n l) : (yi [[]] ls).filter (fun r => decide (r.length = n)) = (jI n [[]] ls).filter (trB n) := by
  have e := xq (n := n) ls [[]] h (by simp)
  rw [show ([[]] : List (List L3)).filter acB = [[]] from rfl] at e
  rw [e, List.filter_filter]
  apply List.filter_congr
  intro r hr
  have hin := zab (P := InL n) (n := n) ls [[]] h (by simp) r hr
  unfold trB
  by_cases q : r.length = n
  · rw [decide_eq_true q, Bool.true_and, Bool.true_and]
    exact zdO hin q
  · rw [decide_eq_false q, Bool.false_and, Bool.false_and]
theorem zac (ns : List Int) {c : Int} {n : Nat} (ec : c = n) (h1 : 1 ≤ n) (h4 : n ≤ 4) {ls : List L3} (hw : 0 ≤ mixI ns 9 % 3) (ey : F_law_yard [.int (mixI ns 0), .int 4, .int (1 + mixI ns 9 % 3)] = some (zO c ls)) (lk : ∀ l ∈ ls, LkOk c l) (ris : ls.Pairwise Ris) (few : ls.length ≤ n + 3) :
    F_law [scrD (ns.map PyData.int)] = some (.bool true) := by
  subst ec
  have hin : ∀ l ∈ ls, InL n l := fun l h => ⟨(lk l h).1, (lk l h).2.1, (lk l h).2.2.1⟩
  have pw : 2 ^ ls.length ≤ 2 ^ 7 := Nat.pow_le_pow_right (by omega) (by omega)
  have rsh := yN (n := n) ls [[]] (by simp)
  have rln := zaq (n := n) ls [[]]
  rw [List.length_singleton, Nat.one_mul] at rln
  have rwt : ∀ r ∈ jI n [[]] ls, ∀ l ∈ r, l.2.2 ≤ 4 ∧ 1 ≤ l.2.2 := zab (P := fun l => l.2.2 ≤ 4 ∧ 1 ≤ l.2.2) ls [[]] (fun l h => ⟨(lk l h).2.2.2.2, (lk l h).2.2.2.1⟩) (by simp)
  obtain ⟨T, hT⟩ : ∃ T, T = (jI n [[]] ls).filter (trB n) := ⟨_, rfl⟩
  have hdue := zgz hin
  have t64 : T.length < 64 := by
    have := zdH (n := n) (ls := ls) h4 few
    unfold cn at this
    have s : T.length ≤ ((jI n [[]] ls).filter fun r => decide (r.length = n)).length := by
      rw [hT, ← List.countP_eq_length_filter, ← List.countP_eq_length_filter]
      exact List.countP_mono_left fun r _ h => by unfold trB at h; rw [Bool.and_eq_true] at h; exact h.1
    omega
  have tn : ∀ r ∈ T, r.length = n := fun r hr => by
    rw [hT] at hr
    have := (List.mem_filter.mp hr).2
    unfold trB at this
    rw [Bool.and_eq_true] at this
    exact of_decide_eq_true this.1
  have ra : yi [[]] ls = (jI n [[]] ls).filter acB := xq (n := n) ls [[]] hin (by simp)
  have et : F_trees [zO n ls] = some (.tuple (srtT T)) := by
    rw [zeI rfl (by omega) lk (by omega) (by rw [hdue, ← hT]; exact t64) (fun r hr => by rw [ra] at hr; have := rsh r (List.mem_filter.mp hr).1; omega) (by
      rw [ra]
      have := List.length_filter_le acB (jI n [[]] ls)
      omega), hdue, ← hT]
  have eco : F_count_of [zO n ls] = some (.int ((T.map ways).sum)) := zdR et (by omega)
  have esum : (T.map ways).sum = detF 8 (Mx n ls) := by
    rw [hT, wB]
    exact zgb h1 h4 lk ris
  have eme : F_law_measure 8 [matD (Mx n ls)] = some (.int (detF 8 (Mx n ls))) := yK 8 (Mx n ls) n (by rw [zgE, List.length_map, List.length_range]; omega) (by omega) (fun r hr => by
    obtain ⟨i, _, rfl⟩ := List.mem_map.mp hr
    simp) (fun r hr x hx => by
    obtain ⟨i, _, rfl⟩ := List.mem_map.mp hr
    obtain ⟨j, _, rfl⟩ := List.mem_map.mp hx
    split
    · have := zf9 lk (1 + (i : Int))
      omega
    · have := zfX lk (1 + (i : Int)) (1 + (j : Int))
      omega) (by rw [zgE, List.length_map, List.length_range]; omega)
  let S : Option En := some (.val (scrD (ns.map PyData.int)))
  let Y : Option En := some (.val (zO n ls))
  let R : Option En := some (.val (.list ((jI n [[]] ls).map rowD)))
  obtain ⟨y4, e1⟩ := zaG (n := n) S Y ls [[]] none (fun r hr => by rw [List.mem_singleton.mp hr]; simp; omega) (by simp; omega)
  obtain ⟨z6, z7, z8, z9, z10, e2⟩ := vc S Y R (n := n) (by omega) y4 (jI n [[]] ls) [] none none none none none (fun r hr => by have := rsh r hr; omega) rwt (by simp; omega)
  rw [List.nil_append, ← hT] at e2
  obtain ⟨z13, z14, e3⟩ := zfQ S (n := n) (by omega) (ls := ls) (by omega) R y4 (some (.own (.list (T.map jM)))) z6 z7 z8 z9 z10
  have ez : F_law_sizes [zO n ls] = some (.list ((wb n ls).map PyData.int)) := vW n (by omega) (by omega) ls (by omega) lk
  have eT : xB [.list (T.map jM)] = some (srtT T) := wj tn t64
  unfold F_law
  refine jc ?_
  show zfH [S, none, none, none, none, none, none, none, none, none, none, none, none, none, none] = _
  unfold zfH
  rw [zl (ρ' := [S, Y, none, none, none, none, none, none, none, none, none, none, none, none, none]) (jq (zW (zd (ze2 (ns := ns) 0 (by omega) rfl) (zd ji (zd (zE ji (zE (ze2 (ns := ns) 9 (by omega) rfl) ji (zJ (by omega))) (zD _ _)) zj))) (by rw [zaV]; exact ey)) rfl),
    zl (ρ' := [S, Y, vI n, none, none, none, none, none, none, none, none, none, none, none, none]) (jq (zE (x := zO n ls) rfl ji (vQ _ _)) rfl),
    zl (ρ' := [S, Y, vI n, some (.val (.list (([[]] : List (List L3)).map rowD))), none, none, none, none, none, none, none, none, none, none, none]) (jq (qd (qO (zd (zW zj rfl) zj) (by simp))) rfl),
    zl (ju (ds := ls.map zw) (qa (zE (x := zO n ls) rfl ji (zay _ _)) rfl) e1),
    zl (ρ' := lW S Y R n y4 [] none none none none none) (wR (ds := []) (qO zj (by simp))),
    zl (ju (ds := (jI n [[]] ls).map rowD) (qa (x := .list ((jI n [[]] ls).map rowD)) rfl rfl) e2)]
  have ec : gBo (g2 neD (gA (zS 1 F_trees) (zc (gVar 1) gNil)) (gA xj (zc (gLs (gItL xB (zc (qj 5) gNil))) gNil))) (lW S Y R n y4 T z6 z7 z8 z9 z10) = some false :=
    qE (zE (zW (zd (x := zO n ls) rfl zj) (by rw [yV]; exact et)) (zW (zd (qd (zdt (zd (x := .list (T.map jM)) rfl zj) eT)) zj) (qB _)) ((zeB T).ne (by decide)))
  rw [zl (ρ' := lW S Y R n y4 T z6 z7 z8 z9 z10) (by rw [zbB ec]; rfl),
    zl (ρ' := [S, Y, vI n, R, y4, some (.own (.list (T.map jM))), z6, z7, z8, z9, z10, some (.val (.list ((wb n ls).map PyData.int))), none, none, none]) (jq (zW (zd (x := zO n ls) rfl zj) (by rw [yV]; exact ez)) rfl),
    zl (ρ' := lM S n ls R y4 (some (.own (.list (T.map jM)))) z6 z7 z8 z9 z10 0 none none) (wR (ds := []) (qO zj (by simp))),
    zl (ju (ds := zu 1 n) (xo (zd ji (zd (zE (x := .int n) rfl ji (zD _ _)) zj)) (by rw [wF (by decide) (by decide) (by omega) (by omega), show ((n : Int) + 1 - 1).toNat = n by omega])) e3),
    zl (ρ' := lM S n ls R y4 (some (.own (.list (T.map jM)))) z6 z7 z8 z9 (vI ((T.map ways).sum)) n z13 z14) (jq (zW (zd (x := zO n ls) rfl zj) (by rw [yV]; exact eco)) rfl)]
  let ρ : Env' := [S, Y, vI n, R, y4, some (.val (.list (T.map jM))), z6, z7, z8, z9, vI ((T.map ways).sum), some (.val (.list ((wb n ls).map PyData.int))), some (.val (matD (Mx n ls))), z13, z14]
  show sRet _ ρ = _
  refine qT (zaH (a := true) (b := true) (zeG (b := false) (zgW (x := .int ((T.map ways).sum)) rfl rfl)) fun _ => zaH (a := true) (b := true) (zE (x := .int ((T.map ways).sum)) rfl (zW (zd (qd (jF (ds := T.map jM) (r := ((T.map jM).map wayI).map PyData.int) (qa (x := .list (T.map jM)) rfl rfl) (by rw [List.length_map]; omega) (kC (ρ := []) _ fun d hd => by
    obtain ⟨r, _, rfl⟩ := List.mem_map.mp hd
    exact ⟨_, _, rfl⟩))) zj) (xJ _)) ?_) fun _ => zE (x := .int ((T.map ways).sum)) rfl (zW (zd (x := matD (Mx n ls)) rfl zj) (by rw [yV]; exact eme)) ?_)
  · rw [xZ, List.map_map, decide_eq_true (show (T.map ways).sum = (T.map (wayI ∘ jM)).sum from rfl)]
  · rw [xZ, decide_eq_true esum]
theorem zdU (ns : List Int) (hl : ns.length ≤ 63) : F_law [scrD (ns.map PyData.int)] = some (.bool true) := by
  have w0 := Int.emod_nonneg (mixI ns 9) (b := 3) (by decide)
  have w1 := Int.emod_lt_of_pos (mixI ns 9) (b := 3) (by decide)
  obtain ⟨c, ls, ey, gy⟩ := zf4 (mixI ns 0) 4 (1 + mixI ns 9 % 3) (by omega) (by omega) (by omega)
  have c1 := gy.c1
  have c2 := gy.c2
  have few := gy.few
  refine zac ns (n := c.toNat) (by omega) (by omega) (by omega) w0 ey (fun l h => ?_) gy.ris (by omega)
  obtain ⟨a1, a2, a3, a4, a5⟩ := gy.rng l h
  exact ⟨a1, a2, a3, a4, by omega⟩
end L2.Y
set_option maxHeartbeats 4000000
namespace L2.Y
open PySem PySem.Spec PyProof.Rows
local macro_rules | `(! $x) => `(by exact $x)
def top (i : Nat) : Stmt := PySem.Challenge.pw_sandyard_k40_whole_trees.main.body.getD i (.Pass ⟨0, 0, 0, 0⟩)
structure Adr where
  f_joined : Addr
  d_joined : FuncData
  f_grown : Addr
  d_grown : FuncData
  f_trees : Addr
  d_trees : FuncData
  f_count_of : Addr
  d_count_of : FuncData
  f_law_cell_at : Addr
  d_law_cell_at : FuncData
  f_law_mixed : Addr
  d_law_mixed : FuncData
  f_law_drawn : Addr
  d_law_drawn : FuncData
  f_law_yard : Addr
  d_law_yard : FuncData
  f_law_between : Addr
  d_law_between : FuncData
  f_law_sizes : Addr
  d_law_sizes : FuncData
  f_law_measure : Addr
  d_law_measure : FuncData
  f_law_leads : Addr
  d_law_leads : FuncData
  f_law : Addr
  d_law : FuncData
structure Tx (K : Frag) (mg : Str → Option Value) (a : Adr) : Prop where
  F_joined : Fun K "joined" "joined" (top 1) a.f_joined a.d_joined
  b_joined : Binds K a.d_joined ["groups", "one", "other"] []
  m_joined : mg "joined" = some (.ref a.f_joined)
  F_grown : Fun K "grown" "grown" (top 2) a.f_grown a.d_grown
  b_grown : Binds K a.d_grown ["stems", "tie"] []
  m_grown : mg "grown" = some (.ref a.f_grown)
  F_trees : Fun K "trees" "trees" (top 3) a.f_trees a.d_trees
  b_trees : Binds K a.d_trees ["yard"] []
  m_trees : mg "trees" = some (.ref a.f_trees)
  F_count_of : Fun K "count_of" "count_of" (top 4) a.f_count_of a.d_count_of
  b_count_of : Binds K a.d_count_of ["yard"] []
  m_count_of : mg "count_of" = some (.ref a.f_count_of)
  F_law_cell_at : Fun K "_law_cell_at" "_law_cell_at" (top 6) a.f_law_cell_at a.d_law_cell_at
  b_law_cell_at : Binds K a.d_law_cell_at ["_law_script", "_law_k"] []
  m_law_cell_at : mg "_law_cell_at" = some (.ref a.f_law_cell_at)
  F_law_mixed : Fun K "_law_mixed" "_law_mixed" (top 7) a.f_law_mixed a.d_law_mixed
  b_law_mixed : Binds K a.d_law_mixed ["_law_script", "_law_k"] []
  m_law_mixed : mg "_law_mixed" = some (.ref a.f_law_mixed)
  F_law_drawn : Fun K "_law_drawn" "_law_drawn" (top 8) a.f_law_drawn a.d_law_drawn
  b_law_drawn : Binds K a.d_law_drawn ["_law_number", "_law_k"] []
  m_law_drawn : mg "_law_drawn" = some (.ref a.f_law_drawn)
  F_law_yard : Fun K "_law_yard" "_law_yard" (top 9) a.f_law_yard a.d_law_yard
  b_law_yard : Binds K a.d_law_yard ["_law_number", "_law_most", "_law_wide"] []
  m_law_yard : mg "_law_yard" = some (.ref a.f_law_yard)
  F_law_between : Fun K "_law_between" "_law_between" (top 11) a.f_law_between a.d_law_between
  b_law_between : Binds K a.d_law_between ["_law_yard_here", "_law_one", "_law_other"] []
  m_law_between : mg "_law_between" = some (.ref a.f_law_between)
  F_law_sizes : Fun K "_law_sizes" "_law_sizes" (top 12) a.f_law_sizes a.d_law_sizes
  b_law_sizes : Binds K a.d_law_sizes ["_law_yard_here"] []
  m_law_sizes : mg "_law_sizes" = some (.ref a.f_law_sizes)
  F_law_measure : Fun K "_law_measure" "_law_measure" (top 13) a.f_law_measure a.d_law_measure
  b_law_measure : Binds K a.d_law_measure ["_law_rows"] []
  m_law_measure : mg "_law_measure" = some (.ref a.f_law_measure)
  F_law_leads : Fun K "_law_leads" "_law_leads" (top 14) a.f_law_leads a.d_law_leads
  b_law_leads : Binds K a.d_law_leads ["_law_some", "_law_count"] []
  m_law_leads : mg "_law_leads" = some (.ref a.f_law_leads)
  F_law : Fun K "law" "law" (top 15) a.f_law a.d_law
  b_law : Binds K a.d_law ["_law_script"] []
  m_law : mg "law" = some (.ref a.f_law)
  n_bool : mg "bool" = none
  n_enumerate : mg "enumerate" = none
  n_int : mg "int" = none
  n_isinstance : mg "isinstance" = none
  n_len : mg "len" = none
  n_max : mg "max" = none
  n_min : mg "min" = none
  n_range : mg "range" = none
  n_sorted : mg "sorted" = none
  n_sum : mg "sum" = none
  n_tuple : mg "tuple" = none
section
variable (P : Program) (w : World) (K : Frag) (mg : Str → Option Value) (base : Heap) (a : Adr) (cdv : Value) (A : Around) (outer : List Env) (s : Shared) (H : Hp) (E : XK)
end
section
variable {P : Program} {w : World} {K : Frag} {mg : Str → Option Value} {base : Heap} {a : Adr}
theorem zdY : FnScope ["groups", "one", "other"] ["groups", "one", "other"] (zf (top 1)) := ⟨rfl, rfl, rfl, by decide +kernel, rfl, by decide +kernel, by decide +kernel⟩
theorem zdp (T : Tx K mg a) : FnOk P w K mg base CX0 1 a.f_joined a.d_joined ["groups", "one", "other"] (spD K 3 F_joined) := by
  refine xV (N := ["groups", "one", "other"]) T.F_joined zdY fun cdv A outer s H E hr => ?_
  have hu64 := xt hr
  conv in (zm _) => whnf
  exact (!zn (!zM (!qo jY (!rfl) T.n_tuple boot_tuple (!jZ (!rfl) (!PD.b (!PFr.d_ (!qI (jf (oscope := zf (top 1)) (oN := ["groups", "one", "other"]) (own := ["group"]) (caps := [0, 1, 2]) (N := ["group", "groups", "one", "other"]) (by decide +kernel) (!rfl) (!rfl)) (by decide) (zF (by decide)) (!rfl) (!jo (!za (pv 0))) (fun _ _ _ _ _ => (!ze (zX (i := 0) (nd_ ["group", "groups", "one", "other"]) (!rfl) (Or.inl (!rfl))))) (fun _ _ _ _ _ => (!jX)) (fun _ _ _ _ _ => (!zhA (!jL (wW hu64) (!PD.b (!za (pv 0))) (!PD.b (!xE (!PD.b (!za (pv 1))) (!PD.b (!za (pv 3))) (fun _ _ => (!rfl)))) (qg _)) (!xE (!PD.b (!za (pv 1))) (!PD.b (!za (pv 2))) (fun _ _ => (!rfl))) (!za (pv 0))))))) (!zN)))))
theorem qM : FnScope ["stems", "tie", "one", "other", "many", "longer", "pairs", "ways", "groups"] ["stems", "tie"] (zf (top 2)) := ⟨rfl, rfl, rfl, by decide +kernel, rfl, by decide +kernel, by decide +kernel⟩
theorem zew (T : Tx K mg a) : FnOk P w K mg base CX0 2 a.f_grown a.d_grown ["stems", "tie"] (spD K 2 F_grown) := by
  have O_joined := zdp (P := P) (w := w) (base := base) T
  refine xV (N := ["stems", "tie", "one", "other", "many", "longer", "pairs", "ways", "groups"]) T.F_grown qM fun cdv A outer s H E hr => ?_
  have hu64 := xt hr
  conv in (zm _) => whnf
  exact (!zg (!zx (!rfl) (!rfl) (!rfl) (!jW (!rfl) (!zo (!ze (!pgn (i := 2) qM.nd)) (!zo (!ze (!pgn (i := 3) qM.nd)) (!zo (!ze (!pgn (i := 4) qM.nd)) (!jv))))) (!za (pv 1))) (!zg (!xc (!rfl) (!rfl) (!rfl) (!pgn (i := 5) qM.nd) (!qF (!zi))) (!zg (!jm PassesOwn.never (!rfl) (!jo (!za (pv 0))) (!jW (!rfl) (!zo (!ze (!pgn (i := 6) qM.nd)) (!zo (!ze (!pgn (i := 7) qM.nd)) (!zo (!ze (!pgn (i := 8) qM.nd)) (!jv))))) (!zn (!ya (!jL (zar hu64) (!PD.b (!xE (!PD.b (!za (pv 8))) (!PD.b (!za (pv 2))) (fun _ _ => (!rfl)))) (!PD.b (!xE (!PD.b (!za (pv 8))) (!PD.b (!za (pv 3))) (fun _ _ => (!rfl)))) (qg _)) (!zn (!xR (pv 5) (!jA (!zk (!rfl) (!zt zr (!PD.b (!za (pv 6))) (!PD.b (!jA (!zk (!rfl) (!jA (!zk (!rfl) (!za (pv 2)) (!zk (!rfl) (!za (pv 3)) (!zi)))) (!zi))))) (!zk (!rfl) (!zt jD (!PD.b (!za (pv 7))) (!PD.b (!za (pv 4)))) (!zk (!rfl) (!zI O_joined (hr.mono (by omega)) (!rfl) T.m_joined T.F_joined.kp T.b_joined (!zk (!rfl) (!za (pv 8)) (!zk (!rfl) (!za (pv 2)) (!zk (!rfl) (!za (pv 3)) (!zi))))) (!zi))))))) (!qz)))) (!zn (!zM (!zt zr (!PD.b (!za (pv 0))) (!xk (pv 5))))))))
theorem xU : FnScope ["yard", "count", "ties", "stems", "tie"] ["yard"] (zf (top 3)) := ⟨rfl, rfl, rfl, by decide +kernel, rfl, by decide +kernel, by decide +kernel⟩
theorem zaU (T : Tx K mg a) : FnOk P w K mg base CX0 3 a.f_trees a.d_trees ["yard"] (spD K 1 F_trees) := by
  have O_grown := zew (P := P) (w := w) (base := base) T
  refine xV (N := ["yard", "count", "ties", "stems", "tie"]) T.F_trees xU fun cdv A outer s H E hr => ?_
  have hu66 := vH hr
  have hu64 := xt hr
  conv in (zm _) => whnf
  exact (!zg (!zx (!rfl) (!rfl) (!rfl) (!jW (!rfl) (!zo (!ze (!pgn (i := 1) xU.nd)) (!zo (!ze (!pgn (i := 2) xU.nd)) (!jv)))) (!za (pv 0))) (!zg (!zx (!rfl) (!rfl) (!rfl) (!ze (!pgn (i := 3) xU.nd)) (!PFr.d_ (!qF (!zk (!rfl) (!jA (!zk (!rfl) (!jA (!zi)) (!zk (!rfl) (!zh) (!zk (!rfl) (!zd5 (!rfl) (!rfl) T.n_tuple boot_tuple (!rfl) T.n_range (!zk (!rfl) (!zt zr (!PD.b (!za (pv 1))) (!PD.b (!zh))) (!zi))) (!zi))))) (!zi))))) (!zg (!jm PassesOwn.never (!rfl) (!jo (!za (pv 2))) (!ze (!pgn (i := 4) xU.nd)) (!zn (!zx (!rfl) (!rfl) (!rfl) (!ze (!pgn (i := 3) xU.nd)) (!zI O_grown (hr.mono (by omega)) (!rfl) T.m_grown T.F_grown.kp T.b_grown (!zk (!rfl) (!za (pv 3)) (!zk (!rfl) (!za (pv 4)) (!zi))))))) (!zn (!zM (!qo jY (!rfl) T.n_tuple boot_tuple (!jZ (!rfl) (!PD.b (!PFr.d_ (!yE hu66 (!rfl) T.n_sorted (!jZ (!rfl) (!PD.b (!PFr.d_ (!qI (jf (oscope := zf (top 3)) (oN := ["yard", "count", "ties", "stems", "tie"]) (own := ["pairs", "ways", "groups"]) (caps := [1]) (N := ["pairs", "ways", "groups", "count"]) (by decide +kernel) (!rfl) (!rfl)) (by decide) (wy (jd (zF (by decide)) (jd (zF (by decide)) (jd (zF (by decide)) wD)))) (!rfl) (!jo (!za (pv 3))) (fun _ _ _ _ _ => (!jW (!rfl) (!zo (!ze (zX (i := 0) (nd_ ["pairs", "ways", "groups", "count"]) (!rfl) (Or.inl (!rfl)))) (!zo (!ze (zX (i := 1) (nd_ ["pairs", "ways", "groups", "count"]) (!rfl) (Or.inl (!rfl)))) (!zo (!ze (zX (i := 2) (nd_ ["pairs", "ways", "groups", "count"]) (!rfl) (Or.inl (!rfl)))) (!jv)))))) (fun _ _ _ _ _ => (!vR (!jL (wW hu64) (!PD.b (!jp xN (!rfl) T.n_len boot_len (!jZ (!rfl) (!PD.b (!za (pv 0))) (!zN)))) (!PD.b (!za (pv 3))) (qg _)))) (fun _ _ _ _ _ => (!jA (!zk (!rfl) (!za (pv 0)) (!zk (!rfl) (!za (pv 1)) (!zi)))))))) (!zN))))) (!zN))))))))
theorem zbd : FnScope ["yard"] ["yard"] (zf (top 4)) := ⟨rfl, rfl, rfl, by decide +kernel, rfl, by decide +kernel, by decide +kernel⟩
theorem zah (T : Tx K mg a) : FnOk P w K mg base CX0 4 a.f_count_of a.d_count_of ["yard"] (spD K 1 F_count_of) := by
  have O_trees := zaU (P := P) (w := w) (base := base) T
  refine xV (N := ["yard"]) T.F_count_of zbd fun cdv A outer s H E hr => ?_
  conv in (zm _) => whnf
  exact (!zn (!zM (!jp (xP (!rfl)) (!rfl) T.n_sum boot_sum (!jZ (!rfl) (!PD.b (!PFr.d_ (!qI (jf (oscope := zf (top 4)) (oN := ["yard"]) (own := ["tree", "many"]) (caps := []) (N := ["tree", "many"]) (by decide +kernel) (!rfl) (!rfl)) (by decide) (wy (jd (zF (by decide)) (jd (zF (by decide)) wD))) (!rfl) (!jo (!zI O_trees (hr.mono (by omega)) (!rfl) T.m_trees T.F_trees.kp T.b_trees (!zk (!rfl) (!za (pv 0)) (!zi)))) (fun _ _ _ _ _ => (!jW (!rfl) (!zo (!ze (zX (i := 0) (nd_ ["tree", "many"]) (!rfl) (Or.inl (!rfl)))) (!zo (!ze (zX (i := 1) (nd_ ["tree", "many"]) (!rfl) (Or.inl (!rfl)))) (!jv))))) (fun _ _ _ _ _ => (!jX)) (fun _ _ _ _ _ => (!za (pv 1)))))) (!zN)))))
theorem vB : FnScope ["_law_script", "_law_k"] ["_law_script", "_law_k"] (zf (top 6)) := ⟨rfl, rfl, rfl, by decide +kernel, rfl, by decide +kernel, by decide +kernel⟩
theorem yw (T : Tx K mg a) : FnOk P w K mg base CX0 1 a.f_law_cell_at a.d_law_cell_at ["_law_script", "_law_k"] (spD K 2 F_law_cell_at) := by
  refine xV (N := ["_law_script", "_law_k"]) T.F_law_cell_at vB fun cdv A outer s H E hr => ?_
  have hu0 := zcE hr
  conv in (zm _) => whnf
  exact (!zg (!ya (!jL (zds hu0) (!PD.b (!za (pv 1))) (!PD.b (!jp zbm (!rfl) T.n_len boot_len (!jZ (!rfl) (!PD.b (!za (pv 0))) (!zN)))) (qg _)) (!zn (!zM (!zgy (!PD.b (!za (pv 0))) (!PD.b (!za (pv 1))) (fun _ _ => (!rfl))))) (!qz)) (!zn (!zM (!zh))))
theorem yl : FnScope ["_law_script", "_law_k", "_law_drawn_here"] ["_law_script", "_law_k"] (zf (top 7)) := ⟨rfl, rfl, rfl, by decide +kernel, rfl, by decide +kernel, by decide +kernel⟩
theorem kM (T : Tx K mg a) : FnOk P w K mg base CX0 2 a.f_law_mixed a.d_law_mixed ["_law_script", "_law_k"] (spD K 2 F_law_mixed) := by
  have O_law_cell_at := yw (P := P) (w := w) (base := base) T
  refine xV (N := ["_law_script", "_law_k", "_law_drawn_here"]) T.F_law_mixed yl fun cdv A outer s H E hr => ?_
  conv in (zm _) => whnf
  exact (!zg (!zx (!rfl) (!rfl) (!rfl) (!ze (!pgn (i := 2) yl.nd)) (!zt jw (!PD.b (!zt jD (!PD.b (!zt zr (!PD.b (!zt zr (!PD.b (!zI O_law_cell_at (hr.mono (by omega)) (!rfl) T.m_law_cell_at T.F_law_cell_at.kp T.b_law_cell_at (!zk (!rfl) (!za (pv 0)) (!zk (!rfl) (!za (pv 1)) (!zi))))) (!PD.b (!zt jD (!PD.b (!zh)) (!PD.b (!za (pv 1))))))) (!PD.b (!zh)))) (!PD.b (!zh)))) (!PD.b (!zh)))) (!zn (!zM (!zt jw (!PD.b (!zt zr (!PD.b (!zt zr (!PD.b (!zt jD (!PD.b (!za (pv 2))) (!PD.b (!za (pv 2))))) (!PD.b (!zt jD (!PD.b (!zh)) (!PD.b (!za (pv 2))))))) (!PD.b (!za (pv 1))))) (!PD.b (!zh))))))
theorem yj : FnScope ["_law_number", "_law_k", "_law_drawn_here"] ["_law_number", "_law_k"] (zf (top 8)) := ⟨rfl, rfl, rfl, by decide +kernel, rfl, by decide +kernel, by decide +kernel⟩
theorem kl (T : Tx K mg a) : FnOk P w K mg base CX0 1 a.f_law_drawn a.d_law_drawn ["_law_number", "_law_k"] (spD K 2 F_law_drawn) := by
  refine xV (N := ["_law_number", "_law_k", "_law_drawn_here"]) T.F_law_drawn yj fun cdv A outer s H E hr => ?_
  conv in (zm _) => whnf
  exact (!zg (!zx (!rfl) (!rfl) (!rfl) (!ze (!pgn (i := 2) yj.nd)) (!zt jw (!PD.b (!zt jD (!PD.b (!zt zr (!PD.b (!zt zr (!PD.b (!za (pv 0))) (!PD.b (!zt jD (!PD.b (!zh)) (!PD.b (!za (pv 1))))))) (!PD.b (!zh)))) (!PD.b (!zh)))) (!PD.b (!zh)))) (!zn (!zM (!zt jw (!PD.b (!zt zr (!PD.b (!zt zr (!PD.b (!zt jD (!PD.b (!za (pv 2))) (!PD.b (!za (pv 2))))) (!PD.b (!zt jD (!PD.b (!zh)) (!PD.b (!za (pv 2))))))) (!PD.b (!za (pv 1))))) (!PD.b (!zh))))))
theorem zA : FnScope ["_law_number", "_law_most", "_law_wide", "_law_count", "_law_found", "_law_place", "_law_k", "_law_low", "_law_high", "_law_names", "_law_at", "_law_links", "_law_one", "_law_other"] ["_law_number", "_law_most", "_law_wide"] (zf (top 9)) := ⟨rfl, rfl, rfl, by decide +kernel, rfl, by decide +kernel, by decide +kernel⟩
theorem zak (T : Tx K mg a) : FnOk P w K mg base CX0 2 a.f_law_yard a.d_law_yard ["_law_number", "_law_most", "_law_wide"] (spD K 3 F_law_yard) := by
  have O_law_drawn := kl (P := P) (w := w) (base := base) T
  refine xV (N := ["_law_number", "_law_most", "_law_wide", "_law_count", "_law_found", "_law_place", "_law_k", "_law_low", "_law_high", "_law_names", "_law_at", "_law_links", "_law_one", "_law_other"]) T.F_law_yard zA fun cdv A outer s H E hr => ?_
  have hu0 := zcE hr
  have hu1 := zhr hr
  conv in (zm _) => whnf
  exact (!zg (!zx (!rfl) (!rfl) (!rfl) (!ze (!pgn (i := 3) zA.nd)) (!zt zr (!PD.b (!zh)) (!PD.b (!zt jw (!PD.b (!za (pv 0))) (!PD.b (!za (pv 1))))))) (!zg (!zco (!pgn (i := 4) zA.nd)) (!zg (!jm PassesOwn.never (!rfl) (!xO (!rfl) T.n_range (!zk (!rfl) (!zh) (!zk (!rfl) (!zt zr (!PD.b (!za (pv 3))) (!PD.b (!zh))) (!zi)))) (!ze (!pgn (i := 5) zA.nd)) (!zn (!vT hu1 (pv 4) (!jA (!zk (!rfl) (!zt jw (!PD.b (!zI O_law_drawn (hr.mono (by omega)) (!rfl) T.m_law_drawn T.F_law_drawn.kp T.b_law_drawn (!zk (!rfl) (!za (pv 0)) (!zk (!rfl) (!za (pv 5)) (!zi))))) (!PD.b (!za (pv 5)))) (!zk (!rfl) (!za (pv 5)) (!zi)))) (!zt zr (!PD.b (!zh)) (!PD.b (!zt jw (!PD.b (!zI O_law_drawn (hr.mono (by omega)) (!rfl) T.m_law_drawn T.F_law_drawn.kp T.b_law_drawn (!zk (!rfl) (!za (pv 0)) (!zk (!rfl) (!zt zr (!PD.b (!zh)) (!PD.b (!za (pv 5)))) (!zi))))) (!PD.b (!za (pv 2))))))))) (!zg (!jm PassesOwn.never (!rfl) (!vd (!rfl) T.n_range (!zk (!rfl) (!zt jw (!PD.b (!zt zeq (!PD.b (!za (pv 0))) (!PD.b (!zh)))) (!PD.b (!zh))) (!zi))) (!ze (!pgn (i := 6) zA.nd)) (!zg (!zx (!rfl) (!rfl) (!rfl) (!ze (!pgn (i := 7) zA.nd)) (!zt jw (!PD.b (!zI O_law_drawn (hr.mono (by omega)) (!rfl) T.m_law_drawn T.F_law_drawn.kp T.b_law_drawn (!zk (!rfl) (!za (pv 0)) (!zk (!rfl) (!zt zr (!PD.b (!zh)) (!PD.b (!za (pv 6)))) (!zi))))) (!PD.b (!zt zr (!PD.b (!za (pv 3))) (!PD.b (!zh)))))) (!zg (!zx (!rfl) (!rfl) (!rfl) (!ze (!pgn (i := 8) zA.nd)) (!zt jw (!PD.b (!zI O_law_drawn (hr.mono (by omega)) (!rfl) T.m_law_drawn T.F_law_drawn.kp T.b_law_drawn (!zk (!rfl) (!za (pv 0)) (!zk (!rfl) (!zt zr (!PD.b (!zh)) (!PD.b (!za (pv 6)))) (!zi))))) (!PD.b (!zt zr (!PD.b (!za (pv 3))) (!PD.b (!zh)))))) (!zn (!ya (!jL (zds hu0) (!PD.b (!za (pv 7))) (!PD.b (!za (pv 8))) (qg _)) (!zn (!vT hu1 (pv 4) (!jA (!zk (!rfl) (!za (pv 7)) (!zk (!rfl) (!za (pv 8)) (!zi)))) (!zt zr (!PD.b (!zh)) (!PD.b (!zt jw (!PD.b (!zI O_law_drawn (hr.mono (by omega)) (!rfl) T.m_law_drawn T.F_law_drawn.kp T.b_law_drawn (!zk (!rfl) (!za (pv 0)) (!zk (!rfl) (!zt zr (!PD.b (!zh)) (!PD.b (!za (pv 6)))) (!zi))))) (!PD.b (!za (pv 2)))))))) (!qz)))))) (!zg (!zx (!rfl) (!rfl) (!rfl) (!ze (!pgn (i := 9) zA.nd)) (!PFr.d_ (!qF (!zk (!rfl) (!zh) (!zi))))) (!zg (!jm PassesOwn.never (!rfl) (!xO (!rfl) T.n_range (!zk (!rfl) (!zh) (!zk (!rfl) (!zt zr (!PD.b (!za (pv 3))) (!PD.b (!zh))) (!zi)))) (!ze (!pgn (i := 5) zA.nd)) (!zg (!zx (!rfl) (!rfl) (!rfl) (!ze (!pgn (i := 10) zA.nd)) (!zt zr (!PD.b (!zh)) (!PD.b (!zt jw (!PD.b (!zI O_law_drawn (hr.mono (by omega)) (!rfl) T.m_law_drawn T.F_law_drawn.kp T.b_law_drawn (!zk (!rfl) (!za (pv 0)) (!zk (!rfl) (!zt zr (!PD.b (!zh)) (!PD.b (!za (pv 5)))) (!zi))))) (!PD.b (!za (pv 5))))))) (!zn (!zx (!rfl) (!rfl) (!rfl) (!ze (!pgn (i := 9) zA.nd)) (!zt zr (!PD.b (!zt zr (!PD.b (!qX (!PD.b (!za (pv 9))) (!qY) (!xb (!PD.b (!za (pv 10)))))) (!PD.b (!PFr.d_ (!qF (!zk (!rfl) (!za (pv 5)) (!zi))))))) (!PD.b (!qX (!PD.b (!za (pv 9))) (!xb (!PD.b (!za (pv 10)))) (!qY)))))))) (!zg (!xc (!rfl) (!rfl) (!rfl) (!pgn (i := 11) zA.nd) (!qF (!zi))) (!zg (!zcm 4 (!jm PassesOwn.never (!rfl) (!zdd (!za (pv 4))) (!jW (!rfl) (!zo (!ze (!pgn (i := 7) zA.nd)) (!zo (!ze (!pgn (i := 8) zA.nd)) (!jv)))) (!zg (!zx (!rfl) (!rfl) (!rfl) (!ze (!pgn (i := 12) zA.nd)) (!xE (!PD.b (!za (pv 9))) (!PD.b (!za (pv 7))) (fun _ _ => (!rfl)))) (!zg (!zx (!rfl) (!rfl) (!rfl) (!ze (!pgn (i := 13) zA.nd)) (!xE (!PD.b (!za (pv 9))) (!PD.b (!za (pv 8))) (fun _ _ => (!rfl)))) (!zn (!xR (pv 11) (!jA (!zk (!rfl) (!jp (zbE (!rfl)) (!rfl) T.n_min boot_min (!jZ (!rfl) (!PD.b (!za (pv 12))) (!jZ (!rfl) (!PD.b (!za (pv 13))) (!zN)))) (!zk (!rfl) (!jp (zbU (!rfl)) (!rfl) T.n_max boot_max (!jZ (!rfl) (!PD.b (!za (pv 12))) (!jZ (!rfl) (!PD.b (!za (pv 13))) (!zN)))) (!zk (!rfl) (!zdZ hu1 (!xk (pv 4)) (!PD.b (!jA (!zk (!rfl) (!za (pv 7)) (!zk (!rfl) (!za (pv 8)) (!zi))))) (fun _ _ => (!rfl))) (!zi))))))))))) (!zn (!zM (!jA (!zk (!rfl) (!za (pv 3)) (!zk (!rfl) (!qo jY (!rfl) T.n_tuple boot_tuple (!jZ (!rfl) (!PD.b (!PFr.d_ (!zcb (!rfl) T.n_sorted (!jZ (!rfl) (!xk (pv 11)) (!zN))))) (!zN))) (!zi))))))))))))))
theorem vC : FnScope ["_law_yard_here", "_law_one", "_law_other"] ["_law_yard_here", "_law_one", "_law_other"] (zf (top 11)) := ⟨rfl, rfl, rfl, by decide +kernel, rfl, by decide +kernel, by decide +kernel⟩
theorem xl (T : Tx K mg a) : FnOk P w K mg base CX0 1 a.f_law_between a.d_law_between ["_law_yard_here", "_law_one", "_law_other"] (spD K 3 F_law_between) := by
  refine xV (N := ["_law_yard_here", "_law_one", "_law_other"]) T.F_law_between vC fun cdv A outer s H E hr => ?_
  have hu66 := vH hr
  have hu64 := xt hr
  conv in (zm _) => whnf
  exact (!zn (!zM (!jp (xP (!rfl)) (!rfl) T.n_sum boot_sum (!jZ (!rfl) (!PD.b (!PFr.d_ (!qI (jf (oscope := zf (top 11)) (oN := ["_law_yard_here", "_law_one", "_law_other"]) (own := ["_law_low", "_law_high", "_law_many"]) (caps := [1, 2]) (N := ["_law_low", "_law_high", "_law_many", "_law_one", "_law_other"]) (by decide +kernel) (!rfl) (!rfl)) (by decide) (wy (jd (zF (by decide)) (jd (zF (by decide)) (jd (zF (by decide)) wD)))) (!rfl) (!jo (!xE (!PD.b (!za (pv 0))) (!PD.b (!zh)) (fun _ _ => (!rfl)))) (fun _ _ _ _ _ => (!jW (!rfl) (!zo (!ze (zX (i := 0) (nd_ ["_law_low", "_law_high", "_law_many", "_law_one", "_law_other"]) (!rfl) (Or.inl (!rfl)))) (!zo (!ze (zX (i := 1) (nd_ ["_law_low", "_law_high", "_law_many", "_law_one", "_law_other"]) (!rfl) (Or.inl (!rfl)))) (!zo (!ze (zX (i := 2) (nd_ ["_law_low", "_law_high", "_law_many", "_law_one", "_law_other"]) (!rfl) (Or.inl (!rfl)))) (!jv)))))) (fun _ _ _ _ _ => (!vR (!PWd.t (!zc1 (!jL (zar hu64) (!PD.b (!za (pv 0))) (!PD.b (!za (pv 1))) (qg _)) (!zax (!jL (zaT hu66) (!PD.b (!jA (!zk (!rfl) (!za (pv 0)) (!zk (!rfl) (!za (pv 1)) (!zi))))) (!PD.b (!jA (!zk (!rfl) (!jA (!zk (!rfl) (!za (pv 3)) (!zk (!rfl) (!za (pv 4)) (!zi)))) (!zk (!rfl) (!jA (!zk (!rfl) (!za (pv 4)) (!zk (!rfl) (!za (pv 3)) (!zi)))) (!zi))))) (by rfl))))))) (fun _ _ _ _ _ => (!za (pv 2)))))) (!zN)))))
theorem xA : FnScope ["_law_yard_here", "_law_found", "_law_place"] ["_law_yard_here"] (zf (top 12)) := ⟨rfl, rfl, rfl, by decide +kernel, rfl, by decide +kernel, by decide +kernel⟩
theorem kI (T : Tx K mg a) : FnOk P w K mg base CX0 2 a.f_law_sizes a.d_law_sizes ["_law_yard_here"] (spD K 1 F_law_sizes) := by
  have O_law_between := xl (P := P) (w := w) (base := base) T
  refine xV (N := ["_law_yard_here", "_law_found", "_law_place"]) T.F_law_sizes xA fun cdv A outer s H E hr => ?_
  conv in (zm _) => whnf
  exact (!zg (!xc (!rfl) (!rfl) (!rfl) (!pgn (i := 1) xA.nd) (!qF (!zi))) (!zg (!jm PassesOwn.never (!rfl) (!xO (!rfl) T.n_range (!zk (!rfl) (!zh) (!zk (!rfl) (!zt zr (!PD.b (!xE (!PD.b (!za (pv 0))) (!PD.b (!zh)) (fun _ _ => (!rfl)))) (!PD.b (!zh))) (!zi)))) (!ze (!pgn (i := 2) xA.nd)) (!zn (!xR (pv 1) (!jp (xP (!rfl)) (!rfl) T.n_sum boot_sum (!jZ (!rfl) (!PD.b (!PFr.d_ (!qI (jf (oscope := zf (top 12)) (oN := ["_law_yard_here", "_law_found", "_law_place"]) (own := ["_law_other"]) (caps := [0, 2]) (N := ["_law_other", "_law_yard_here", "_law_place"]) (by decide +kernel) (!rfl) (!rfl)) (by decide) (zF (by decide)) (!rfl) (!vd (!rfl) T.n_range (!zk (!rfl) (!zt zr (!PD.b (!xE (!PD.b (!za (pv 0))) (!PD.b (!zh)) (fun _ _ => (!rfl)))) (!PD.b (!zh))) (!zi))) (fun _ _ _ _ _ => (!ze (zX (i := 0) (nd_ ["_law_other", "_law_yard_here", "_law_place"]) (!rfl) (Or.inl (!rfl))))) (fun _ _ _ _ _ => (!jX)) (fun _ _ _ _ _ => (!zI O_law_between (hr.mono (by omega)) (!rfl) T.m_law_between T.F_law_between.kp T.b_law_between (!zk (!rfl) (!za (pv 1)) (!zk (!rfl) (!za (pv 2)) (!zk (!rfl) (!za (pv 0)) (!zi))))))))) (!zN)))))) (!zn (!wt 1 (!zM (!za (pv 1)))))))
theorem zR : FnScope ["_law_rows", "_law_found", "_law_k", "_law_part", "_law_rest"] ["_law_rows"] (zf (top 13)) := ⟨rfl, rfl, rfl, by decide +kernel, rfl, by decide +kernel, by decide +kernel⟩
theorem qJ (T : Tx K mg a) : ∀ k : Nat, FnOk P w K mg base CX0 (1 + k) a.f_law_measure a.d_law_measure ["_law_rows"] (spD K 1 (F_law_measure k))
  | 0 => zdA (k := 0) T.F_law_measure zR
  | k + 1 => by
    have O_self := qJ T k
    refine xV (k := 1 + k) (N := ["_law_rows", "_law_found", "_law_k", "_law_part", "_law_rest"]) T.F_law_measure zR fun cdv A outer s H E hr => ?_
    have hu64 := xt hr
    conv in (zm _) => whnf
    exact (!zg (!ya (!jL (wW hu64) (!PD.b (!za (pv 0))) (!PD.b (!PFr.d_ (!qF (!zi)))) (qg _)) (!zn (!zM (!zh))) (!qz)) (!zg (!zx (!rfl) (!rfl) (!rfl) (!ze (!pgn (i := 1) zR.nd)) (!zh)) (!zg (!jm PassesOwn.never (!rfl) (!vt (!rfl) T.n_enumerate (!zk (!rfl) (!xE (!PD.b (!za (pv 0))) (!PD.b (!zh)) (fun _ _ => (!rfl))) (!zi))) (!jW (!rfl) (!zo (!ze (!pgn (i := 2) zR.nd)) (!zo (!ze (!pgn (i := 3) zR.nd)) (!jv)))) (!zg (!zbL (i := 4) (jf (oscope := zf (top 13)) (oN := ["_law_rows", "_law_found", "_law_k", "_law_part", "_law_rest"]) (own := ["_law_row"]) (caps := [2]) (N := ["_law_row", "_law_k"]) (by decide +kernel) (!rfl) (!rfl)) (by decide) (zF (by decide)) (!rfl) (!jo (!qX (!PD.b (!za (pv 0))) (!xb (!PD.b (!zh))) (!qY))) (fun _ _ _ _ _ => (!ze (zX (i := 0) (nd_ ["_law_row", "_law_k"]) (!rfl) (Or.inl (!rfl))))) (fun _ _ _ _ _ => (!jX)) (fun _ _ _ _ _ => (!zt zr (!PD.b (!qX (!PD.b (!za (pv 0))) (!qY) (!xb (!PD.b (!za (pv 1)))))) (!PD.b (!qX (!PD.b (!za (pv 0))) (!xb (!PD.b (!zt zr (!PD.b (!za (pv 1))) (!PD.b (!zh))))) (!qY))))) zR.nd (!rfl) (!rfl) (!rfl)) (!zn (!zx (!rfl) (!rfl) (!rfl) (!ze (!pgn (i := 1) zR.nd)) (!zt zr (!PD.b (!za (pv 1))) (!PD.b (!zt jD (!PD.b (!zt jD (!PD.b (!za (pv 3))) (!PD.b (!zI O_self (hr.mono (by omega)) (!rfl) T.m_law_measure T.F_law_measure.kp T.b_law_measure (!zk (!rfl) (!za (pv 4)) (!zi)))))) (!PD.b (!zt zai (!PD.b (!zh)) (!PD.b (!zt jD (!PD.b (!zt jw (!PD.b (!za (pv 2))) (!PD.b (!zh)))) (!PD.b (!zh))))))))))))) (!zn (!zM (!za (pv 1)))))))
theorem yC (T : Tx K mg a) : FnOk P w K mg base CX0 9 a.f_law_measure a.d_law_measure ["_law_rows"] (spD K 1 (F_law_measure 8)) := qJ T 8
theorem jE : FnScope ["_law_some", "_law_count", "_law_met", "_law_k", "_law_low", "_law_high", "_law_many"] ["_law_some", "_law_count"] (zf (top 14)) := ⟨rfl, rfl, rfl, by decide +kernel, rfl, by decide +kernel, by decide +kernel⟩
theorem kh (T : Tx K mg a) : FnOk P w K mg base CX0 1 a.f_law_leads a.d_law_leads ["_law_some", "_law_count"] (spD K 2 F_law_leads) := by
  refine xV (N := ["_law_some", "_law_count", "_law_met", "_law_k", "_law_low", "_law_high", "_law_many"]) T.F_law_leads jE fun cdv A outer s H E hr => ?_
  have hu66 := vH hr
  have hu64 := xt hr
  conv in (zm _) => whnf
  exact (!zg (!xc (!rfl) (!rfl) (!rfl) (!pgn (i := 2) jE.nd) (!qF (!zk (!rfl) (!zh) (!zi)))) (!zg (!jm PassesOwn.never (!rfl) (!vd (!rfl) T.n_range (!zk (!rfl) (!za (pv 1)) (!zi))) (!ze (!pgn (i := 3) jE.nd)) (!zn (!jm PassesOwn.never (!rfl) (!jo (!za (pv 0))) (!jW (!rfl) (!zo (!ze (!pgn (i := 4) jE.nd)) (!zo (!ze (!pgn (i := 5) jE.nd)) (!zo (!ze (!pgn (i := 6) jE.nd)) (!jv))))) (!zn (!ya (!jL (zar hu64) (!PD.b (!yP (zaT hu66) (!PD.b (!za (pv 4))) (!xk (pv 2)) (by rfl))) (!PD.b (!yP (zaT hu66) (!PD.b (!za (pv 5))) (!xk (pv 2)) (by rfl))) (qg _)) (!zn (!xR (pv 2) (!xE (!PD.b (!PFr.d_ (!qF (!zk (!rfl) (!za (pv 4)) (!zk (!rfl) (!za (pv 5)) (!zi)))))) (!PD.b (!qo zdw (!rfl) T.n_int boot_int (!jZ (!rfl) (!PD.b (!yP (zaT hu66) (!PD.b (!za (pv 4))) (!xk (pv 2)) (by rfl))) (!zN)))) (fun _ _ => (!rfl))))) (!qz)))))) (!zn (!zM (!yP (wW hu64) (!PD.b (!jp xN (!rfl) T.n_len boot_len (!jZ (!rfl) (!xk (pv 2)) (!zN)))) (!PD.b (!zt zr (!PD.b (!za (pv 1))) (!PD.b (!zh)))) (qg _))))))
theorem qH : FnScope ["_law_script", "_law_yard_here", "_law_count", "_law_rows", "_law_link", "_law_due", "_law_some", "_law_ways", "_law_low", "_law_high", "_law_many", "_law_bounds", "_law_matrix", "_law_one", "_law_row"] ["_law_script"] (zf (top 15)) := ⟨rfl, rfl, rfl, by decide +kernel, rfl, by decide +kernel, by decide +kernel⟩
theorem zg0 (T : Tx K mg a) : FnOk P w K mg base CX0 10 a.f_law a.d_law ["_law_script"] (spD K 1 F_law) := by
  have O_law_mixed := kM (P := P) (w := w) (base := base) T
  have O_law_yard := zak (P := P) (w := w) (base := base) T
  have O_law_leads := kh (P := P) (w := w) (base := base) T
  have O_trees := zaU (P := P) (w := w) (base := base) T
  have O_law_sizes := kI (P := P) (w := w) (base := base) T
  have O_law_between := xl (P := P) (w := w) (base := base) T
  have O_count_of := zah (P := P) (w := w) (base := base) T
  have O_law_measure := yC (P := P) (w := w) (base := base) T
  refine xV (N := ["_law_script", "_law_yard_here", "_law_count", "_law_rows", "_law_link", "_law_due", "_law_some", "_law_ways", "_law_low", "_law_high", "_law_many", "_law_bounds", "_law_matrix", "_law_one", "_law_row"]) T.F_law qH fun cdv A outer s H E hr => ?_
  have hu66 := vH hr
  have hu64 := xt hr
  have hu0 := zcE hr
  conv in (zm _) => whnf
  exact (!zg (!zx (!rfl) (!rfl) (!rfl) (!ze (!pgn (i := 1) qH.nd)) (!zI O_law_yard (hr.mono (by omega)) (!rfl) T.m_law_yard T.F_law_yard.kp T.b_law_yard (!zk (!rfl) (!zI O_law_mixed (hr.mono (by omega)) (!rfl) T.m_law_mixed T.F_law_mixed.kp T.b_law_mixed (!zk (!rfl) (!za (pv 0)) (!zk (!rfl) (!zh) (!zi)))) (!zk (!rfl) (!zh) (!zk (!rfl) (!zt zr (!PD.b (!zh)) (!PD.b (!zt jw (!PD.b (!zI O_law_mixed (hr.mono (by omega)) (!rfl) T.m_law_mixed T.F_law_mixed.kp T.b_law_mixed (!zk (!rfl) (!za (pv 0)) (!zk (!rfl) (!zh) (!zi))))) (!PD.b (!zh))))) (!zi)))))) (!zg (!zx (!rfl) (!rfl) (!rfl) (!ze (!pgn (i := 2) qH.nd)) (!xE (!PD.b (!za (pv 1))) (!PD.b (!zh)) (fun _ _ => (!rfl)))) (!zg (!zx (!rfl) (!rfl) (!rfl) (!ze (!pgn (i := 3) qH.nd)) (!PFr.d_ (!qF (!zk (!rfl) (!jA (!zi)) (!zi))))) (!zg (!jm PassesOwn.never (!rfl) (!jo (!xE (!PD.b (!za (pv 1))) (!PD.b (!zh)) (fun _ _ => (!rfl)))) (!ze (!pgn (i := 4) qH.nd)) (!zn (!zx (!rfl) (!rfl) (!rfl) (!ze (!pgn (i := 3) qH.nd)) (!zt zr (!PD.b (!za (pv 3))) (!PD.b (!PFr.d_ (!qI (jf (oscope := zf (top 15)) (oN := ["_law_script", "_law_yard_here", "_law_count", "_law_rows", "_law_link", "_law_due", "_law_some", "_law_ways", "_law_low", "_law_high", "_law_many", "_law_bounds", "_law_matrix", "_law_one", "_law_row"]) (own := ["_law_row"]) (caps := [4, 2]) (N := ["_law_row", "_law_link", "_law_count"]) (by decide +kernel) (!rfl) (!rfl)) (by decide) (zF (by decide)) (!rfl) (!jo (!za (pv 3))) (fun _ _ _ _ _ => (!ze (zX (i := 0) (nd_ ["_law_row", "_law_link", "_law_count"]) (!rfl) (Or.inl (!rfl))))) (fun _ _ _ _ _ => (!vR (!jL (zds hu0) (!PD.b (!jp xN (!rfl) T.n_len boot_len (!jZ (!rfl) (!xk (pv 0)) (!zN)))) (!PD.b (!za (pv 2))) (qg _)))) (fun _ _ _ _ _ => (!zt zr (!xk (pv 0)) (!PD.b (!jA (!zk (!rfl) (!za (pv 1)) (!zi))))))))))))) (!zg (!xc (!rfl) (!rfl) (!rfl) (!pgn (i := 5) qH.nd) (!qF (!zi))) (!zg (!jm PassesOwn.never (!rfl) (!jo (!za (pv 3))) (!ze (!pgn (i := 6) qH.nd)) (!zn (!ya (!PWd.t (!zc1 (!jL (wW hu64) (!PD.b (!jp xN (!rfl) T.n_len boot_len (!jZ (!rfl) (!PD.b (!za (pv 6))) (!zN)))) (!PD.b (!za (pv 2))) (qg _)) (!zax (!zfy (!PD.b (!zI O_law_leads (hr.mono (by omega)) (!rfl) T.m_law_leads T.F_law_leads.kp T.b_law_leads (!zk (!rfl) (!za (pv 6)) (!zk (!rfl) (!za (pv 2)) (!zi))))))))) (!zg (!zx (!rfl) (!rfl) (!rfl) (!ze (!pgn (i := 7) qH.nd)) (!zh)) (!zg (!jm PassesOwn.never (!rfl) (!jo (!za (pv 6))) (!jW (!rfl) (!zo (!ze (!pgn (i := 8) qH.nd)) (!zo (!ze (!pgn (i := 9) qH.nd)) (!zo (!ze (!pgn (i := 10) qH.nd)) (!jv))))) (!zn (!zx (!rfl) (!rfl) (!rfl) (!ze (!pgn (i := 7) qH.nd)) (!zt jD (!PD.b (!za (pv 7))) (!PD.b (!za (pv 10))))))) (!zn (!xR (pv 5) (!jA (!zk (!rfl) (!qo jY (!rfl) T.n_tuple boot_tuple (!jZ (!rfl) (!PD.b (!PFr.d_ (!qI (jf (oscope := zf (top 15)) (oN := ["_law_script", "_law_yard_here", "_law_count", "_law_rows", "_law_link", "_law_due", "_law_some", "_law_ways", "_law_low", "_law_high", "_law_many", "_law_bounds", "_law_matrix", "_law_one", "_law_row"]) (own := ["_law_link"]) (caps := []) (N := ["_law_link"]) (by decide +kernel) (!rfl) (!rfl)) (by decide) (zF (by decide)) (!rfl) (!jo (!za (pv 6))) (fun _ _ _ _ _ => (!ze (zX (i := 0) (nd_ ["_law_link"]) (!rfl) (Or.inl (!rfl))))) (fun _ _ _ _ _ => (!jX)) (fun _ _ _ _ _ => (!qX (!PD.b (!za (pv 0))) (!qY) (!xb (!PD.b (!zh)))))))) (!zN))) (!zk (!rfl) (!za (pv 7)) (!zi)))))))) (!qz)))) (!zg (!ya (!jL (zar hu64) (!PD.b (!zI O_trees (hr.mono (by omega)) (!rfl) T.m_trees T.F_trees.kp T.b_trees (!zk (!rfl) (!za (pv 1)) (!zi)))) (!PD.b (!qo jY (!rfl) T.n_tuple boot_tuple (!jZ (!rfl) (!PD.b (!PFr.d_ (!yE hu66 (!rfl) T.n_sorted (!jZ (!rfl) (!xk (pv 5)) (!zN))))) (!zN)))) (qg _)) (!zn (!zM (!zgn))) (!qz)) (!zg (!zx (!rfl) (!rfl) (!rfl) (!ze (!pgn (i := 11) qH.nd)) (!zI O_law_sizes (hr.mono (by omega)) (!rfl) T.m_law_sizes T.F_law_sizes.kp T.b_law_sizes (!zk (!rfl) (!za (pv 1)) (!zi)))) (!zg (!xc (!rfl) (!rfl) (!rfl) (!pgn (i := 12) qH.nd) (!qF (!zi))) (!zg (!jm PassesOwn.never (!rfl) (!xO (!rfl) T.n_range (!zk (!rfl) (!zh) (!zk (!rfl) (!zt zr (!PD.b (!za (pv 2))) (!PD.b (!zh))) (!zi)))) (!ze (!pgn (i := 13) qH.nd)) (!zg (!zcT (i := 14) (jf (oscope := zf (top 15)) (oN := ["_law_script", "_law_yard_here", "_law_count", "_law_rows", "_law_link", "_law_due", "_law_some", "_law_ways", "_law_low", "_law_high", "_law_many", "_law_bounds", "_law_matrix", "_law_one", "_law_row"]) (own := ["_law_other"]) (caps := [1, 13]) (N := ["_law_other", "_law_yard_here", "_law_one"]) (by decide +kernel) (!rfl) (!rfl)) (by decide) (zF (by decide)) (!rfl) (!xO (!rfl) T.n_range (!zk (!rfl) (!zh) (!zk (!rfl) (!zt zr (!PD.b (!za (pv 2))) (!PD.b (!zh))) (!zi)))) (fun _ _ _ _ _ => (!ze (zX (i := 0) (nd_ ["_law_other", "_law_yard_here", "_law_one"]) (!rfl) (Or.inl (!rfl))))) (fun _ _ _ _ _ => (!jX)) (fun _ _ _ _ _ => (!zho zfR (!PD.b (!zI O_law_between (hr.mono (by omega)) (!rfl) T.m_law_between T.F_law_between.kp T.b_law_between (!zk (!rfl) (!za (pv 1)) (!zk (!rfl) (!za (pv 2)) (!zk (!rfl) (!za (pv 0)) (!zi)))))))) qH.nd (!rfl) (!rfl) (!rfl)) (!zg (!zdE (pv 14) (!PD.b (!zt zai (!PD.b (!za (pv 13))) (!PD.b (!zh)))) (!xE (!PD.b (!za (pv 11))) (!PD.b (!zt zai (!PD.b (!za (pv 13))) (!PD.b (!zh)))) (fun _ _ => (!rfl)))) (!zn (!wt 14 (!xR (pv 12) (!za (pv 14)))))))) (!zg (!zx (!rfl) (!rfl) (!rfl) (!ze (!pgn (i := 10) qH.nd)) (!zI O_count_of (hr.mono (by omega)) (!rfl) T.m_count_of T.F_count_of.kp T.b_count_of (!zk (!rfl) (!za (pv 1)) (!zi)))) (!zn (!wt 12 (!wt 5 (!zM (!zfd (!zgq (!zbI (zei _) (!PD.b (!za (pv 10))) (!rfl) T.n_isinstance (!rfl) T.n_bool boot_isinstance boot_bool)) (!zfd (!yP (wW hu64) (!PD.b (!za (pv 10))) (!PD.b (!jp (xP (!rfl)) (!rfl) T.n_sum boot_sum (!jZ (!rfl) (!PD.b (!PFr.d_ (!qI (jf (oscope := zf (top 15)) (oN := ["_law_script", "_law_yard_here", "_law_count", "_law_rows", "_law_link", "_law_due", "_law_some", "_law_ways", "_law_low", "_law_high", "_law_many", "_law_bounds", "_law_matrix", "_law_one", "_law_row"]) (own := ["_law_tree", "_law_ways"]) (caps := []) (N := ["_law_tree", "_law_ways"]) (by decide +kernel) (!rfl) (!rfl)) (by decide) (wy (jd (zF (by decide)) (jd (zF (by decide)) wD))) (!rfl) (!jo (!za (pv 5))) (fun _ _ _ _ _ => (!jW (!rfl) (!zo (!ze (zX (i := 0) (nd_ ["_law_tree", "_law_ways"]) (!rfl) (Or.inl (!rfl)))) (!zo (!ze (zX (i := 1) (nd_ ["_law_tree", "_law_ways"]) (!rfl) (Or.inl (!rfl)))) (!jv))))) (fun _ _ _ _ _ => (!jX)) (fun _ _ _ _ _ => (!za (pv 1)))))) (!zN)))) (qg _)) (!zgL (!yP (wW hu64) (!PD.b (!za (pv 10))) (!PD.b (!zI O_law_measure (hr.mono (by omega)) (!rfl) T.m_law_measure T.F_law_measure.kp T.b_law_measure (!zk (!rfl) (!za (pv 12)) (!zi)))) (qg _))))))))))))))))))))
end
end L2.Y
set_option maxHeartbeats 4000000
namespace L2.Y
open PySem PySem.Spec PyProof.Rows
theorem all_mk {l : PySem.W.OpenLaw} {w : World} {K : Frag} {h : Heap} {mg : Str → Option Value} {fa : Addr} (X : K.In h) (G : h.Ns mainGlobals mg) (hfa : mg "law" = some (.ref fa))
    {f0 : Addr} {od0 an0 : Option Addr} {sl0 : Array (Option Value)} {oc0 kV0 dc0 pm0 cd0 ct0 : Value}
    (a0 : PySem.W.nsIn K mainGlobals "joined" = some (some (.ref f0)))
    (l0 : K.lookup f0 = some ⟨oc0, od0, .func (PySem.W.fnOf "joined" "joined" (zv (top 1)) (zm (top 1)) (zf (top 1)) .none kV0 dc0 pm0 an0 cd0 ct0), sl0⟩)
    (c0 : PySem.W.codeIn K cd0 "joined" = true) (k0 : PySem.W.keepIn K (.ref f0) = true)
    {f1 : Addr} {od1 an1 : Option Addr} {sl1 : Array (Option Value)} {oc1 kV1 dc1 pm1 cd1 ct1 : Value}
    (a1 : PySem.W.nsIn K mainGlobals "grown" = some (some (.ref f1)))
    (l1 : K.lookup f1 = some ⟨oc1, od1, .func (PySem.W.fnOf "grown" "grown" (zv (top 2)) (zm (top 2)) (zf (top 2)) .none kV1 dc1 pm1 an1 cd1 ct1), sl1⟩)
    (c1 : PySem.W.codeIn K cd1 "grown" = true) (k1 : PySem.W.keepIn K (.ref f1) = true)
    {f2 : Addr} {od2 an2 : Option Addr} {sl2 : Array (Option Value)} {oc2 kV2 dc2 pm2 cd2 ct2 : Value}
    (a2 : PySem.W.nsIn K mainGlobals "trees" = some (some (.ref f2)))
    (l2 : K.lookup f2 = some ⟨oc2, od2, .func (PySem.W.fnOf "trees" "trees" (zv (top 3)) (zm (top 3)) (zf (top 3)) .none kV2 dc2 pm2 an2 cd2 ct2), sl2⟩)
    (c2 : PySem.W.codeIn K cd2 "trees" = true) (k2 : PySem.W.keepIn K (.ref f2) = true)
    {f3 : Addr} {od3 an3 : Option Addr} {sl3 : Array (Option Value)} {oc3 kV3 dc3 pm3 cd3 ct3 : Value}
    (a3 : PySem.W.nsIn K mainGlobals "count_of" = some (some (.ref f3)))
    (l3 : K.lookup f3 = some ⟨oc3, od3, .func (PySem.W.fnOf "count_of" "count_of" (zv (top 4)) (zm (top 4)) (zf (top 4)) .none kV3 dc3 pm3 an3 cd3 ct3), sl3⟩)
    (c3 : PySem.W.codeIn K cd3 "count_of" = true) (k3 : PySem.W.keepIn K (.ref f3) = true)
    {f4 : Addr} {od4 an4 : Option Addr} {sl4 : Array (Option Value)} {oc4 kV4 dc4 pm4 cd4 ct4 : Value}
    (a4 : PySem.W.nsIn K mainGlobals "_law_cell_at" = some (some (.ref f4)))
    (l4 : K.lookup f4 = some ⟨oc4, od4, .func (PySem.W.fnOf "_law_cell_at" "_law_cell_at" (zv (top 6)) (zm (top 6)) (zf (top 6)) .none kV4 dc4 pm4 an4 cd4 ct4), sl4⟩)
    (c4 : PySem.W.codeIn K cd4 "_law_cell_at" = true) (k4 : PySem.W.keepIn K (.ref f4) = true)
    {f5 : Addr} {od5 an5 : Option Addr} {sl5 : Array (Option Value)} {oc5 kV5 dc5 pm5 cd5 ct5 : Value}
    (a5 : PySem.W.nsIn K mainGlobals "_law_mixed" = some (some (.ref f5)))
    (l5 : K.lookup f5 = some ⟨oc5, od5, .func (PySem.W.fnOf "_law_mixed" "_law_mixed" (zv (top 7)) (zm (top 7)) (zf (top 7)) .none kV5 dc5 pm5 an5 cd5 ct5), sl5⟩)
    (c5 : PySem.W.codeIn K cd5 "_law_mixed" = true) (k5 : PySem.W.keepIn K (.ref f5) = true)
    {f6 : Addr} {od6 an6 : Option Addr} {sl6 : Array (Option Value)} {oc6 kV6 dc6 pm6 cd6 ct6 : Value}
    (a6 : PySem.W.nsIn K mainGlobals "_law_drawn" = some (some (.ref f6)))
    (l6 : K.lookup f6 = some ⟨oc6, od6, .func (PySem.W.fnOf "_law_drawn" "_law_drawn" (zv (top 8)) (zm (top 8)) (zf (top 8)) .none kV6 dc6 pm6 an6 cd6 ct6), sl6⟩)
    (c6 : PySem.W.codeIn K cd6 "_law_drawn" = true) (k6 : PySem.W.keepIn K (.ref f6) = true)
    {f7 : Addr} {od7 an7 : Option Addr} {sl7 : Array (Option Value)} {oc7 kV7 dc7 pm7 cd7 ct7 : Value}
    (a7 : PySem.W.nsIn K mainGlobals "_law_yard" = some (some (.ref f7)))
    (l7 : K.lookup f7 = some ⟨oc7, od7, .func (PySem.W.fnOf "_law_yard" "_law_yard" (zv (top 9)) (zm (top 9)) (zf (top 9)) .none kV7 dc7 pm7 an7 cd7 ct7), sl7⟩)
    (c7 : PySem.W.codeIn K cd7 "_law_yard" = true) (k7 : PySem.W.keepIn K (.ref f7) = true)
    {f8 : Addr} {od8 an8 : Option Addr} {sl8 : Array (Option Value)} {oc8 kV8 dc8 pm8 cd8 ct8 : Value}
    (a8 : PySem.W.nsIn K mainGlobals "_law_between" = some (some (.ref f8)))
    (l8 : K.lookup f8 = some ⟨oc8, od8, .func (PySem.W.fnOf "_law_between" "_law_between" (zv (top 11)) (zm (top 11)) (zf (top 11)) .none kV8 dc8 pm8 an8 cd8 ct8), sl8⟩)
    (c8 : PySem.W.codeIn K cd8 "_law_between" = true) (k8 : PySem.W.keepIn K (.ref f8) = true)
    {f9 : Addr} {od9 an9 : Option Addr} {sl9 : Array (Option Value)} {oc9 kV9 dc9 pm9 cd9 ct9 : Value}
    (a9 : PySem.W.nsIn K mainGlobals "_law_sizes" = some (some (.ref f9)))
    (l9 : K.lookup f9 = some ⟨oc9, od9, .func (PySem.W.fnOf "_law_sizes" "_law_sizes" (zv (top 12)) (zm (top 12)) (zf (top 12)) .none kV9 dc9 pm9 an9 cd9 ct9), sl9⟩)
    (c9 : PySem.W.codeIn K cd9 "_law_sizes" = true) (k9 : PySem.W.keepIn K (.ref f9) = true)
    {f10 : Addr} {od10 an10 : Option Addr} {sl10 : Array (Option Value)} {oc10 kV10 dc10 pm10 cd10 ct10 : Value}
    (a10 : PySem.W.nsIn K mainGlobals "_law_measure" = some (some (.ref f10)))
    (l10 : K.lookup f10 = some ⟨oc10, od10, .func (PySem.W.fnOf "_law_measure" "_law_measure" (zv (top 13)) (zm (top 13)) (zf (top 13)) .none kV10 dc10 pm10 an10 cd10 ct10), sl10⟩)
    (c10 : PySem.W.codeIn K cd10 "_law_measure" = true) (k10 : PySem.W.keepIn K (.ref f10) = true)
    {f11 : Addr} {od11 an11 : Option Addr} {sl11 : Array (Option Value)} {oc11 kV11 dc11 pm11 cd11 ct11 : Value}
    (a11 : PySem.W.nsIn K mainGlobals "_law_leads" = some (some (.ref f11)))
    (l11 : K.lookup f11 = some ⟨oc11, od11, .func (PySem.W.fnOf "_law_leads" "_law_leads" (zv (top 14)) (zm (top 14)) (zf (top 14)) .none kV11 dc11 pm11 an11 cd11 ct11), sl11⟩)
    (c11 : PySem.W.codeIn K cd11 "_law_leads" = true) (k11 : PySem.W.keepIn K (.ref f11) = true)
    {f12 : Addr} {od12 an12 : Option Addr} {sl12 : Array (Option Value)} {oc12 kV12 dc12 pm12 cd12 ct12 : Value}
    (a12 : PySem.W.nsIn K mainGlobals "law" = some (some (.ref f12)))
    (l12 : K.lookup f12 = some ⟨oc12, od12, .func (PySem.W.fnOf "law" "law" (zv (top 15)) (zm (top 15)) (zf (top 15)) .none kV12 dc12 pm12 an12 cd12 ct12), sl12⟩)
    (c12 : PySem.W.codeIn K cd12 "law" = true) (k12 : PySem.W.keepIn K (.ref f12) = true)
    (z0 : PySem.W.nsIn K mainGlobals "bool" = some none)
    (z1 : PySem.W.nsIn K mainGlobals "enumerate" = some none)
    (z2 : PySem.W.nsIn K mainGlobals "int" = some none)
    (z3 : PySem.W.nsIn K mainGlobals "isinstance" = some none)
    (z4 : PySem.W.nsIn K mainGlobals "len" = some none)
    (z5 : PySem.W.nsIn K mainGlobals "max" = some none)
    (z6 : PySem.W.nsIn K mainGlobals "min" = some none)
    (z7 : PySem.W.nsIn K mainGlobals "range" = some none)
    (z8 : PySem.W.nsIn K mainGlobals "sorted" = some none)
    (z9 : PySem.W.nsIn K mainGlobals "sum" = some none)
    (z10 : PySem.W.nsIn K mainGlobals "tuple" = some none)
    : ∃ fd : FuncData, (∀ (s : Shared) (v : Value), BindsTo s fd ⟨[v], []⟩ [("_law_script", v)]) ∧ ∀ base : Heap, K.In base → base.Ns mainGlobals mg → FnOk l.prog w K mg base CX0 10 fa fd ["_law_script"] (spD K 1 F_law) := by
  have e := hfa.symm.trans (PySem.W.mg_of X G a12)
  cases e
  have F0 := qw (st := top 1) l0 c0 k0
  have b0 := F0.binds (ps := ["groups", "one", "other"]) fun _ _ _ _ _ _ us hl => match us, hl with | [_, _, _], _ => rfl
  have F1 := qw (st := top 2) l1 c1 k1
  have b1 := F1.binds (ps := ["stems", "tie"]) fun _ _ _ _ _ _ us hl => match us, hl with | [_, _], _ => rfl
  have F2 := qw (st := top 3) l2 c2 k2
  have b2 := F2.binds (ps := ["yard"]) fun _ _ _ _ _ _ us hl => match us, hl with | [_], _ => rfl
  have F3 := qw (st := top 4) l3 c3 k3
  have b3 := F3.binds (ps := ["yard"]) fun _ _ _ _ _ _ us hl => match us, hl with | [_], _ => rfl
  have F4 := qw (st := top 6) l4 c4 k4
  have b4 := F4.binds (ps := ["_law_script", "_law_k"]) fun _ _ _ _ _ _ us hl => match us, hl with | [_, _], _ => rfl
  have F5 := qw (st := top 7) l5 c5 k5
  have b5 := F5.binds (ps := ["_law_script", "_law_k"]) fun _ _ _ _ _ _ us hl => match us, hl with | [_, _], _ => rfl
  have F6 := qw (st := top 8) l6 c6 k6
  have b6 := F6.binds (ps := ["_law_number", "_law_k"]) fun _ _ _ _ _ _ us hl => match us, hl with | [_, _], _ => rfl
  have F7 := qw (st := top 9) l7 c7 k7
  have b7 := F7.binds (ps := ["_law_number", "_law_most", "_law_wide"]) fun _ _ _ _ _ _ us hl => match us, hl with | [_, _, _], _ => rfl
  have F8 := qw (st := top 11) l8 c8 k8
  have b8 := F8.binds (ps := ["_law_yard_here", "_law_one", "_law_other"]) fun _ _ _ _ _ _ us hl => match us, hl with | [_, _, _], _ => rfl
  have F9 := qw (st := top 12) l9 c9 k9
  have b9 := F9.binds (ps := ["_law_yard_here"]) fun _ _ _ _ _ _ us hl => match us, hl with | [_], _ => rfl
  have F10 := qw (st := top 13) l10 c10 k10
  have b10 := F10.binds (ps := ["_law_rows"]) fun _ _ _ _ _ _ us hl => match us, hl with | [_], _ => rfl
  have F11 := qw (st := top 14) l11 c11 k11
  have b11 := F11.binds (ps := ["_law_some", "_law_count"]) fun _ _ _ _ _ _ us hl => match us, hl with | [_, _], _ => rfl
  have F12 := qw (st := top 15) l12 c12 k12
  have b12 := F12.binds (ps := ["_law_script"]) fun _ _ _ _ _ _ us hl => match us, hl with | [_], _ => rfl
  have T : Tx K mg ⟨f0, PySem.W.fnOf "joined" "joined" (zv (top 1)) (zm (top 1)) (zf (top 1)) .none kV0 dc0 pm0 an0 cd0 ct0, f1, PySem.W.fnOf "grown" "grown" (zv (top 2)) (zm (top 2)) (zf (top 2)) .none kV1 dc1 pm1 an1 cd1 ct1, f2, PySem.W.fnOf "trees" "trees" (zv (top 3)) (zm (top 3)) (zf (top 3)) .none kV2 dc2 pm2 an2 cd2 ct2, f3, PySem.W.fnOf "count_of" "count_of" (zv (top 4)) (zm (top 4)) (zf (top 4)) .none kV3 dc3 pm3 an3 cd3 ct3, f4, PySem.W.fnOf "_law_cell_at" "_law_cell_at" (zv (top 6)) (zm (top 6)) (zf (top 6)) .none kV4 dc4 pm4 an4 cd4 ct4, f5, PySem.W.fnOf "_law_mixed" "_law_mixed" (zv (top 7)) (zm (top 7)) (zf (top 7)) .none kV5 dc5 pm5 an5 cd5 ct5, f6, PySem.W.fnOf "_law_drawn" "_law_drawn" (zv (top 8)) (zm (top 8)) (zf (top 8)) .none kV6 dc6 pm6 an6 cd6 ct6, f7, PySem.W.fnOf "_law_yard" "_law_yard" (zv (top 9)) (zm (top 9)) (zf (top 9)) .none kV7 dc7 pm7 an7 cd7 ct7, f8, PySem.W.fnOf "_law_between" "_law_between" (zv (top 11)) (zm (top 11)) (zf (top 11)) .none kV8 dc8 pm8 an8 cd8 ct8, f9, PySem.W.fnOf "_law_sizes" "_law_sizes" (zv (top 12)) (zm (top 12)) (zf (top 12)) .none kV9 dc9 pm9 an9 cd9 ct9, f10, PySem.W.fnOf "_law_measure" "_law_measure" (zv (top 13)) (zm (top 13)) (zf (top 13)) .none kV10 dc10 pm10 an10 cd10 ct10, f11, PySem.W.fnOf "_law_leads" "_law_leads" (zv (top 14)) (zm (top 14)) (zf (top 14)) .none kV11 dc11 pm11 an11 cd11 ct11, fa, PySem.W.fnOf "law" "law" (zv (top 15)) (zm (top 15)) (zf (top 15)) .none kV12 dc12 pm12 an12 cd12 ct12⟩ := ⟨F0, b0, PySem.W.mg_of X G a0, F1, b1, PySem.W.mg_of X G a1, F2, b2, PySem.W.mg_of X G a2, F3, b3, PySem.W.mg_of X G a3, F4, b4, PySem.W.mg_of X G a4, F5, b5, PySem.W.mg_of X G a5, F6, b6, PySem.W.mg_of X G a6, F7, b7, PySem.W.mg_of X G a7, F8, b8, PySem.W.mg_of X G a8, F9, b9, PySem.W.mg_of X G a9, F10, b10, PySem.W.mg_of X G a10, F11, b11, PySem.W.mg_of X G a11, F12, b12, PySem.W.mg_of X G a12, PySem.W.mg_none_of X G z0, PySem.W.mg_none_of X G z1, PySem.W.mg_none_of X G z2, PySem.W.mg_none_of X G z3, PySem.W.mg_none_of X G z4, PySem.W.mg_none_of X G z5, PySem.W.mg_none_of X G z6, PySem.W.mg_none_of X G z7, PySem.W.mg_none_of X G z8, PySem.W.mg_none_of X G z9, PySem.W.mg_none_of X G z10⟩
  exact ⟨PySem.W.fnOf "law" "law" (zv (top 15)) (zm (top 15)) (zf (top 15)) .none kV12 dc12 pm12 an12 cd12 ct12, fun s v => .of_eq rfl, fun base _ _ => zg0 T⟩
theorem walk {l : PySem.W.OpenLaw} {q : Program} {loose : List Str} {XP : (Str → Option Value) → Heap → Prop} {YP : World → Heap → Prop} {d : DefRec} {K : Params → PySem.W.Frag} (hn : l.most = some 63) (hdf : d.params.defaults = [])
    (hY : ∀ (w : World) (h : Heap), YP w h → (K w.params).In h)
    (F : ∀ (w : World) (mg : Str → Option Value) (fa : Addr) (h : Heap), (K w.params).In h → h.Ns mainGlobals mg → mg d.name = some (.ref fa) →
      ∃ fd : FuncData, (∀ (s : Shared) (u : Value), BindsTo s fd ⟨[u], []⟩ [("_law_script", u)]) ∧ ∀ base : Heap, (K w.params).In base → base.Ns mainGlobals mg → FnOk l.prog w (K w.params) mg base CX0 10 fa fd ["_law_script"] (spD (K w.params) 1 F_law)) :
    PySem.W.WalkO q loose XP YP l.row.toRowW d [] (fun f vs => PySem.call f vs) :=
  L2.walk_of (n := 63) (k := 10) (x := "_law_script") (CX := fun _ => CX0) (sp := fun w => spD (K w.params) 1 F_law) hn (by decide) hdf ⟨rfl, by decide, by decide⟩ hY F (fun _ _ a ns hl _ hS => zcH hS (zdU ns hl)) fun _ _ _ _ _ z => z
end L2.Y
open PySem PySem.W PyProof.Rows
set_option maxRecDepth 100000 in
set_option maxHeartbeats 0 in
theorem PySem.Challenge.cw_sandyard_k40_whole_trees_holds : PySem.Challenge.rw_sandyard_k40_whole_trees.Holds := by
  w_on; o_law; k_head; (case hw => w_witness2)
  k_fill
  refine L2.Y.walk (l := PySem.Challenge.rw_sandyard_k40_whole_trees) rfl rfl (fun w h Y => PySem.W.kIn_of Y) ?F
  case F =>
    intro w mg fa h KX G hmg
    refine' L2.Y.all_mk KX G hmg ?a0 ?l0 ?c0 ?k0 ?a1 ?l1 ?c1 ?k1 ?a2 ?l2 ?c2 ?k2 ?a3 ?l3 ?c3 ?k3 ?a4 ?l4 ?c4 ?k4 ?a5 ?l5 ?c5 ?k5 ?a6 ?l6 ?c6 ?k6 ?a7 ?l7 ?c7 ?k7 ?a8 ?l8 ?c8 ?k8 ?a9 ?l9 ?c9 ?k9 ?a10 ?l10 ?c10 ?k10 ?a11 ?l11 ?c11 ?k11 ?a12 ?l12 ?c12 ?k12 ?z0 ?z1 ?z2 ?z3 ?z4 ?z5 ?z6 ?z7 ?z8 ?z9 ?z10
    (case a0 => k_is)
    (case l0 => k_is)
    (case c0 => k_is)
    (case k0 => k_is)
    (case a1 => k_is)
    (case l1 => k_is)
    (case c1 => k_is)
    (case k1 => k_is)
    (case a2 => k_is)
    (case l2 => k_is)
    (case c2 => k_is)
    (case k2 => k_is)
    (case a3 => k_is)
    (case l3 => k_is)
    (case c3 => k_is)
    (case k3 => k_is)
    (case a4 => k_is)
    (case l4 => k_is)
    (case c4 => k_is)
    (case k4 => k_is)
    (case a5 => k_is)
    (case l5 => k_is)
    (case c5 => k_is)
    (case k5 => k_is)
    (case a6 => k_is)
    (case l6 => k_is)
    (case c6 => k_is)
    (case k6 => k_is)
    (case a7 => k_is)
    (case l7 => k_is)
    (case c7 => k_is)
    (case k7 => k_is)
    (case a8 => k_is)
    (case l8 => k_is)
    (case c8 => k_is)
    (case k8 => k_is)
    (case a9 => k_is)
    (case l9 => k_is)
    (case c9 => k_is)
    (case k9 => k_is)
    (case a10 => k_is)
    (case l10 => k_is)
    (case c10 => k_is)
    (case k10 => k_is)
    (case a11 => k_is)
    (case l11 => k_is)
    (case c11 => k_is)
    (case k11 => k_is)
    (case a12 => k_is)
    (case l12 => k_is)
    (case c12 => k_is)
    (case k12 => k_is)
    (case z0 => k_is)
    (case z1 => k_is)
    (case z2 => k_is)
    (case z3 => k_is)
    (case z4 => k_is)
    (case z5 => k_is)
    (case z6 => k_is)
    (case z7 => k_is)
    (case z8 => k_is)
    (case z9 => k_is)
    (case z10 => k_is)
