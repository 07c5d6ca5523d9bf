import PyProof.Rows.All
import Wide.All
import OpenK.AllK
import Wide.FinOn
import Lean
import PyProof.EqAt
import PyProof.EqKinds
import PyProof.TupleCall
import PyProof.EqLayable
import PySem.PyData
import PyProof.Rows.SortKey
import KE.KSortTup
import PyProof.ZipIter
import PyProof.Draws
import PyProof.ExcAttrAll.ValueError
import PyProof.ExcBaseAll.ValueError
import PyProof.NsDelKeeps
import PyProof.StrOps2
import PyProof.ListRange
import PyProof.FString
import PyProof.StrCalls3
import PyProof.Rows.StrJoin2
import PyProof.StrLaws
import PyProof.Fits
import PyProof.Rows.Range3
import PyProof.StrCalls2
import PyProof.StrLawsChain
import PyProof.StrLawsIn
import PyProof.StrLawsOcc
import PyProof.StrLawsTight
import PySem.Challenge.RW_sandyard_k03_whole_read
set_option Elab.async false
set_option linter.all false
set_option maxRecDepth 100000
noncomputable section
namespace HT
noncomputable def lexLt : List Int → List Int → Bool
  | [], [] => false
  | [], _ :: _ => true
  | _ :: _, [] => false
  | x :: xs, y :: ys => if x = y then lexLt xs ys else decide (x < y)
noncomputable def sIx (n d : Nat) : Option Int → Nat
  | none => d
  | some v => if v < 0 then (v + (n : Int)).toNat else min v.toNat n
end HT
namespace L2
open PySem
abbrev Key := Sum Int Str
noncomputable def CMul (i j : Int) : Prop := (-(2 ^ 64) < i ∧ i < 2 ^ 64) ∨ (-(2 ^ 64) < j ∧ j < 2 ^ 64)
noncomputable def CPow (i j : Int) : Prop := 0 ≤ j ∧ j ≤ 1000000 ∧ i.natAbs < 2 ^ 64
noncomputable def ixN (n : Nat) (i : Int) : Option Nat := if 0 ≤ i then (if i < n then some i.toNat else none) else if -(n : Int) ≤ i then some (i + n).toNat else none
noncomputable def atI {α : Type} (xs : List α) (i : Int) : Option α := (ixN xs.length i).bind fun j => xs[j]?
end L2
namespace L2.Y
open PySem
abbrev D := PyData
noncomputable def keyD : Key → D
  | .inl i => .int i
  | .inr x => .str x
noncomputable def wX (ks : List Key) : D := .tuple (ks.map keyD)
inductive En where
  | val (d : D)
  | own (d : D)
abbrev Env' := List (Option En)
noncomputable def gVar (i : Nat) : Env' → Option D := fun ρ => match ρ[i]? with
  | some (some (.val d)) => some d
  | _ => none
noncomputable def qk (i : Nat) : Env' → Option D := fun ρ => match ρ[i]? with
  | some (some (.val d)) => some d
  | some (some (.own d)) => some d
  | _ => none
noncomputable def g2 (h : D → D → Option D) (ga gb : Env' → Option D) : Env' → Option D := fun ρ => (ga ρ).bind fun x => (gb ρ).bind fun y => h x y
noncomputable def g1 (h : D → Option D) (ga : Env' → Option D) : Env' → Option D := fun ρ => (ga ρ).bind h
noncomputable def gA (h : List D → Option D) (ga : Env' → Option (List D)) : Env' → Option D := fun ρ => (ga ρ).bind h
noncomputable def gNil : Env' → Option (List D) := fun _ => some []
noncomputable def zb (ga : Env' → Option D) (gr : Env' → Option (List D)) : Env' → Option (List D) := fun ρ => (ga ρ).bind fun x => (gr ρ).bind fun xs => some (x :: xs)
noncomputable def tupD (ds : List D) : Option D := if ds.length ≤ sizeLine then some (.tuple ds) else none
noncomputable def gLst (g : Env' → Option (List D)) : Env' → Option (List D) := fun ρ => (g ρ).bind fun ds => if ds.length ≤ sizeLine then some ds else none
noncomputable def frz (i : Nat) (ρ : Env') : Env' := match ρ[i]? with
  | some (some (.own d)) => ρ.set i (some (.val d))
  | _ => ρ
inductive Out where
  | nxt (ρ : Env')
  | ret (d : D)
  | brk (ρ : Env')
  | cnt (ρ : Env')
abbrev GS := Env' → Option Out
noncomputable def sNil : GS := fun ρ => some (.nxt ρ)
noncomputable def sSeq (g h : GS) : GS := fun ρ => (g ρ).bind fun
  | .nxt ρ' => h ρ'
  | o => some o
abbrev GT := D → Env' → Option Env'
noncomputable def hName (i : Nat) : GT := fun d ρ => some (ρ.set i (some (.val d)))
noncomputable def hNil : List D → Env' → Option Env' := fun ds ρ => match ds with
  | [] => some ρ
  | _ => none
noncomputable def jG (h : GT) (k : List D → Env' → Option Env') : List D → Env' → Option Env' := fun ds ρ => match ds with
  | d :: r => (h d ρ).bind fun ρ' => k r ρ'
  | [] => none
noncomputable def hTup (n : Nat) (k : List D → Env' → Option Env') : GT := fun d ρ => match d with
  | .tuple ds => if ds.length = n then k ds ρ else none
  | _ => none
noncomputable def sAsg (h : GT) (ge : Env' → Option D) : GS := fun ρ => (ge ρ).bind fun d => (h d ρ).map Out.nxt
noncomputable def sOwn (i : Nat) (ge : Env' → Option (List D)) : GS := fun ρ => (ge ρ).map fun ds => Out.nxt (ρ.set i (some (.own (.list ds))))
noncomputable def jO : D → Option Bool
  | .none => some false
  | .bool b => some b
  | .int i => some (i != 0)
  | .str y => if y.length ≤ sizeLine then some ((y.length : Int) != 0) else none
  | .list ds => some (!ds.isEmpty)
  | .tuple ds => some (!ds.isEmpty)
  | .dict _ => none
noncomputable def gTr (g : Env' → Option D) : Env' → Option Bool := fun ρ => (g ρ).bind jO
noncomputable def jT : D → Option Bool
  | .bool b => some b
  | _ => none
noncomputable def gBo (g : Env' → Option D) : Env' → Option Bool := fun ρ => (g ρ).bind jT
noncomputable def zfF (g h : Env' → Option Bool) : Env' → Option Bool := fun ρ => (g ρ).bind fun b => if b then h ρ else some false
noncomputable def gOrT (g h : Env' → Option Bool) : Env' → Option Bool := fun ρ => (g ρ).bind fun b => if b then some true else h ρ
noncomputable def jr (g : Env' → Option Bool) : Env' → Option Bool := fun ρ => (g ρ).map fun b => !b
noncomputable def qP (g h : Env' → Option D) : Env' → Option D := fun ρ => (gBo g ρ).bind fun b => if b then h ρ else some (.bool false)
noncomputable def gOrV (g h : Env' → Option D) : Env' → Option D := fun ρ => (gBo g ρ).bind fun b => if b then some (.bool true) else h ρ
noncomputable def zcb (g : Env' → Option D) : Env' → Option D := fun ρ => (gBo g ρ).map fun b => .bool !b
noncomputable def sIf (c : Env' → Option Bool) (g h : GS) : GS := fun ρ => (c ρ).bind fun b => if b then g ρ else h ρ
noncomputable def zF (lo : Int) (n : Nat) : List D := (List.range n).map fun (i : Nat) => PyData.int (lo + i)
noncomputable def seqD : D → Option (List D)
  | .tuple ds => some ds
  | .list ds => some ds
  | _ => none
noncomputable def gIt (f : D → Option (List D)) (g : Env' → Option D) : Env' → Option (List D) := fun ρ => (g ρ).bind f
noncomputable def kt (ds : List D) : Option (List D) := match ds with
  | [.int j] => if -(2 ^ 62) ≤ j ∧ j < 2 ^ 62 then some (zF 0 j.toNat) else none
  | _ => none
noncomputable def kc (ds : List D) : Option (List D) := match ds with
  | [.int i, .int j] => if -(2 ^ 62) ≤ i ∧ i < 2 ^ 62 ∧ -(2 ^ 62) ≤ j ∧ j < 2 ^ 62 then some (zF i (j - i).toNat) else none
  | _ => none
noncomputable def gItA (f : List D → Option (List D)) (g : Env' → Option (List D)) : Env' → Option (List D) := fun ρ => (g ρ).bind f
noncomputable def forF (h : GT) (gb : GS) : List D → Env' → Option Out
  | [], ρ => some (.nxt ρ)
  | d :: ds, ρ => (h d ρ).bind fun ρ1 => (gb ρ1).bind fun
    | .nxt ρ2 => forF h gb ds ρ2
    | .cnt ρ2 => forF h gb ds ρ2
    | .brk ρ2 => some (.nxt ρ2)
    | .ret d => some (.ret d)
noncomputable def sFor (g : Env' → Option (List D)) (h : GT) (gb : GS) : GS := fun ρ => (g ρ).bind fun ds => forF h gb ds ρ
noncomputable def ownL (i : Nat) (ρ : Env') : Option (List D) := match ρ[i]? with
  | some (some (.own (.list ds))) => some ds
  | _ => none
noncomputable def sApp (i : Nat) (ge : Env' → Option D) : GS := fun ρ => (ge ρ).bind fun d => (ownL i ρ).bind fun ds => if ds.length < sizeLine then some (.nxt (ρ.set i (some (.own (.list (ds ++ [d])))))) else none
noncomputable def eqD (a b : D) : Option D := if SeqAt.shaped a && SeqAt.shaped b then some (.bool (PyData.eqv a b)) else none
noncomputable def neD (a b : D) : Option D := if SeqAt.shaped a && SeqAt.shaped b then some (.bool (!PyData.eqv a b)) else none
noncomputable def keyQ : D → Option Key
  | .int i => some (.inl i)
  | .str x => some (.inr x)
  | _ => none
noncomputable def zhy : D → Option (List Key)
  | .tuple ds => ds.mapM keyQ
  | _ => none
noncomputable def yi (kds : List (D × D)) (x : D) : Option D := (kds.find? fun p => PyData.eqv p.1 x).map (·.2)
noncomputable def putD (kds : List (D × D)) (x y : D) : List (D × D) := if (kds.any fun p => PyData.eqv p.1 x) = true then kds.map (fun p => if PyData.eqv p.1 x = true then (p.1, y) else p) else kds ++ [(x, y)]
noncomputable def hasD (x : D) : D → Option Bool
  | .list ds => if (ds.all SeqAt.shaped && SeqAt.shaped x) = true then some (ds.any fun y => PyData.eqv y x) else none
  | .tuple ds => if (ds.all SeqAt.shaped && SeqAt.shaped x) = true then some (ds.any fun y => PyData.eqv y x) else none
  | _ => none
noncomputable def inD (x c : D) : Option D := (hasD x c).map PyData.bool
noncomputable def yF (x c : D) : Option D := (hasD x c).map fun b => PyData.bool !b
noncomputable def kZ (f : Int → Int → Option D) : D → D → Option D
  | .int i, .int j => f i j
  | _, _ => none
noncomputable def subD := kZ fun i j => some (.int (i - j))
noncomputable def vo := kZ fun i j => if 0 < j ∧ j < 1073741824 then some (.int (i / j)) else none
noncomputable def modD := kZ fun i j => if 0 < j then some (.int (i % j)) else none
instance (i j : Int) : Decidable (CMul i j) := by unfold CMul; exact inferInstance
instance (i j : Int) : Decidable (CPow i j) := by unfold CPow; exact inferInstance
noncomputable def mulI (i j : Int) : Option D := if CMul i j then some (.int (i * j)) else none
noncomputable def repD (ds : List D) (k : Int) : Option (List D) := if -(2 ^ 63) ≤ k ∧ k < 2 ^ 63 ∧ ds.length * k.toNat ≤ sizeLine then some (List.replicate k.toNat ds).flatten else none
noncomputable def addD : D → D → Option D
  | .int i, .int j => some (.int (i + j))
  | .str x, .str y => if x.length + y.length ≤ sizeLine then some (.str (x ++ y)) else none
  | .tuple xs, .tuple ys => if xs.length + ys.length ≤ sizeLine then some (.tuple (xs ++ ys)) else none
  | .list xs, .list ys => if xs.length + ys.length ≤ sizeLine then some (.list (xs ++ ys)) else none
  | _, _ => none
noncomputable def zfq (ds : List D) : Option (List Int) := ds.mapM fun
  | .int i => some i
  | _ => none
noncomputable def cmpD (f : Int → Int → Bool) (g : List Int → List Int → Bool) : D → D → Option D
  | .int i, .int j => some (.bool (f i j))
  | .tuple xs, .tuple ys => (zfq xs).bind fun is => (zfq ys).bind fun js => some (.bool (g is js))
  | _, _ => none
noncomputable def ltD := cmpD (fun i j => decide (i < j)) HT.lexLt
noncomputable def geD := cmpD (fun i j => decide (j ≤ i)) (fun is js => !HT.lexLt is js)
noncomputable def leD := kZ fun i j => some (.bool (decide (i ≤ j)))
noncomputable def ixD : D → D → Option D
  | .tuple ds, .int i => atI ds i
  | .list ds, .int i => atI ds i
  | .str z, .int i => if z.length ≤ sizeLine then (atI z.cps.toList i).map fun c => .str ⟨#[c]⟩ else none
  | _, _ => none
noncomputable def lenD : List D → Option D
  | [.tuple ds] => some (.int ds.length)
  | [.list ds] => some (.int ds.length)
  | [.str z] => if z.length ≤ sizeLine then some (.int z.length) else none
  | _ => none
noncomputable def minD : List D → Option D
  | [.int i, .int j] => some (.int (if j < i then j else i))
  | _ => none
noncomputable def maxD : List D → Option D
  | [.int i, .int j] => some (.int (if j > i then j else i))
  | _ => none
noncomputable def ym : List D → Option D
  | [.tuple ds] => some (.tuple ds)
  | [.list ds] => some (.tuple ds)
  | _ => none
noncomputable def strOfD : List D → Option D
  | [.int i] => if i.natAbs.log2 < 1920 then some (.str (toString i)) else none
  | _ => none
noncomputable def gItL (h : List D → Option (List D)) (g : Env' → Option (List D)) : Env' → Option (List D) := fun ρ => (g ρ).bind h
noncomputable def capS {α : Type} (n : Nat) (caps : List Nat) (σ : List (Option α)) : List (Option α) := List.replicate n none ++ caps.map fun j => (σ[j]?).join
noncomputable def qr (h : GT) (gt : Env' → Option Bool) (ge : Env' → Option D) (ρ : Env') : List D → Option (List D)
  | [] => some []
  | d :: ds => (h d ρ).bind fun ρ1 => (gt ρ1).bind fun b => if b then (ge ρ1).bind fun y => (qr h gt ge ρ ds).map (y :: ·) else qr h gt ge ρ ds
noncomputable def qh (n : Nat) (caps : List Nat) (gi : Env' → Option (List D)) (h : GT) (gt : Env' → Option Bool) (ge : Env' → Option D) : Env' → Option (List D) := fun ρ => (gi ρ).bind fun ds => if ds.length ≤ sizeLine then qr h gt ge (capS n caps ρ) ds else none
noncomputable def jm (n : Nat) (ds : List D) : Env' := ds.map (fun d => some (.val d)) ++ List.replicate (n - ds.length) none
noncomputable def jc (n : Nat) (g : GS) (ds : List D) : Option D := (g (jm n ds)).bind fun
  | .ret d => some d
  | .nxt _ => some .none
  | _ => none
noncomputable def zA (n : Nat) (f : List D → Option D) : List D → Option D := fun ds => if ds.length = n then f ds else none
noncomputable def zbT : D → Bool
  | .bool _ => true
  | .int _ => true
  | _ => false
noncomputable def kg : D → Bool
  | .bool _ => true
  | _ => false
noncomputable def jx : D → Bool
  | .tuple _ => true
  | _ => false
noncomputable def isI (f : D → Bool) : D → Option D
  | .dict _ => none
  | d => some (.bool (f d))
noncomputable def kH (h h' : D → D → Option D) (ga gb gc : Env' → Option D) : Env' → Option D := fun ρ => (ga ρ).bind fun x => (gb ρ).bind fun y => ((h x y).bind jT).bind fun b => if b then (gc ρ).bind fun z => h' y z else some (.bool false)
noncomputable def yI (ds : List D) : Option (List Bool) := ds.mapM jT
noncomputable def allD : List D → Option D
  | [.list ds] => (yI ds).map fun bs => .bool (bs.all id)
  | _ => none
noncomputable def anyD : List D → Option D
  | [.list ds] => (yI ds).map fun bs => .bool (bs.any id)
  | _ => none
noncomputable def cutD (ds : List D) (lo hi : Option Int) : List D := (ds.drop (HT.sIx ds.length 0 lo)).take (HT.sIx ds.length ds.length hi - HT.sIx ds.length 0 lo)
abbrev GO := Env' → Option (Option Int)
noncomputable def zy : GO := fun _ => some none
noncomputable def zl (g : Env' → Option D) : GO := fun ρ => (g ρ).bind fun
  | .int i => some (some i)
  | _ => none
noncomputable def slD (d : D) (lo hi : Option Int) : Option D := match d with
  | .tuple ds => some (.tuple (cutD ds lo hi))
  | .list ds => some (.list (cutD ds lo hi))
  | _ => none
noncomputable def gSl (ga : Env' → Option D) (gl gh : GO) : Env' → Option D := fun ρ => (ga ρ).bind fun d => (gl ρ).bind fun lo => (gh ρ).bind fun hi => slD d lo hi
noncomputable def yx : D → D → Option D
  | .int i, .int j => mulI i j
  | .list ds, .int k => (repD ds k).map PyData.list
  | .tuple ds, .int k => if 0 < k then (repD ds k).map PyData.tuple else none
  | _, _ => none
noncomputable def tabK : D → Option (List (D × D))
  | .dict ((.none, _) :: _) => none
  | .dict r => some r
  | _ => none
noncomputable def tabT : D → Option (List (D × D))
  | .dict ((.none, .none) :: r) => some r
  | .dict ((.none, .int _) :: r) => some r
  | _ => none
noncomputable def dinK (x c : D) : Option D := (tabK c).bind fun kds => (keyQ x).bind fun _ => some (.bool (yi kds x).isSome)
noncomputable def zgx (c x : D) : Option D := (tabT c).bind fun kds => (zhy x).bind fun _ => yi kds x
noncomputable def ownD (i : Nat) (ρ : Env') : Option D := match ρ[i]? with
  | some (some (.own d)) => some d
  | _ => none
noncomputable def zbH (i : Nat) (gk ge : Env' → Option D) : GS := fun ρ => (ge ρ).bind fun d => (gk ρ).bind fun key => (ownD i ρ).bind fun dd => (tabK dd).bind fun kds => (keyQ key).bind fun _ =>
  if kds.length < sizeLine then some (.nxt (ρ.set i (some (.own (.dict (putD kds key d)))))) else none
noncomputable def zbj (i : Nat) (gk ge : Env' → Option D) : GS := fun ρ => (ge ρ).bind fun d => (gk ρ).bind fun key => (ownD i ρ).bind fun dd => (tabT dd).bind fun kds => (zhy key).bind fun _ =>
  if kds.length < sizeLine then some (.nxt (ρ.set i (some (.own (.dict ((.none, .none) :: putD kds key d)))))) else none
noncomputable def zhu (i : Nat) : GS := fun ρ => some (.nxt (ρ.set i (some (.own (.dict [(.none, .none)])))))
noncomputable def zex (i : Nat) (gk ge : Env' → Option D) : GS := fun ρ => (gk ρ).bind fun key => (ge ρ).bind fun d => (keyQ key).bind fun _ => some (.nxt (ρ.set i (some (.own (.dict [(key, d)])))))
noncomputable def scrD (ds : List D) : D := .dict ((.none, .bool true) :: ds.map fun d => (.none, d))
noncomputable def scrQ : D → Option (List D)
  | .dict ((.none, .bool true) :: r) => some (r.map (·.2))
  | _ => none
noncomputable def ixS (c i : D) : Option D := (scrQ c).bind fun ds => match i with
  | .int j => atI ds j
  | _ => none
noncomputable def lenS : List D → Option D
  | [c] => (scrQ c).map fun ds => .int ds.length
  | _ => none
noncomputable def lenK : List D → Option D
  | [c] => (tabK c).map fun kds => .int kds.length
  | _ => none
noncomputable def insL (x : List Int) : List (List Int) → List (List Int)
  | [] => [x]
  | y :: r => if HT.lexLt y x = true then y :: insL x r else x :: y :: r
noncomputable def yz : List (List Int) → List (List Int)
  | [] => []
  | x :: r => insL x (yz r)
noncomputable def wG : D → Option (List Int)
  | .tuple ds => (zfq ds).bind fun is => if is = [] then none else some is
  | _ => none
noncomputable def zfX (ds : List D) : Option (List D) := (ds.mapM wG).bind fun ks => if ks.length < 64 then some ((yz ks).map fun k => .tuple (k.map PyData.int)) else none
noncomputable def zar : List D → Option (List D)
  | [.list ds] => zfX ds
  | [.tuple ds] => zfX ds
  | _ => none
noncomputable def frzT (i : Nat) (ρ : Env') : Env' := match ρ[i]? with
  | some (some (.own (.dict ((.none, .none) :: r)))) => ρ.set i (some (.val (.dict ((.none, .int 0) :: r))))
  | _ => ρ
noncomputable def zhc : D → Option (List D)
  | .dict ((.none, .int _) :: r) => some (r.map (·.1))
  | _ => none
noncomputable def zip2 : List D → List D → List D
  | x :: xs, y :: ys => .tuple [x, y] :: zip2 xs ys
  | _, _ => []
noncomputable def zipD : List D → Option (List D)
  | [.list ds, .list es] => some (zip2 ds es)
  | _ => none
noncomputable def zjW (i : Nat) (ge : Env' → Option (List D)) : GS := fun ρ => (ge ρ).map fun ds => Out.nxt (ρ.set i (some (.val (.list ds))))
noncomputable def gK (d : D) : Env' → Option D := fun _ => some d
noncomputable def gLs (g : Env' → Option (List D)) : Env' → Option D := fun ρ => (g ρ).map PyData.list
noncomputable def zV : Env' → Option Bool := fun _ => some true
noncomputable def sRet (g : Env' → Option D) : GS := fun ρ => (g ρ).map Out.ret
noncomputable def zj0 (i : Nat) (g : GS) : GS := fun ρ => g (frzT i ρ)
noncomputable def sNo : GS := fun _ => none
end L2.Y
namespace L2.Y
open PySem
noncomputable def intOfD : List D → Option D
  | [.bool b] => some (.int (if b then 1 else 0))
  | [.int i] => some (.int i)
  | _ => none
end L2.Y
namespace L2.Y
open PySem
abbrev GX := Env' → Option (Str × Env')
noncomputable def xNo : GX := fun _ => none
noncomputable def wu (c : Str) : GX := fun ρ => some (c, ρ)
noncomputable def xSeq (g : GS) (x y : GX) : GX := fun ρ => match x ρ with
  | some c => some c
  | none => match g ρ with
    | some (.nxt ρ') => y ρ'
    | _ => none
noncomputable def xIf (c : Env' → Option Bool) (x y : GX) : GX := fun ρ => (c ρ).bind fun b => if b then x ρ else y ρ
noncomputable def zgY (n : Nat) (f : List D → Option Str) (g : Env' → Option (List D)) : GX := fun ρ => (g ρ).bind fun ds => if ds.length = n then (f ds).map fun c => (c, ρ) else none
noncomputable def runX (n : Nat) (x : GX) (ds : List D) : Option Str := (x (jm n ds)).map (·.1)
noncomputable def adrD (a : Nat) : D := .dict [(.none, .str "e"), (.none, .int a)]
noncomputable def gExc (i a : Nat) (b : Bool) : Env' → Option D := fun ρ => match gVar i ρ with
  | some (.dict [(.none, .str _), (.none, .int z)]) => if z = a then some (.bool b) else none
  | _ => none
noncomputable def sTry (gb : GS) (xb : GX) (names : List Str) (i : Nat) (gh : Nat → Str → GS) : GS := fun ρ => match gb ρ with
  | some o => some o
  | none => (xb ρ).bind fun c => if names.contains c.1 then (gh 0 c.1 (c.2.set i (some (.val (adrD 0))))).bind fun | .ret d => some (.ret d) | _ => none else none
end L2.Y
namespace L2.Y
open PySem
noncomputable def strQ : D → Option Str
  | .str y => some y
  | _ => none
noncomputable def vH (a b : D) : Option D := match a, b with
  | .str x, .list ds => (ds.mapM strQ).bind fun ys => if (ys.map (·.length)).sum + ys.length * x.length ≤ 16777216 then some (.str (Str.join x ys)) else none
  | _, _ => none
end L2.Y
namespace L2.Y
open PySem PySem.Builtin.Str
noncomputable def xE (f : Env' → Option Str) : GX := fun ρ => (f ρ).map fun c => (c, ρ)
noncomputable def yh (n : Nat) (f : List D → Option Str) (g : Env' → Option (List D)) : Env' → Option Str := fun ρ => (g ρ).bind fun ds => if ds.length = n then f ds else none
noncomputable def xj (h : GT) (gt : Env' → Option Bool) (ge : Env' → Option D) (fx : Env' → Option Str) (ρ : Env') : List D → Option Str
  | [] => none
  | d :: ds => (h d ρ).bind fun ρ1 => (gt ρ1).bind fun b => if b then (match fx ρ1 with | some c => some c | none => (ge ρ1).bind fun _ => xj h gt ge fx ρ ds) else xj h gt ge fx ρ ds
noncomputable def yR (n : Nat) (caps : List Nat) (gi : Env' → Option (List D)) (h : GT) (gt : Env' → Option Bool) (ge : Env' → Option D) (fx : Env' → Option Str) : Env' → Option Str := fun ρ => (gi ρ).bind fun ds => if ds.length ≤ sizeLine then xj h gt ge fx (capS n caps ρ) ds else none
noncomputable def jz (lo c : Int) (n : Nat) : List D := (List.range n).map fun (i : Nat) => .int (lo + i * c)
noncomputable def wj : List D → Option (List D)
  | [.int a, .int b, .int c] => if 0 < c ∧ c < 1073741824 ∧ -1073741824 < a ∧ a < 1073741824 ∧ -1073741824 < b ∧ b < 1073741824 then some (jz a c (if a < b then (b - a - 1) / c + 1 else 0).toNat) else none
  | _ => none
noncomputable def isND : D → D → Option D
  | .none, .none => some (.bool true)
  | .dict _, .none => none
  | _, .none => some (.bool false)
  | _, _ => none
noncomputable def zcq (x y : Str) : Bool := decide (x.length ≤ 16777216) && !(y.length == 0) && decide ((partsBetween x (occurrences x y 0 x.length (x.length + 1)) y.length).length ≤ 16777216) && decide ((Txt.split x y).length ≤ 16777216)
noncomputable def splF (y : Str) (g : Env' → Option D) : Env' → Option (List D) := fun ρ => (g ρ).bind fun
  | .str x => if zcq x y = true then some ((Txt.split x y).map PyData.str) else none
  | _ => none
noncomputable def hasS (y x : Str) : Bool := !(occurrences x y 0 x.length 1).isEmpty
noncomputable def zbQ : D → D → Option D
  | .str y, .str x => some (.bool (!hasS y x))
  | _, _ => none
noncomputable def zd2 : D → D → Option D
  | .str x, .str y => (occurrences x y 0 x.length 1).head?.map fun (n : Nat) => (.int (n : Int) : D)
  | _, _ => none
noncomputable def slS : D → Option Int → Option Int → Option D
  | .str x, lo, hi => if x.length ≤ 16777216 then some (.str (Txt.slice x lo hi)) else none
  | _, _, _ => none
noncomputable def gSlS (ga : Env' → Option D) (gl gh : GO) : Env' → Option D := fun ρ => (ga ρ).bind fun d => (gl ρ).bind fun lo => (gh ρ).bind fun hi => slS d lo hi
end L2.Y
namespace L2.Y
open PySem
theorem wa {h : GT} {gb : GS} (P : Nat → Env' → Prop) : ∀ (ds : List D) (i : Nat) (ρ : Env'), P i ρ → (∀ k d ρ, ds[k]? = some d → P (i + k) ρ → ∃ ρ1 ρ2, h d ρ = some ρ1 ∧ gb ρ1 = some (.nxt ρ2) ∧ P (i + k + 1) ρ2) → ∃ ρ', forF h gb ds ρ = some (.nxt ρ') ∧ P (i + ds.length) ρ'
  | [], i, ρ, h0, _ => ⟨ρ, rfl, h0⟩
  | d :: ds, i, ρ, h0, step => by
    obtain ⟨ρ1, ρ2, e1, e2, h2⟩ := step 0 d ρ rfl h0
    obtain ⟨ρ', e3, h3⟩ := wa P ds (i + 1) ρ2 h2 (fun k d' ρ' hk hp => by
      have := step (k + 1) d' ρ' (by simpa using hk) (by rw [show i + (k + 1) = i + 1 + k by omega]; exact hp)
      rw [show i + (k + 1) + 1 = i + 1 + k + 1 by omega] at this
      exact this)
    refine ⟨ρ', ?_, by rw [List.length_cons, show i + (ds.length + 1) = i + 1 + ds.length by omega]; exact h3⟩
    show (h d ρ).bind _ = _
    rw [e1, Option.bind_some, e2, Option.bind_some]
    exact e3
theorem yU {h : GT} {gt : Env' → Option Bool} {ge : Env' → Option D} {ρ : Env'} (p : D → Bool) (f : D → D) : ∀ (ds : List D), (∀ d ∈ ds, ∃ ρ1, h d ρ = some ρ1 ∧ gt ρ1 = some (p d) ∧ (p d = true → ge ρ1 = some (f d))) → qr h gt ge ρ ds = some ((ds.filter p).map f)
  | [], _ => rfl
  | d :: ds, hh => by
    obtain ⟨ρ1, e1, e2, e3⟩ := hh d List.mem_cons_self
    have ih := yU p f ds fun d' hd => hh d' (List.mem_cons_of_mem _ hd)
    show (h d ρ).bind _ = _
    rw [e1, Option.bind_some, e2, Option.bind_some]
    cases q : p d with
    | true => simp only [if_true]; rw [e3 q, Option.bind_some, ih, List.filter_cons_of_pos q]; rfl
    | false => simp only [Bool.false_eq_true, if_false]; rw [ih, List.filter_cons_of_neg (by simp [q])]
theorem yb {h : GT} {ge : Env' → Option D} {ρ : Env'} (f : D → D) (ds : List D) (hh : ∀ d ∈ ds, ∃ ρ1, h d ρ = some ρ1 ∧ ge ρ1 = some (f d)) : qr h (fun _ => some true) ge ρ ds = some (ds.map f) := by
  rw [yU (fun _ => true) f ds fun d hd => let ⟨ρ1, e1, e2⟩ := hh d hd; ⟨ρ1, e1, rfl, fun _ => e2⟩]
  rw [List.filter_eq_self.mpr (fun _ _ => rfl)]
theorem xV {lo : Int} {n : Nat} {d : D} (h : d ∈ zF lo n) : ∃ k : Nat, k < n ∧ d = .int (lo + k) := by
  unfold zF at h
  obtain ⟨k, hk, rfl⟩ := List.mem_map.mp h
  exact ⟨k, List.mem_range.mp hk, rfl⟩
theorem xU {lo : Int} {n k : Nat} {d : D} (h : (zF lo n)[k]? = some d) : k < n ∧ d = .int (lo + k) := by
  unfold zF at h
  rw [List.getElem?_map] at h
  obtain ⟨j, hj, rfl⟩ := Option.map_eq_some_iff.mp h
  have := List.getElem?_eq_some_iff.mp hj
  obtain ⟨h1, h2⟩ := this
  simp at h1 h2
  subst h2
  exact ⟨h1, rfl⟩
theorem qF (lo : Int) (n : Nat) : (zF lo n).length = n := by simp [zF]
theorem zfm (ds : List D) : scrQ (scrD ds) = some ds := by
  show some ((ds.map fun d => ((.none : D), d)).map (·.2)) = some ds
  rw [List.map_map]
  exact congrArg some (List.map_id ds)
theorem xa (i : Int) : SeqAt.shaped (.int i) = true := by simp [SeqAt.shaped, PyData.canLay0, PyData.depth]
theorem zaD (i j : Int) : eqD (.int i) (.int j) = some (.bool (decide (i = j))) := by
  simp only [eqD, xa, PyData.eqv]
  by_cases q : i = j <;> simp [q]
theorem xL (i j : Int) : neD (.int i) (.int j) = some (.bool (!decide (i = j))) := by
  simp only [neD, xa, PyData.eqv]
  by_cases q : i = j <;> simp [q]
theorem zI (i j : Int) : addD (.int i) (.int j) = some (.int (i + j)) := rfl
theorem zdo (i j : Int) : subD (.int i) (.int j) = some (.int (i - j)) := rfl
theorem zP {i j : Int} (h : 0 < j) : modD (.int i) (.int j) = some (.int (i % j)) := if_pos h
theorem xh {i j : Int} (h : 0 < j) (h2 : j < 1073741824) : vo (.int i) (.int j) = some (.int (i / j)) := if_pos ⟨h, h2⟩
theorem xD {i j : Int} (h1 : -(2 ^ 64) < i) (h2 : i < 2 ^ 64) : yx (.int i) (.int j) = some (.int (i * j)) := if_pos (.inl ⟨h1, h2⟩)
theorem kG {i j : Int} (h1 : -(2 ^ 64) < j) (h2 : j < 2 ^ 64) : yx (.int i) (.int j) = some (.int (i * j)) := if_pos (.inr ⟨h1, h2⟩)
theorem wz (i j : Int) : ltD (.int i) (.int j) = some (.bool (decide (i < j))) := rfl
theorem zej (i j : Int) : leD (.int i) (.int j) = some (.bool (decide (i ≤ j))) := rfl
theorem xK (f : List D → Option D) (a : D) : zA 1 f [a] = f [a] := rfl
theorem qa (f : List D → Option D) (a b : D) : zA 2 f [a, b] = f [a, b] := rfl
theorem wZ (f : List D → Option D) (a b c : D) : zA 3 f [a, b, c] = f [a, b, c] := rfl
theorem zj3 (a b : D) : tupD [a, b] = some (.tuple [a, b]) := rfl
theorem zhh (ds : List D) : lenS [scrD ds] = some (.int ds.length) := by
  simp only [lenS, zfm, Option.map_some]
theorem zkt (ds : List D) (j : Int) : ixS (scrD ds) (.int j) = atI ds j := by
  simp only [ixS, zfm, Option.bind_some]
theorem yv {α : Type} {xs : List α} {j : Int} {x : α} (h0 : 0 ≤ j) (h : xs[j.toNat]? = some x) : atI xs j = some x := by
  have hlt : j.toNat < xs.length := (List.getElem?_eq_some_iff.mp h).1
  unfold atI ixN
  rw [if_pos h0, if_pos (by omega), Option.bind_some, h]
section
variable {ρ : Env'}
theorem zm {ga : Env' → Option D} {gr : Env' → Option (List D)} {x : D} {xs : List D} (h1 : ga ρ = some x) (h2 : gr ρ = some xs) : zb ga gr ρ = some (x :: xs) := by
  unfold zb
  rw [h1, Option.bind_some, h2, Option.bind_some]
theorem zB : gNil ρ = some [] := rfl
theorem zW {d : D} : gK d ρ = some d := rfl
theorem qw {h : List D → Option D} {g : Env' → Option (List D)} {xs : List D} {d : D} (h1 : g ρ = some xs) (h2 : h xs = some d) : gA h g ρ = some d := by
  unfold gA
  rw [h1, Option.bind_some, h2]
theorem zcs {h : List D → Option (List D)} {g : Env' → Option (List D)} {xs ds : List D} (h1 : g ρ = some xs) (h2 : h xs = some ds) : gItA h g ρ = some ds := by
  unfold gItA
  rw [h1, Option.bind_some, h2]
theorem zeh {f : D → Option (List D)} {g : Env' → Option D} {x : D} {ds : List D} (h1 : g ρ = some x) (h2 : f x = some ds) : gIt f g ρ = some ds := by
  unfold gIt
  rw [h1, Option.bind_some, h2]
theorem zD {h : D → D → Option D} {ga gb : Env' → Option D} {x y d : D} (h1 : ga ρ = some x) (h2 : gb ρ = some y) (h3 : h x y = some d) : g2 h ga gb ρ = some d := by
  unfold g2
  rw [h1, Option.bind_some, h2, Option.bind_some, h3]
theorem wY {g : Env' → Option (List D)} {ds : List D} (h1 : g ρ = some ds) : gLs g ρ = some (.list ds) := by
  unfold gLs
  rw [h1, Option.map_some]
theorem xH {g : Env' → Option D} {b : Bool} (h1 : g ρ = some (.bool b)) : gBo g ρ = some b := by
  unfold gBo
  rw [h1]
  rfl
theorem zjb {g : Env' → Option D} {b : Bool} (h1 : g ρ = some (.bool b)) : gTr g ρ = some b := by
  unfold gTr
  rw [h1]
  rfl
theorem zf1 {g : Env' → Option Bool} {b : Bool} (h1 : g ρ = some b) : jr g ρ = some (!b) := by
  unfold jr
  rw [h1]
  rfl
theorem zib {g h : Env' → Option Bool} {a b : Bool} (h1 : g ρ = some a) (h2 : a = false → h ρ = some b) : gOrT g h ρ = some (a || b) := by
  unfold gOrT
  rw [h1]
  cases a with
  | true => rfl
  | false => exact h2 rfl
theorem zc0 {g h : Env' → Option D} {a b : Bool} (h1 : g ρ = some (.bool a)) (h2 : a = true → h ρ = some (.bool b)) : qP g h ρ = some (.bool (a && b)) := by
  unfold qP
  rw [xH h1]
  cases a with
  | true => exact h2 rfl
  | false => rfl
theorem zeD {g h : Env' → Option D} {a b : Bool} (h1 : g ρ = some (.bool a)) (h2 : a = false → h ρ = some (.bool b)) : gOrV g h ρ = some (.bool (a || b)) := by
  unfold gOrV
  rw [xH h1]
  cases a with
  | true => rfl
  | false => exact h2 rfl
theorem zaj {n : Nat} {caps : List Nat} {gi : Env' → Option (List D)} {h : GT} {gt : Env' → Option Bool} {ge : Env' → Option D} {ds r : List D} (h1 : gi ρ = some ds) (h2 : ds.length ≤ 16777216) (h3 : qr h gt ge (capS n caps ρ) ds = some r) : qh n caps gi h gt ge ρ = some r := by
  unfold qh
  rw [h1, Option.bind_some, if_pos (show ds.length ≤ sizeLine from h2), h3]
theorem wR {ga : Env' → Option D} {gl gh : GO} {d r : D} {lo hi : Option Int} (h1 : ga ρ = some d) (h2 : gl ρ = some lo) (h3 : gh ρ = some hi) (h4 : slD d lo hi = some r) : gSl ga gl gh ρ = some r := by
  unfold gSl
  rw [h1, Option.bind_some, h2, Option.bind_some, h3, Option.bind_some, h4]
theorem zT {g : Env' → Option D} {i : Int} (h1 : g ρ = some (.int i)) : zl g ρ = some (some i) := by
  unfold zl
  rw [h1]
  rfl
theorem zce {g : Env' → Option (List D)} {ds : List D} (h1 : g ρ = some ds) (h2 : ds.length ≤ 16777216) : gLst g ρ = some ds := by
  unfold gLst
  rw [h1, Option.bind_some]
  exact if_pos h2
theorem qg {g : Env' → Option D} {d : D} (h : g ρ = some d) : sRet g ρ = some (.ret d) := by
  unfold sRet
  rw [h]
  rfl
theorem zhd {c : Env' → Option Bool} {g h : GS} {b : Bool} (h1 : c ρ = some b) : sIf c g h ρ = if b then g ρ else h ρ := by
  unfold sIf
  rw [h1, Option.bind_some]
theorem jl {h : GT} {g : Env' → Option D} {d : D} {ρ' : Env'} (h1 : g ρ = some d) (h2 : h d ρ = some ρ') : sAsg h g ρ = some (.nxt ρ') := by
  unfold sAsg
  rw [h1, Option.bind_some, h2]
  rfl
end
end L2.Y
namespace L2.Y
open PySem PyProof.Rows
theorem zbL (x y : Int) (xs ys : List Int) : HT.lexLt (x :: xs) (y :: ys) = if x = y then HT.lexLt xs ys else decide (x < y) := rfl
theorem zhD : HT.lexLt [] [] = false := rfl
theorem ziS (y : Int) (ys : List Int) : HT.lexLt [] (y :: ys) = true := rfl
theorem zhP (x : Int) (xs : List Int) : HT.lexLt (x :: xs) [] = false := rfl
theorem zad : ∀ a : List Int, HT.lexLt a a = false
  | [] => rfl
  | x :: xs => by rw [zbL, if_pos rfl, zad xs]
theorem zbr : ∀ a b c : List Int, HT.lexLt a b = true → HT.lexLt b c = true → HT.lexLt a c = true
  | _, [], [], _, h => by rw [zhD] at h; cases h
  | [], [], _, h, _ => by rw [zhD] at h; cases h
  | x :: xs, [], _, h, _ => by rw [zhP] at h; cases h
  | _, y :: ys, [], _, h => by rw [zhP] at h; cases h
  | [], y :: ys, z :: zs, _, _ => rfl
  | x :: xs, y :: ys, z :: zs, h1, h2 => by
    rw [zbL] at h1 h2 ⊢
    by_cases e1 : x = y
    · subst e1
      rw [if_pos rfl] at h1
      by_cases e2 : x = z
      · rw [if_pos e2] at h2 ⊢; exact zbr xs ys zs h1 h2
      · rw [if_neg e2] at h2 ⊢; exact h2
    · rw [if_neg e1, decide_eq_true_eq] at h1
      by_cases e2 : y = z
      · subst e2; rw [if_neg e1, decide_eq_true_eq]; exact h1
      · rw [if_neg e2, decide_eq_true_eq] at h2
        rw [if_neg (by omega), decide_eq_true_eq]; omega
theorem zfT : ∀ a b c : List Int, HT.lexLt a c = true → HT.lexLt a b = true ∨ HT.lexLt b c = true
  | [], _, [], h => by rw [zhD] at h; cases h
  | x :: xs, _, [], h => by rw [zhP] at h; cases h
  | _, [], z :: zs, _ => .inr rfl
  | [], y :: ys, z :: zs, _ => .inl rfl
  | x :: xs, y :: ys, z :: zs, h => by
    rw [zbL] at h
    rw [zbL, zbL]
    by_cases e1 : x = y
    · subst e1
      rw [if_pos rfl]
      by_cases e2 : x = z
      · rw [if_pos e2] at h ⊢; exact zfT xs ys zs h
      · rw [if_neg e2] at h ⊢; exact .inr h
    · rw [if_neg e1]
      by_cases e2 : x = z
      · subst e2
        rw [if_neg (fun z => e1 z.symm)]
        rcases Int.lt_or_gt_of_ne e1 with q | q
        · exact .inl (decide_eq_true q)
        · exact .inr (decide_eq_true q)
      · rw [if_neg e2, decide_eq_true_eq] at h
        by_cases q : x < y
        · exact .inl (decide_eq_true q)
        · refine .inr ?_
          rw [if_neg (by omega), decide_eq_true_eq]; omega
theorem vC : ∀ a b : List Int, HT.lexLt a b = false → HT.lexLt b a = false → a = b
  | [], [], _, _ => rfl
  | [], y :: ys, h, _ => by rw [ziS] at h; cases h
  | x :: xs, [], _, h => by rw [ziS] at h; cases h
  | x :: xs, y :: ys, h1, h2 => by
    rw [zbL] at h1 h2
    by_cases e : x = y
    · subst e
      rw [if_pos rfl] at h1 h2
      rw [vC xs ys h1 h2]
    · rw [if_neg e, decide_eq_false_iff_not] at h1
      rw [if_neg (fun z => e z.symm), decide_eq_false_iff_not] at h2
      omega
noncomputable def zbO : KeyOrd := ⟨List Int, HT.lexLt, zad, zbr, zfT, vC⟩
noncomputable def LeL (a b : List Int) : Prop := HT.lexLt b a = false
theorem vT (x : List Int) : ∀ l, (insL x l).Perm (x :: l)
  | [] => .refl _
  | y :: r => by
    unfold insL
    split
    · exact ((vT x r).cons y).trans (.swap x y r)
    · exact .refl _
theorem wb : ∀ l, (yz l).Perm l
  | [] => .refl _
  | x :: r => (vT x (yz r)).trans ((wb r).cons x)
theorem vA (x : List Int) : ∀ l, l.Pairwise LeL → (insL x l).Pairwise LeL
  | [], _ => List.pairwise_singleton _ _
  | y :: r, h => by
    rw [List.pairwise_cons] at h
    unfold insL
    split
    · rename_i hy
      rw [List.pairwise_cons]
      refine ⟨fun z hz => ?_, vA x r h.2⟩
      rcases List.mem_cons.mp ((vT x r).mem_iff.mp hz) with e | e
      · subst e; exact KeyOrd.klt_asymm (O := zbO) hy
      · exact h.1 z e
    · rename_i hy
      have hxy : LeL x y := by unfold LeL; simpa using hy
      rw [List.pairwise_cons, List.pairwise_cons]
      refine ⟨fun z hz => ?_, h.1, h.2⟩
      rcases List.mem_cons.mp hz with e | e
      · subst e; exact hxy
      · exact KeyOrd.kle_trans (O := zbO) (a := x) (b := y) (c := z) hxy (h.1 z e)
theorem xQ : ∀ l, (yz l).Pairwise LeL
  | [] => .nil
  | x :: r => vA x _ (xQ r)
theorem kP : ∀ {a b : List (List Int)}, a.Pairwise LeL → b.Pairwise LeL → a.Perm b → a = b
  | [], b, _, _, p => (List.nil_perm.mp p).symm
  | x :: a, [], _, _, p => absurd p.length_eq (by simp)
  | x :: a, y :: b, ha, hb, p => by
    rw [List.pairwise_cons] at ha hb
    have e : x = y := by
      have hx : x ∈ y :: b := p.mem_iff.mp List.mem_cons_self
      have hy : y ∈ x :: a := p.mem_iff.mpr List.mem_cons_self
      rcases List.mem_cons.mp hx with z | z
      · exact z
      rcases List.mem_cons.mp hy with w | w
      · exact w.symm
      exact vC x y (hb.1 x z) (ha.1 y w)
    subst e
    rw [kP ha.2 hb.2 ((List.perm_cons x).mp p)]
theorem zgv {a b : List (List Int)} (p : a.Perm b) (h : a.Pairwise LeL) : a = yz b := kP h (xQ b) (p.trans (wb b).symm)
end L2.Y
namespace L2.Y
open PySem
section
variable {prog : Program} {w : World} {A : Around} {E : Value → Shared → Prop} {s : Shared} {it t : Addr} {i : Nat} {xs : Array Value} {Q : Value → Shared → Prop}
end
end L2.Y
namespace L2.Y
open PySem
section
variable {prog : Program} {w : World} {A : Around} {E : Value → Shared → Prop} {s : Shared} {z TI TO i1 i2 l1 l2 : Addr} {k1 k2 : Nat} {xs ys : Array Value} {u v : Value}
structure ZT (s : Shared) (z TI TO i1 i2 l1 l2 : Addr) (k1 k2 : Nat) (xs ys : Array Value) (u v : Value) : Prop where
  z : IsZip s.heap z TI TO .none
  ti : IsPair s.heap TI (.ref i1) (.ref i2)
  to : IsPair s.heap TO u v
  w1 : s.heap.IsTupleIter i1 l1 k1
  w2 : s.heap.IsTupleIter i2 l2 k2
  t1 : s.heap.IsTuple l1 xs
  t2 : s.heap.IsTuple l2 ys
end
section
variable {prog : Program} {w : World} {A : Around} {E : Value → Shared → Prop} {s : Shared} {l1 l2 : Addr} {xs ys : Array Value} {Q : Value → Shared → Prop}
end
end L2.Y
namespace L2.Y
open PySem
open AutoSeq1 (wpAny_loadPart')
section
variable {prog : Program} {w : World} {A : Around} {E : Value → Shared → Prop} {s : Shared} {l : Addr} {xs : Array Value} {Q : Value → Shared → Prop}
end
end L2.Y
namespace L2
open PySem PySem.Spec PyProof.Rows
noncomputable def zdt : Key → Value → Bool
  | .inl k, v => Value.isInt k v
  | .inr x, v => Value.isStrOf x v
noncomputable def keyH (w : World) : Key → Int
  | .inl k => hashInt k
  | .inr x => hashStr w x
theorem ju : ∀ {k : Key} {v : Value}, zdt k v = true → (∃ i t, k = Sum.inl i ∧ v = Value.int i t) ∨ (∃ x t, k = Sum.inr x ∧ v = Value.str x t)
  | .inl i, v, h => by
    obtain ⟨t, e⟩ := Value.isInt_shape (k := i) (v := v) h
    exact .inl ⟨i, t, rfl, e⟩
  | .inr x, v, h => by
    obtain ⟨t, e⟩ := Value.isStrOf_shape (x := x) (v := v) h
    exact .inr ⟨x, t, rfl, e⟩
theorem ze0 (i : Int) (t : Tok) : zdt (.inl i) (.int i t) = true := by simp [zdt, Value.isInt]
theorem zfs (x : Str) (t : Tok) : zdt (.inr x) (.str x t) = true := by simp [zdt, Value.isStrOf]
theorem zjO (a b : Int) : decide ((Sum.inl a : Key) = Sum.inl b) = (a == b) := by
  by_cases e : a = b
  · subst e; simp
  · have h : ¬ (Sum.inl a : Key) = Sum.inl b := fun q => e (Sum.inl.inj q)
    rw [decide_eq_false h]
    exact (beq_eq_false_iff_ne.mpr e).symm
theorem zi6 (a b : Str) : decide ((Sum.inr a : Key) = Sum.inr b) = decide (a = b) := by
  by_cases e : a = b
  · subst e; simp
  · have h : ¬ (Sum.inr a : Key) = Sum.inr b := fun q => e (Sum.inr.inj q)
    rw [decide_eq_false h, decide_eq_false e]
theorem zji (a : Int) (b : Str) : decide ((Sum.inl a : Key) = Sum.inr b) = false := decide_eq_false (fun q => nomatch q)
theorem zjX (a : Str) (b : Int) : decide ((Sum.inr a : Key) = Sum.inl b) = false := decide_eq_false (fun q => nomatch q)
noncomputable def jD (prog : Program) (w : World) : PySem.KeyKind prog w Key where
  is := zdt
  hash := keyH w
  inj := fun v a b ha hb => by
    rcases ju ha with ⟨i, t, rfl, rfl⟩ | ⟨x, t, rfl, rfl⟩
    · rcases ju hb with ⟨j, u, rfl, e⟩ | ⟨y, u, rfl, e⟩
      · injection e with e1 _; rw [e1]
      · exact nomatch e
    · rcases ju hb with ⟨j, u, rfl, e⟩ | ⟨y, u, rfl, e⟩
      · exact nomatch e
      · injection e with e1 _; rw [e1]
  byValue := fun k v h => by
    rcases ju h with ⟨i, t, rfl, rfl⟩ | ⟨x, t, rfl, rfl⟩ <;> rfl
  pyHash := fun hv h => by
    rcases ju hv with ⟨i, t, rfl, rfl⟩ | ⟨x, t, rfl, rfl⟩
    · exact wpAny_pyHash_int h
    · exact wpAny_pyHash_str h
  eqBool := fun hu hv h => by
    rcases ju hu with ⟨i, t, rfl, rfl⟩ | ⟨x, t, rfl, rfl⟩
    · rcases ju hv with ⟨j, u, rfl, rfl⟩ | ⟨y, u, rfl, rfl⟩
      · rw [zjO] at h; exact wpAny_eqBool_int h
      · rw [zji] at h; exact SeqAt.EqAt.int_str i t y u _ _ _ _ h
    · rcases ju hv with ⟨j, u, rfl, rfl⟩ | ⟨y, u, rfl, rfl⟩
      · rw [zjX] at h; exact SeqAt.EqAt.str_int x t j u _ _ _ _ h
      · rw [zi6] at h; exact wpAny_eqBool_str h
  «strs» := fun k x t v h => by
    rcases ju h with ⟨i, u, rfl, e⟩ | ⟨y, u, rfl, e⟩
    · exact nomatch e
    · injection e with e1 _
      subst e1
      cases v <;> rfl
theorem zb7 (prog : Program) (w : World) (i : Int) (t : Tok) : (jD prog w).is (.inl i) (.int i t) = true := ze0 i t
theorem zb9 (prog : Program) (w : World) (x : Str) (t : Tok) : (jD prog w).is (.inr x) (.str x t) = true := zfs x t
end L2
namespace L2
open PySem PySem.Spec PyProof.Rows
inductive V where
  | non | bl (b : Bool) | int (i : Int) | str (x : Str) | byt (b : Array UInt8) | flt (b : UInt64) | ref (a : Addr) | ty (n : String)
  deriving DecidableEq
noncomputable def RelV : V → Value → Prop
  | .non, u => u = Value.none
  | .bl b, u => u = Value.bool b
  | .int i, u => ∃ t, u = Value.int i t
  | .str x, u => ∃ t, u = Value.str x t
  | .byt b, u => ∃ t, u = Value.bytes b t
  | .flt b, u => ∃ t, u = Value.float b t
  | .ref a, u => u = Value.ref a
  | .ty n, u => u = Value.type n
abbrev Vals : List V → List Value → Prop := Paired RelV
theorem Vals.length {xs : List V} {us : List Value} (r : Vals xs us) : xs.length = us.length := Paired.length r
theorem Vals.get : ∀ {xs : List V} {us : List Value} {i : Nat} {x : V}, Vals xs us → xs[i]? = some x → ∃ u, us[i]? = some u ∧ RelV x u
  | _, _, _, _, .nil, e => by simp at e
  | _, _, 0, _, .cons r _, e => by simp at e; subst e; exact ⟨_, rfl, r⟩
  | _, _, i + 1, x, .cons _ t, e => by
    obtain ⟨u, h1, h2⟩ := Vals.get (i := i) (x := x) t (by simpa using e)
    exact ⟨u, by simpa using h1, h2⟩
theorem Vals.set {x : V} {u : Value} (r : RelV x u) : ∀ {xs : List V} {us : List Value} (i : Nat), Vals xs us → Vals (xs.set i x) (us.set i u)
  | _, _, _, .nil => .nil
  | _, _, 0, .cons _ t => .cons r t
  | _, _, i + 1, .cons q t => .cons q (Vals.set r i t)
theorem Vals.append : ∀ {xs ys : List V} {us ws : List Value}, Vals xs us → Vals ys ws → Vals (xs ++ ys) (us ++ ws)
  | _, _, _, _, .nil, s => s
  | _, _, _, _, .cons r t, s => .cons r (Vals.append t s)
theorem Vals.take : ∀ {xs : List V} {us : List Value} (n : Nat), Vals xs us → Vals (xs.take n) (us.take n)
  | _, _, 0, _ => .nil
  | _, _, _ + 1, .nil => .nil
  | _, _, n + 1, .cons r t => .cons r (Vals.take n t)
theorem Vals.drop : ∀ {xs : List V} {us : List Value} (n : Nat), Vals xs us → Vals (xs.drop n) (us.drop n)
  | _, _, 0, r => r
  | _, _, _ + 1, .nil => .nil
  | _, _, n + 1, .cons _ t => Vals.drop n t
noncomputable def RelO : Option V → Option Value → Prop
  | some v, some u => RelV v u
  | none, none => True
  | _, _ => False
noncomputable def KV {κ : Type} : List (κ × V) → List (κ × Value) → Prop := Paired fun (p : κ × V) (q : κ × Value) => p.1 = q.1 ∧ RelV p.2 q.2
noncomputable def kV : Key → V
  | .inl i => .int i
  | .inr x => .str x
inductive HO where
  /-- a list -/
  | lst (xs : List V)
  /-- a tuple (never changes) -/
  | tup (xs : List V)
  /-- a dict whose keys are ints and texts; one whose keys are tuples of ints and texts (the empty one is both) -/
  | dK (kvs : List (Key × V)) | dT (kvs : List (List Key × V))
  /-- a set of ints: its members, its size -/
  | set (S : Int → Bool) (n : Nat)
  /-- an instance of the class at C, its dict at dx, its attributes -/
  | ins (C dx : Addr) (fs : List (Str × V))
  /-- the dict of the instance at x -/
  | own (x : Addr)
  /-- the dict of an exception -/
  | xd (fs : List (Str × V))
  /-- a bound method, f of x -/
  | met (f x : Addr)
  /-- a range object lo, lo + 1, .. below hi -/
  | rng (lo hi : Int)
  /-- a thing that is known to the object (the script; a dict while a loop walks it): read, never written while it is so -/
  | frz (o : Obj) (u : HO)
  /-- a code object's table -/
  | tbl (ps : Array Value)
  /-- any other thing, by what is true of its one object (a def of one's own: SetO a S n := HO.ext fun h => ..) -/
  | ext (φ : Heap → Prop)
abbrev Hp := Addr → Option HO
noncomputable def upd (H : Hp) (a : Addr) (o : HO) : Hp := fun b => if b = a then some o else H b
theorem zS {H : Hp} {a : Addr} {o : HO} : upd H a o a = some o := by unfold upd; rw [if_pos rfl]
theorem zv {H : Hp} {a b : Addr} {o : HO} (h : b ≠ a) : upd H a o b = H b := by unfold upd; rw [if_neg h]
theorem zjx {H : Hp} {a b : Addr} {o u : HO} (h : H a = some o) (h' : H b = some u) (d : o ≠ u) : a ≠ b := by
  intro e; subst e; rw [h] at h'; exact d (Option.some.inj h')
theorem zE {H : Hp} {a b : Addr} {o : HO} (h : H a = some o) (h' : H b = none) : a ≠ b := by
  intro e; subst e; rw [h] at h'; cases h'
section
variable (P : Program) (w : World)
noncomputable def jL (H : Hp) (h : Heap) (a : Addr) : HO → Prop
  | .lst xs => xs.length ≤ sizeLine ∧ ∃ (its : List Value) (n : Nat), Vals xs its ∧ h.get? a = some { cls := .type "list", data := .seq its.toArray n }
  | .tup xs => xs.length ≤ sizeLine ∧ ∃ its : List Value, Vals xs its ∧ IsTup h a its.toArray
  | .dK kvs => kvs.length ≤ sizeLine ∧ (a == sysModules) = false ∧ ∃ vs, KV kvs vs ∧ h.DictOf (jD P w) a vs
  | .dT kvs => kvs.length ≤ sizeLine ∧ (a == sysModules) = false ∧ ∃ xs : List (List Key × Addr × Value),
      Paired (fun (p : List Key × V) (q : List Key × Addr × Value) => p.1 = q.1 ∧ H q.2.1 = some (.tup (p.1.map kV)) ∧ RelV p.2 q.2.2) kvs xs ∧
      ∃ o es ep, h.get? a = some o ∧ o.ExactDict ∧ o.data = .dict es ep ∧ es.toList = xs.map (entryOfKey (tupleKind (jD P w))) ∧ (xs.map (·.1)).Nodup
  | .set S n => h.SetOf (intKind P w) a S n
  | .ins C dx fs => H dx = some (.own a) ∧ fs.length ≤ 1000 ∧ dx ≠ a ∧ h.get? a = some (PySem.W.instObj C dx) ∧
      ∃ mA, h.Ns1 dx mA ∧ (∀ f, RelO (fs.lookup f) (mA f)) ∧ PySem.Within mA (fs.map (·.1))
  | .own _ => ∃ o, h.get? a = some o
  | .xd fs => ∃ mA, h.Ns1 a mA ∧ ∀ f, RelO (fs.lookup f) (mA f)
  | .rng lo hi => ∃ t u v, h.get? a = some { cls := .type "range", data := .fields #[.int lo t, .int hi u, .int 1 v] }
  | .frz o u => h.get? a = some o ∧ jL H h a u
  | .tbl ps => h.get? a = some { cls := .none, data := .fields ps }
  | .met f x => h.get? a = some (PySem.W.methodObj (.ref f) (.ref x))
  | .ext φ => φ h ∧ (∃ o, h.get? a = some o) ∧ ∀ h1 h2 : Heap, φ h1 → (∀ o, h1.get? a = some o → h2.get? a = some o) → φ h2
noncomputable def HOk (H : Hp) (h : Heap) : Prop := ∀ a o, H a = some o → jL P w H h a o
end
section
variable {P : Program} {w : World} {H H' : Hp} {h h' : Heap} {a : Addr} {o : HO}
theorem jL.lt (x : jL P w H h a o) : a < h.objs.size := by
  cases o with
  | lst xs => obtain ⟨_, _, _, _, e⟩ := x; exact Heap.lt_size e
  | tup xs => obtain ⟨_, _, _, p⟩ := x; exact p.lt
  | dK kvs => obtain ⟨_, _, _, _, o, _, _, e, _⟩ := x; exact Heap.lt_size e
  | dT kvs => obtain ⟨_, _, _, _, o, _, _, e, _⟩ := x; exact Heap.lt_size e
  | set S n => obtain ⟨o, _, _, _, e, _⟩ := x; exact Heap.lt_size e
  | ins C dx fs => obtain ⟨_, _, _, e, _⟩ := x; exact Heap.lt_size e
  | own y => obtain ⟨_, e⟩ := x; exact Heap.lt_size e
  | xd fs => obtain ⟨_, ⟨_, _, _, e, _⟩, _⟩ := x; exact Heap.lt_size e
  | rng lo hi => obtain ⟨_, _, _, e⟩ := x; exact Heap.lt_size e
  | frz ob u => obtain ⟨e, _⟩ := x; exact Heap.lt_size e
  | tbl ps => exact Heap.lt_size (show h.get? a = some _ from x)
  | met f y => exact Heap.lt_size (show h.get? a = some _ from x)
  | ext φ => obtain ⟨_, ⟨_, e⟩, _⟩ := x; exact Heap.lt_size e
theorem Paired.mapP {α β : Type} {F G : α → β → Prop} : ∀ {l₁ : List α} {l₂ : List β}, Paired F l₁ l₂ → (∀ a b, F a b → G a b) → Paired G l₁ l₂
  | _, _, .nil, _ => .nil
  | _, _, .cons r t, f => .cons (f _ _ r) (Paired.mapP t f)
theorem jL.stay (x : jL P w H h a o) (k : ∀ b u, (b = a ∨ H b = some (.own a)) → h.get? b = some u → h'.get? b = some u)
    (ho : ∀ b, H b = some (.own a) → H' b = some (.own a)) (ht : ∀ b xs, H b = some (.tup xs) → H' b = some (.tup xs)) : jL P w H' h' a o := by
  induction o with
  | lst xs => obtain ⟨z, its, n, r, e⟩ := x; exact ⟨z, its, n, r, k _ _ (.inl rfl) e⟩
  | tup xs => obtain ⟨z, its, r, ob, e, c⟩ := x; exact ⟨z, its, r, ob, k _ _ (.inl rfl) e, c⟩
  | dK kvs => obtain ⟨z, y, vs, r, ob, es, ep, e, c⟩ := x; exact ⟨z, y, vs, r, ob, es, ep, k _ _ (.inl rfl) e, c⟩
  | dT kvs =>
    obtain ⟨z, y, xs, r, ob, es, ep, e, c⟩ := x
    exact ⟨z, y, xs, Paired.mapP r fun p q z => ⟨z.1, ht _ _ z.2.1, z.2.2⟩, ob, es, ep, k _ _ (.inl rfl) e, c⟩
  | set S n => obtain ⟨ob, es, ep, t, e, c⟩ := x; exact ⟨ob, es, ep, t, k _ _ (.inl rfl) e, c⟩
  | ins C dx fs =>
    obtain ⟨d, z, ne, e, mA, ⟨od, es, ep, e2, c⟩, r⟩ := x
    exact ⟨ho _ d, z, ne, k _ _ (.inl rfl) e, mA, ⟨od, es, ep, k _ _ (.inr d) e2, c⟩, r⟩
  | own y => obtain ⟨ob, e⟩ := x; exact ⟨ob, k _ _ (.inl rfl) e⟩
  | xd fs => obtain ⟨mA, ⟨od, es, ep, e, c⟩, r⟩ := x; exact ⟨mA, ⟨od, es, ep, k _ _ (.inl rfl) e, c⟩, r⟩
  | rng lo hi => obtain ⟨t, u, v, e⟩ := x; exact ⟨t, u, v, k _ _ (.inl rfl) e⟩
  | frz ob u ih => obtain ⟨e, q⟩ := x; exact ⟨k _ _ (.inl rfl) e, ih q⟩
  | tbl ps =>
    have e : h.get? a = some { cls := .none, data := .fields ps } := x
    show h'.get? a = some { cls := .none, data := .fields ps }
    exact k a _ (.inl rfl) e
  | met f y =>
    have e : h.get? a = some (PySem.W.methodObj (.ref f) (.ref y)) := x
    show h'.get? a = some (PySem.W.methodObj (.ref f) (.ref y))
    exact k a _ (.inl rfl) e
  | ext φ => obtain ⟨p, ⟨o, e⟩, st⟩ := x; exact ⟨st _ _ p fun o q => k _ _ (.inl rfl) q, ⟨o, k _ _ (.inl rfl) e⟩, st⟩
theorem HOk.lt (x : HOk P w H h) (e : H a = some o) : a < h.objs.size := (x a o e).lt
theorem HOk.fresh (x : HOk P w H h) (e : h.objs.size ≤ a) : H a = none := by
  cases q : H a with
  | none => rfl
  | some u => exact absurd (Nat.lt_of_lt_of_le (x.lt q) e) (Nat.lt_irrefl _)
theorem HOk.kept (x : HOk P w H h) (k : ∀ b u, h.get? b = some u → h'.get? b = some u) : HOk P w H h' := fun a o e =>
  (x a o e).stay (fun b u _ q => k b u q) (fun _ q => q) fun _ _ q => q
theorem HOk.laid (x : HOk P w H h) (k : ∀ b u, h.get? b = some u → h'.get? b = some u) (hp : h.objs.size ≤ a) (new : jL P w (upd H a o) h' a o) : HOk P w (upd H a o) h' := fun b u e => by
  have hn := x.fresh hp
  by_cases hb : b = a
  · subst hb; rw [zS] at e; cases e; exact new
  · rw [zv hb] at e
    exact (x b u e).stay (fun c v _ q => k c v q) (fun c q => by rw [zv (zE q hn)]; exact q) fun c xs q => by rw [zv (zE q hn)]; exact q
end
noncomputable def Rd (H : Hp) (a : Addr) (u : HO) : Prop := H a = some u ∨ ∃ o, H a = some (.frz o u)
theorem Rd.of {H : Hp} {a : Addr} {u : HO} (h : H a = some u) : Rd H a u := .inl h
theorem Rd.ok {P : Program} {w : World} {H : Hp} {h : Heap} {a : Addr} {u : HO} (r : Rd H a u) (x : HOk P w H h) : jL P w H h a u := by
  rcases r with r | ⟨o, r⟩
  · exact x a u r
  · obtain ⟨_, q⟩ := x a _ r
    exact q
noncomputable def Mut : Option HO → Prop
  | some (.lst _) => True
  | some (.dK _) => True
  | some (.dT _) => True
  | some (.set _ _) => True
  | some (.ins _ _ _) => True
  | some (.ext _) => True
  | _ => False
section
variable {P : Program} {w : World} {H : Hp} {h h' : Heap} {x e : Addr} {o' : HO}
theorem HOk.write (ok : HOk P w H h) (mu : Mut (H x)) (he : e = x ∨ H e = some (.own x)) (k : ∀ b u, b ≠ e → h.get? b = some u → h'.get? b = some u) (heo : ∃ u, h'.get? e = some u)
    (new : jL P w (upd H x o') h' x o') : HOk P w (upd H x o') h' := fun b u q => by
  have nown : ∀ c y, H c = some (.own y) → c ≠ x := fun c y r z => by subst z; rw [r] at mu; exact mu
  have ntup : ∀ c xs, H c = some (.tup xs) → c ≠ x := fun c xs r z => by subst z; rw [r] at mu; exact mu
  by_cases hb : b = x
  · subst hb; rw [zS] at q; cases q; exact new
  · rw [zv hb] at q
    by_cases hbe : b = e
    · have q' : H b = some (.own x) := by
        rcases he with z | z
        · exact absurd (hbe.trans z) hb
        · rw [hbe]; exact z
      rw [q] at q'; cases q'
      obtain ⟨v, hv⟩ := heo
      exact ⟨v, by rw [hbe]; exact hv⟩
    · refine (ok b u q).stay (fun c v hc r => k c v ?_ r) (fun c r => by rw [zv (nown c b r)]; exact r) fun c xs r => by rw [zv (ntup c xs r)]; exact r
      rcases hc with rfl | hc
      · exact hbe
      · rintro rfl
        rcases he with z | z
        · exact nown c b hc z
        · rw [hc] at z; cases z; exact hb rfl
end
structure Un (fs ex : List Addr) (H H' : Hp) (h h' : Heap) : Prop where
  keep : ∀ b o, h.get? b = some o → H b = none → b ∉ fs → b ∉ ex → h'.get? b = some o
  slot : ∀ b o, h.get? b = some o → H b = none → b ∈ fs → b ∉ ex → ∃ sl, h'.get? b = some { o with slots := sl }
  free : ∀ b o, h.get? b = some o → H b = none → b ∉ ex → H' b = none
  there : ∀ b o, h.get? b = some o → b ∉ ex → ∃ o', h'.get? b = some o'
  tups : ∀ b xs, H b = some (.tup xs) → H' b = some (.tup xs)
  frzs : ∀ b o u, H b = some (.frz o u) → H' b = some (.frz o u)
  tbls : ∀ b ps, H b = some (.tbl ps) → ∃ more, H' b = some (.tbl (ps ++ more))
section
variable {fs fs' ex ex' : List Addr} {H H1 H2 : Hp} {h h1 h2 h' : Heap} {a x e : Addr} {o : HO}
theorem Un.any (u : Un fs ex H H1 h h1) {b : Addr} {ob : Obj} (q : h.get? b = some ob) (n : H b = none) (hx : b ∉ ex) : ∃ sl, h1.get? b = some { ob with slots := sl } := by
  by_cases hb : b ∈ fs
  · exact u.slot b ob q n hb hx
  · exact ⟨ob.slots, u.keep b ob q n hb hx⟩
theorem Un.trans (a : Un fs ex H H1 h h1) (b : Un fs ex H1 H2 h1 h2) : Un fs ex H H2 h h2 where
  keep := fun c ob q n hc hx => b.keep c ob (a.keep c ob q n hc hx) (a.free c ob q n hx) hc hx
  slot := fun c ob q n hc hx => by
    obtain ⟨sl, e1⟩ := a.slot c ob q n hc hx
    obtain ⟨sl', e2⟩ := b.slot c _ e1 (a.free c ob q n hx) hc hx
    exact ⟨sl', e2⟩
  free := fun c ob q n hx => by
    obtain ⟨o', e1⟩ := a.there c ob q hx
    exact b.free c o' e1 (a.free c ob q n hx) hx
  there := fun c ob q hx => by
    obtain ⟨o', e1⟩ := a.there c ob q hx
    exact b.there c o' e1 hx
  tups := fun c xs q => b.tups c xs (a.tups c xs q)
  frzs := fun c ob xs q => b.frzs c ob xs (a.frzs c ob xs q)
  tbls := fun c ps q => by
    obtain ⟨m1, e1⟩ := a.tbls c ps q
    obtain ⟨m2, e2⟩ := b.tbls c _ e1
    exact ⟨m1 ++ m2, by rw [e2, Array.append_assoc]⟩
theorem Un.kept (k : ∀ b u, h.get? b = some u → h'.get? b = some u) : Un fs ex H H h h' :=
  ⟨fun b ob q _ _ _ => k b ob q, fun b ob q _ _ _ => ⟨ob.slots, k b ob q⟩, fun _ _ _ n _ => n, fun b ob q _ => ⟨ob, k b ob q⟩, fun _ _ q => q, fun _ _ _ q => q, fun _ ps q => ⟨#[], by rw [q]; simp⟩⟩
theorem Un.refl : Un fs ex H H h h := Un.kept fun _ _ q => q
theorem Un.laid (k : ∀ b u, h.get? b = some u → h'.get? b = some u) (hp : h.objs.size ≤ a) (hn : H a = none) : Un fs ex H (upd H a o) h h' where
  keep := fun b u q _ _ _ => k b u q
  slot := fun b u q _ _ _ => ⟨u.slots, k b u q⟩
  free := fun b u q n _ => by rw [zv (Nat.ne_of_lt (Nat.lt_of_lt_of_le (Heap.lt_size q) hp))]; exact n
  there := fun b u q _ => ⟨u, k b u q⟩
  tups := fun b xs q => by rw [zv (zE q hn)]; exact q
  frzs := fun b u xs q => by rw [zv (zE q hn)]; exact q
  tbls := fun b ps q => ⟨#[], by rw [zv (zE q hn), q]; simp⟩
theorem Un.write (mu : Mut (H x)) (he : e = x ∨ H e = some (.own x)) (k : ∀ b u, b ≠ e → h.get? b = some u → h'.get? b = some u) (heo : ∃ u, h'.get? e = some u) : Un fs ex H (upd H x o) h h' := by
  have hx : ∀ b, H b = none → b ≠ x := fun b n z => by subst z; rw [n] at mu; exact mu
  have hb : ∀ b, H b = none → b ≠ e := fun b n z => by
    subst z
    rcases he with r | r
    · exact hx b n r
    · rw [n] at r; cases r
  have hm : ∀ b u, H b = some u → ¬ Mut (some u) → b ≠ x := fun b u q nm z => by subst z; rw [q] at mu; exact nm mu
  refine ⟨fun b u q n _ _ => k b u (hb b n) q, fun b u q n _ _ => ⟨u.slots, k b u (hb b n) q⟩, fun b u q n _ => by rw [zv (hx b n)]; exact n, fun b u q _ => ?_,
    fun b xs q => by rw [zv (hm b _ q fun z => z)]; exact q, fun b u xs q => by rw [zv (hm b _ q fun z => z)]; exact q, fun b ps q => ⟨#[], by rw [zv (hm b _ q fun z => z), q]; simp⟩⟩
  by_cases hbe : b = e
  · subst hbe; exact heo
  · exact ⟨u, k b u hbe q⟩
theorem Un.mono (u : Un fs ex H H1 h h1) (hs : ∀ b ∈ fs, b ∈ fs') (hx : ∀ b ∈ ex, b ∈ ex') : Un fs' ex' H H1 h h1 :=
  ⟨fun b ob q n hb he => u.keep b ob q n (fun z => hb (hs b z)) fun z => he (hx b z), fun _ _ q n _ he => u.any q n fun z => he (hx _ z), fun b ob q n he => u.free b ob q n fun z => he (hx b z), fun b ob q he => u.there b ob q fun z => he (hx b z), u.tups, u.frzs, u.tbls⟩
end
noncomputable def trk (h : Heap) (H : Hp) : List Addr := (List.range h.objs.size).filter fun a => (H a).isSome
noncomputable def hidT (h : Heap) (H : Hp) : Heap := PySem.W.hideAll h (trk h H)
theorem zeH (h : Heap) (H : Hp) : (hidT h H).objs.size = h.objs.size := PySem.W.hideAll_size _ _
theorem zgD {h : Heap} {H : Hp} {b : Addr} {o : Obj} (e : h.get? b = some o) (n : H b = none) : (hidT h H).get? b = some o :=
  PySem.W.hideAll_get _ e fun hm => by
    have q : (H b).isSome = true := (List.mem_filter.mp hm).2
    rw [n] at q; simp at q
theorem zhG {h : Heap} {H : Hp} {b : Addr} {o : Obj} (e : (hidT h H).get? b = some o) : h.get? b = some o ∧ H b = none := by
  have e' : h.get? b = some o := PySem.W.of_hideAll (trk h H) e
  refine ⟨e', ?_⟩
  cases q : H b with
  | none => rfl
  | some x =>
    have hm : b ∈ trk h H := List.mem_filter.mpr ⟨List.mem_range.mpr (Heap.lt_size e'), by simp [q]⟩
    have z : (hidT h H).get? b = none := PySem.W.hideAll_none (trk h H) hm
    rw [z] at e; cases e
noncomputable def zhJ (g h : Heap) (L : Addr) : List (Addr × Obj) := (List.range h.objs.size).filterMap fun a => if a = L ∨ (g.get? a).isSome = true then none else (h.get? a).map fun o => (a, o)
noncomputable def rest (g h : Heap) (L d : Addr) : List (Addr × Obj) := (zhJ g h L).filter fun p => decide (p.1 ≠ d)
end L2
namespace L2
open PySem PySem.Spec PyProof.Rows
structure Mod (K : PySem.W.Frag) (mg : Str → Option Value) (base : Heap) : Prop where
  kin : K.In base
  glob : base.Ns mainGlobals mg
  blt : ∃ mb, base.Ns builtinsNs mb ∧ ∀ x : Str, x ≠ "__name__" → mb x = bootBuiltins x
  nolimit : base.NoLimit
structure Cx where
  prog : Program
  w : World
  K : PySem.W.Frag
  mg : Str → Option Value
  base : Heap
  A : Around
  N : List Str
  s₀ : Shared
  H₀ : Hp
  env : Env
  outer : List Env
  stack : List Env
  ex : List Addr
  fn : Str → Bool
  calm : Bool
  pn : List (Addr × Obj)
  xe : Value → Shared → Prop
noncomputable def frs (l : List Env) : List Addr := l.filterMap (·.frame)
abbrev Cx.fs (X : Cx) : List Addr := frs X.outer
noncomputable def Vis (sc : Scope) (x : Str) : Prop := sc.names.lookup x = some .local ∨ sc.names.lookup x = some .cell ∨ sc.names.lookup x = some .free
noncomputable def Loc (sc : Scope) (x : Str) : Prop := sc.names.lookup x = some .local ∨ sc.names.lookup x = some .cell
noncomputable def Look (env : Env) (h : Heap) (m : Str → Option Value) (x : Str) (u : Value) : Prop :=
  (env.kindOf x = some .local ∧ m x = some u) ∨ ((env.kindOf x = some .cell ∨ env.kindOf x = some .free) ∧ ∃ c, env.cells.lookup x = some c ∧ h.IsCell c (some u))
structure Cx.Ok (X : Cx) : Prop where
  mod : Mod X.K X.mg X.base
  kind : X.env.scope.kind = .function
  glob : X.env.globals = mainGlobals
  blt : X.env.builtins = builtinsNs
  above : X.s₀.heap.objs.size ≤ X.env.locals
  inj : ∀ x y c, X.env.cells.lookup x = some c → X.env.cells.lookup y = some c → x = y
  has : ∀ x, (X.env.kindOf x = some .cell ∨ X.env.kindOf x = some .free) → ∃ c, X.env.cells.lookup x = some c
  cab : ∀ x c, X.fn x = true → X.env.cells.lookup x = some c → X.s₀.heap.objs.size ≤ c
  hd : X.calm = true → X.A.handled = none
  frames : X.A.frames = some X.stack
  stk : X.stack = X.outer ∨ (X.stack = X.env :: X.outer ∧ X.env.frame = some X.env.locals)
  exf : ∀ b ∈ X.ex, b ≠ X.env.locals ∧ ∀ x c, X.env.cells.lookup x = some c → c ≠ b
  bs : ∀ b o, X.base.get? b = some o → X.s₀.heap.get? b = some o ∧ X.H₀ b = none
  bsz : X.base.objs.size ≤ X.s₀.heap.objs.size
  noex : ∀ b o, X.base.get? b = some o → b ∉ X.ex
  exfs : ∀ b ∈ X.ex, b ∉ X.fs
  funs : X.s₀.heap.FunFrames X.base X.outer
  frf : ∀ b ∈ X.fs, X.H₀ b = none
structure Inv (X : Cx) (pins : List (Addr × Obj)) (σ : List (Option V)) (H : Hp) (s : Shared) : Prop where
  ok : X.Ok
  os : s.os = X.s₀.os
  bare : AllBare s.gens
  base : Un X.fs X.ex X.H₀ H X.s₀.heap s.heap
  loc : ∃ m, s.heap.Ns X.env.locals m ∧ ∀ (i : Nat) (x : Str) (v : V), X.N[i]? = some x → σ[i]? = some (some v) → Vis X.env.scope x → ∃ u, RelV v u ∧ Look X.env s.heap m x u
  cell : ∀ x c, X.env.cells.lookup x = some c → ∃ v, s.heap.IsCell c v
  free : H X.env.locals = none
  freeC : ∀ x c, X.env.cells.lookup x = some c → H c = none
  pin : ∀ p ∈ X.pn ++ pins, s.heap.get? p.1 = some p.2 ∧ H p.1 = none ∧ p.1 ≠ X.env.locals ∧ p.1 ∉ X.fs ∧ ∀ v, p.2.data ≠ .cell v
  hok : HOk X.prog X.w H s.heap
  len : σ.length = X.N.length
section
variable {X : Cx} {pins : List (Addr × Obj)} {σ : List (Option V)} {H H' : Hp} {s : Shared} {h' : Heap}
theorem Cx.Ok.nofr (ok : X.Ok) {b : Addr} {o : Obj} (e : X.base.get? b = some o) : b ∉ X.fs := fun hb => by
  have := (ok.funs.mem hb).1
  rw [e] at this; cases this
theorem Inv.bs (I : Inv X pins σ H s) : ∀ b o, X.base.get? b = some o → s.heap.get? b = some o ∧ H b = none := fun b o e =>
  ⟨I.base.keep b o (I.ok.bs b o e).1 (I.ok.bs b o e).2 (I.ok.nofr e) (I.ok.noex b o e), I.base.free b o (I.ok.bs b o e).1 (I.ok.bs b o e).2 (I.ok.noex b o e)⟩
theorem Inv.bk (I : Inv X pins σ H s) : ∀ b o, X.base.get? b = some o → s.heap.get? b = some o := fun b o e => (I.bs b o e).1
theorem Inv.mod (I : Inv X pins σ H s) : Mod X.K X.mg X.base := I.ok.mod
theorem Inv.kIn (I : Inv X pins σ H s) : X.K.In s.heap := I.ok.mod.kin.keeps I.bk
theorem Inv.nolimit (I : Inv X pins σ H s) : s.heap.NoLimit := I.ok.mod.nolimit.keeps I.bk
theorem Inv.fr (I : Inv X pins σ H s) : ∃ m, Fr X.base X.env.locals s.heap m :=
  let ⟨m, hn, _⟩ := I.loc
  ⟨m, hn, I.bk, Nat.le_trans I.ok.bsz I.ok.above⟩
theorem Inv.lt (I : Inv X pins σ H s) : X.env.locals < s.heap.objs.size := let ⟨_, hn, _⟩ := I.loc; hn.lt
theorem Inv.sz (I : Inv X pins σ H s) : X.s₀.heap.objs.size ≤ s.heap.objs.size := Nat.le_trans I.ok.above (Nat.le_of_lt I.lt)
theorem Inv.nofs (I : Inv X pins σ H s) {a : Addr} (h : s.heap.objs.size ≤ a) : a ∉ X.fs := fun hb => by
  obtain ⟨_, o, ho, _⟩ := I.ok.funs.mem hb
  exact absurd (Nat.lt_of_lt_of_le (Heap.lt_size ho) (Nat.le_trans I.sz h)) (Nat.lt_irrefl _)
theorem Inv.cne (I : Inv X pins σ H s) : ∀ x c, X.env.cells.lookup x = some c → c ≠ X.env.locals := fun x c e z => by
  obtain ⟨v, o, ho, hd⟩ := I.cell x c e
  obtain ⟨m, ⟨o', es, ep, ho', hd', _⟩, _⟩ := I.loc
  rw [z, ho'] at ho; cases ho; rw [hd'] at hd; cases hd
theorem Inv.funs (I : Inv X pins σ H s) : s.heap.FunFrames X.base X.outer := by
  have all : ∀ (l : List Env), (∀ b ∈ frs l, b ∈ X.fs) → X.s₀.heap.FunFrames X.base l → s.heap.FunFrames X.base l := by
    intro l
    induction l with
    | nil => intro _ _; trivial
    | cons env r ih =>
      intro hs hl
      obtain ⟨hk, ⟨L, o, hf, hn, ho, hd⟩, hr⟩ := hl
      have hL : L ∈ X.fs := hs L (by unfold frs; rw [List.filterMap_cons, hf]; exact List.mem_cons_self)
      obtain ⟨sl, e⟩ := I.base.slot L o ho (I.ok.frf L hL) hL fun z => I.ok.exfs L z hL
      exact ⟨hk, ⟨L, _, hf, hn, e, hd⟩, ih (fun b hb => hs b (by unfold frs; rw [List.filterMap_cons, hf]; exact List.mem_cons_of_mem _ hb)) hr⟩
  exact all X.outer (fun _ hb => hb) I.ok.funs
theorem Inv.stack (I : Inv X pins σ H s) : s.heap.FunFrames X.base X.stack := by
  rcases I.ok.stk with e | ⟨e, hf⟩
  · rw [e]; exact I.funs
  · rw [e]
    obtain ⟨m, hn, _⟩ := I.loc
    refine .cons (by rw [I.ok.kind]; decide) hf hn ?_ I.funs
    exact Heap.get?_none_of_le (Nat.le_trans I.ok.bsz I.ok.above)
theorem Inv.stkSub (I : Inv X pins σ H s) : ∀ b ∈ frs X.stack, b ∈ X.env.locals :: X.fs := fun b hb => by
  rcases I.ok.stk with e | ⟨e, hf⟩
  · rw [e] at hb; exact List.mem_cons_of_mem _ hb
  · rw [e] at hb
    unfold frs at hb
    rw [List.filterMap_cons, hf] at hb
    exact hb
theorem Inv.stkFree (I : Inv X pins σ H s) : ∀ b ∈ frs X.stack, H b = none := fun b hb => by
  rcases List.mem_cons.mp (I.stkSub b hb) with e | hb
  · rw [e]; exact I.free
  · obtain ⟨_, o, ho, _⟩ := I.ok.funs.mem hb
    exact I.base.free b o ho (I.ok.frf b hb) fun z => I.ok.exfs b z hb
theorem Inv.step {g' : Array GenState} {t' : Nat} {d' : Drawn} {ch : List Addr} (I : Inv X pins σ H s)
    (hch : ∀ b ∈ ch, (b ∈ X.ex ∨ X.s₀.heap.objs.size ≤ b) ∧ b ≠ X.env.locals ∧ (∀ x c, X.env.cells.lookup x = some c → c ≠ b) ∧ ∀ p ∈ X.pn ++ pins, p.1 ≠ b)
    (keep : ∀ b o, b ≠ X.env.locals → b ∉ X.fs → b ∉ ch → s.heap.get? b = some o → H b = none → h'.get? b = some o)
    (slot : ∀ b o, b ≠ X.env.locals → b ∈ X.fs → b ∉ ch → s.heap.get? b = some o → H b = none → ∃ sl, h'.get? b = some { o with slots := sl }) (free : ∀ b o, b ∉ ch → s.heap.get? b = some o → H b = none → H' b = none)
    (there : ∀ b o, b ∉ ch → s.heap.get? b = some o → ∃ o', h'.get? b = some o')
    (tups : ∀ b xs, H b = some (.tup xs) → H' b = some (.tup xs)) (frzs : ∀ b o u, H b = some (.frz o u) → H' b = some (.frz o u)) (tbls : ∀ b ps, H b = some (.tbl ps) → ∃ more, H' b = some (.tbl (ps ++ more)))
    (ns : ∀ m, s.heap.Ns X.env.locals m → h'.Ns X.env.locals m) (hok : HOk X.prog X.w H' h') (hg : AllBare g') :
    Inv X pins σ H' { s with heap := h', gens := g', drawn := d', toks := t' } := by
  have neL : ∀ b o, X.s₀.heap.get? b = some o → b ≠ X.env.locals := fun b o e => Nat.ne_of_lt (Nat.lt_of_lt_of_le (Heap.lt_size e) I.ok.above)
  have neC : ∀ b o, X.s₀.heap.get? b = some o → b ∉ X.ex → b ∉ ch := fun b o e hx hb => by
    rcases (hch b hb).1 with z | z
    · exact hx z
    · exact absurd (Nat.lt_of_lt_of_le (Heap.lt_size e) z) (Nat.lt_irrefl _)
  have cellK : ∀ x c, X.env.cells.lookup x = some c → ∀ v, s.heap.IsCell c v → h'.IsCell c v := fun x c e v ⟨o, ho, hd⟩ => by
    have nch : c ∉ ch := fun z => (hch c z).2.2.1 x c e rfl
    by_cases hc : c ∈ X.fs
    · obtain ⟨sl, q⟩ := slot c o (I.cne x c e) hc nch ho (I.freeC x c e)
      exact ⟨_, q, hd⟩
    · exact ⟨o, keep c o (I.cne x c e) hc nch ho (I.freeC x c e), hd⟩
  refine ⟨I.ok, I.os, hg, ⟨fun b o e n hb hx => ?_, fun b o e n hb hx => ?_, fun b o e n hx => ?_, fun b o e hx => ?_, fun b xs e => tups b xs (I.base.tups b xs e), fun b o xs e => frzs b o xs (I.base.frzs b o xs e), fun b ps e => ?_⟩, ?_, fun x c e => ?_, ?_, fun x c e => ?_, fun p hp => ?_, hok, I.len⟩
  · exact keep b o (neL b o e) hb (neC b o e hx) (I.base.keep b o e n hb hx) (I.base.free b o e n hx)
  · obtain ⟨sl, e1⟩ := I.base.slot b o e n hb hx
    obtain ⟨sl', e2⟩ := slot b _ (neL b o e) hb (neC b o e hx) e1 (I.base.free b o e n hx)
    exact ⟨sl', e2⟩
  · obtain ⟨o', e1⟩ := I.base.there b o e hx
    exact free b o' (neC b o e hx) e1 (I.base.free b o e n hx)
  · obtain ⟨o', e1⟩ := I.base.there b o e hx
    exact there b o' (neC b o e hx) e1
  · obtain ⟨m1, e1⟩ := I.base.tbls b ps e
    obtain ⟨m2, e2⟩ := tbls b _ e1
    exact ⟨m1 ++ m2, by rw [e2, Array.append_assoc]⟩
  · obtain ⟨m, hn, hl⟩ := I.loc
    refine ⟨m, ns m hn, fun i x v e1 e2 e3 => ?_⟩
    obtain ⟨u, r, l⟩ := hl i x v e1 e2 e3
    refine ⟨u, r, ?_⟩
    rcases l with l | ⟨k, c, e, z⟩
    · exact .inl l
    · exact .inr ⟨k, c, e, cellK x c e _ z⟩
  · obtain ⟨v, z⟩ := I.cell x c e
    exact ⟨v, cellK x c e v z⟩
  · obtain ⟨m, ⟨o, _, _, ho, _⟩, _⟩ := I.loc
    exact free _ o (fun z => (hch _ z).2.1 rfl) ho I.free
  · obtain ⟨v, o, ho, hd⟩ := I.cell x c e
    exact free c o (fun z => (hch c z).2.2.1 x c e rfl) ho (I.freeC x c e)
  · obtain ⟨e, n, ne, nf, d⟩ := I.pin p hp
    have nch : p.1 ∉ ch := fun z => (hch p.1 z).2.2.2 p hp rfl
    exact ⟨keep p.1 p.2 ne nf nch e n, free p.1 p.2 nch e n, ne, nf, d⟩
theorem Inv.un {t' : Nat} (I : Inv X pins σ H s) (u : Un X.fs [] H H' s.heap h') (hok : HOk X.prog X.w H' h') : Inv X pins σ H' { s with heap := h', toks := t' } := by
  obtain ⟨m, ⟨o, es, ep, ho, r⟩, _⟩ := id I.loc
  obtain ⟨sl, hL⟩ := u.any ho I.free (by simp)
  exact I.step (g' := s.gens) (d' := s.drawn) (ch := []) (fun _ z => nomatch z) (fun b o _ hb _ e n => u.keep b o e n hb (by simp)) (fun b o _ hb _ e n => u.slot b o e n hb (by simp)) (fun b o _ e n => u.free b o e n (by simp)) (fun b o _ e => u.there b o e (by simp)) u.tups u.frzs u.tbls (fun m' hm => by
    obtain ⟨o', es', ep', ho', r'⟩ := hm
    rw [ho] at ho'; cases ho'
    exact ⟨_, es', ep', hL, r'⟩) hok I.bare
theorem Inv.call {g' : Array GenState} {t' : Nat} {d' : Drawn} {ch : List Addr} (I : Inv X pins σ H s) (u : Un (frs X.stack) ch H H' s.heap h') (hok : HOk X.prog X.w H' h') (hg : AllBare g')
    (hch : ∀ b ∈ ch, (b ∈ X.ex ∨ X.s₀.heap.objs.size ≤ b) ∧ b ≠ X.env.locals ∧ (∀ x c, X.env.cells.lookup x = some c → c ≠ b) ∧ ∀ p ∈ X.pn ++ pins, p.1 ≠ b) :
    Inv X pins σ H' { s with heap := h', gens := g', drawn := d', toks := t' } := by
  obtain ⟨m, ⟨o, es, ep, ho, r⟩, _⟩ := id I.loc
  obtain ⟨sl, hL⟩ := u.any ho I.free fun z => (hch _ z).2.1 rfl
  exact I.step (ch := ch) hch (fun b o hL hb hc e n => u.keep b o e n (fun z => (List.mem_cons.mp (I.stkSub b z)).elim hL hb) hc) (fun b o _ _ hc e n => u.any e n hc) (fun b o hc e n => u.free b o e n hc) (fun b o hc e => u.there b o e hc) u.tups u.frzs u.tbls (fun m' hm => by
    obtain ⟨o', es', ep', ho', r'⟩ := hm
    rw [ho] at ho'; cases ho'
    exact ⟨_, es', ep', hL, r'⟩) hok hg
theorem Inv.turned {t' : Nat} {it : Addr} (I : Inv X pins σ H s) (k : ∀ b o, b ≠ it → s.heap.get? b = some o → h'.get? b = some o) (hn : H it = none) (hL : it ≠ X.env.locals)
    (h1 : it ∈ X.ex ∨ X.s₀.heap.objs.size ≤ it) (h2 : ∀ x c, X.env.cells.lookup x = some c → c ≠ it) (h3 : ∀ p ∈ X.pn ++ pins, p.1 ≠ it) : Inv X pins σ H { s with heap := h', toks := t' } := by
  have nit : ∀ b u, H b = some u → b ≠ it := fun b u e z => by rw [z, hn] at e; cases e
  refine I.step (g' := s.gens) (d' := s.drawn) (ch := [it]) (fun b hb => ?_) (fun b o _ _ hc e _ => k b o (fun z => hc (by simp [z])) e) (fun b o _ _ hc e _ => ⟨o.slots, k b o (fun z => hc (by simp [z])) e⟩) (fun _ _ _ _ n => n)
    (fun b o hc e => ⟨o, k b o (fun z => hc (by simp [z])) e⟩) (fun _ _ e => e) (fun _ _ _ e => e) (fun b ps e => ⟨#[], by rw [e]; simp⟩) (fun m hm => ?_) (fun b u e => ?_) I.bare
  · have e : b = it := by simpa using hb
    subst e
    exact ⟨h1, hL, h2, h3⟩
  · obtain ⟨o, es, ep, ho, r⟩ := hm
    exact ⟨o, es, ep, k _ o (Ne.symm hL) ho, r⟩
  · refine (I.hok b u e).stay (fun c v hc q => k c v ?_ q) (fun _ q => q) fun _ _ q => q
    rcases hc with z | z
    · rw [z]; exact nit b u e
    · exact nit c _ z
theorem Inv.tok (I : Inv X pins σ H s) (t : Nat) : Inv X pins σ H { s with toks := t } := I.un (h' := s.heap) (t' := t) Un.refl I.hok
theorem Inv.kept {t' : Nat} (I : Inv X pins σ H s) (k : ∀ b u, s.heap.get? b = some u → h'.get? b = some u) : Inv X pins σ H { s with heap := h', toks := t' } := I.un (Un.kept k) (I.hok.kept k)
theorem Inv.laid {a : Addr} {o : HO} {t' : Nat} (I : Inv X pins σ H s) (k : ∀ b u, s.heap.get? b = some u → h'.get? b = some u) (hp : s.heap.objs.size ≤ a) (new : jL X.prog X.w (upd H a o) h' a o) :
    Inv X pins σ (upd H a o) { s with heap := h', toks := t' } := I.un (Un.laid k hp (I.hok.fresh hp)) (I.hok.laid k hp new)
theorem Inv.write {x e : Addr} {o : HO} {t' : Nat} (I : Inv X pins σ H s) (mu : Mut (H x)) (he : e = x ∨ H e = some (.own x)) (k : ∀ b u, b ≠ e → s.heap.get? b = some u → h'.get? b = some u) (heo : ∃ u, h'.get? e = some u)
    (new : jL X.prog X.w (upd H x o) h' x o) : Inv X pins σ (upd H x o) { s with heap := h', toks := t' } := I.un (Un.write mu he k heo) (I.hok.write mu he k heo new)
theorem Inv.pins_of {pins' : List (Addr × Obj)} (I : Inv X pins σ H s) (h : ∀ p ∈ pins', s.heap.get? p.1 = some p.2 ∧ H p.1 = none ∧ p.1 ≠ X.env.locals ∧ p.1 ∉ X.fs ∧ ∀ v, p.2.data ≠ .cell v) : Inv X pins' σ H s :=
  ⟨I.ok, I.os, I.bare, I.base, I.loc, I.cell, I.free, I.freeC, fun p hp => (List.mem_append.mp hp).elim (fun z => I.pin p (List.mem_append_left _ z)) (h p), I.hok, I.len⟩
theorem zaT {N : List Str} (hN : N.Nodup) {i j : Nat} {x : Str} (a : N[i]? = some x) (b : N[j]? = some x) : i = j := by
  obtain ⟨h1, e1⟩ := List.getElem?_eq_some_iff.mp a
  obtain ⟨h2, e2⟩ := List.getElem?_eq_some_iff.mp b
  exact (List.getElem_inj hN).mp (e1.trans e2.symm)
theorem zbW {M : Model} {A : Around} {E : Value → Shared → Prop} {i : Nat} {x : Str} {v : V} {u : Value} {Q : Unit → Shared → Prop} (I : Inv X pins σ H s) (hN : X.N.Nodup) (hi : X.N[i]? = some x) (hx : Loc X.env.scope x) (r : RelV v u)
    (h : ∀ s', Inv X pins (σ.set i (some v)) H s' → (∃ a, Heap.SameBut a s.heap s'.heap ∧ (a = X.env.locals ∨ X.env.cells.lookup x = some a)) → Q () s') (hf : X.fn x = true ∨ X.env.scope.names.lookup x = some .local := by first | exact .inl rfl | exact .inr rfl | assumption) : wpAny M A (storeName X.env x u) Q E s := by
  obtain ⟨m, hn, hl⟩ := id I.loc
  have hcls : (X.env.scope.kind == .class || (X.env.scope.kind == .module && X.env.locals != X.env.globals)) = false := by rw [I.ok.kind]; rfl
  have hiσ : i < σ.length := by rw [I.len]; exact (List.getElem?_eq_some_iff.mp hi).1
  have cne := I.cne
  have tracked : ∀ {a : Addr} {h' : Heap}, (∃ o, s.heap.get? a = some o ∧ H a = none) → Heap.SameBut a s.heap h' → HOk X.prog X.w H h' := fun {a h'} ha hs b ob e => by
    obtain ⟨_, _, hfree⟩ := ha
    refine (I.hok b ob e).stay (fun c w' hc q => (hs.2 c ?_).trans q) (fun _ q => q) fun _ _ q => q
    rintro rfl
    rcases hc with rfl | hc
    · rw [hfree] at e; cases e
    · rw [hfree] at hc; cases hc
  rcases hx with hk | hk
  · refine wpAny_storeName_local hk hn (fun h' hn' hs => ?_) hcls
    obtain ⟨oL, _, _, hoL, _⟩ := id hn
    refine h _ ⟨I.ok, I.os, I.bare, ⟨fun b o e n hb hx => ?_, fun b o e n hb hx => ?_, I.base.free, fun b o e hx => ?_, I.base.tups, I.base.frzs, I.base.tbls⟩, ⟨_, hn', fun j y v' e1 e2 e3 => ?_⟩, fun y c e => ?_, I.free, I.freeC, fun p hp => ?_, tracked ⟨oL, hoL, I.free⟩ hs, by simpa using I.len⟩ ⟨_, hs, .inl rfl⟩
    · exact (hs.2 b (Nat.ne_of_lt (Nat.lt_of_lt_of_le (Heap.lt_size e) I.ok.above))).trans (I.base.keep b o e n hb hx)
    · obtain ⟨sl, e1⟩ := I.base.slot b o e n hb hx
      exact ⟨sl, (hs.2 b (Nat.ne_of_lt (Nat.lt_of_lt_of_le (Heap.lt_size e) I.ok.above))).trans e1⟩
    · obtain ⟨o', e1⟩ := I.base.there b o e hx
      exact ⟨o', (hs.2 b (Nat.ne_of_lt (Nat.lt_of_lt_of_le (Heap.lt_size e) I.ok.above))).trans e1⟩
    · by_cases hj : j = i
      · subst hj
        rw [hi] at e1; cases e1
        rw [List.getElem?_set_self hiσ] at e2
        cases e2
        exact ⟨u, r, .inl ⟨hk, by simp⟩⟩
      · rw [List.getElem?_set_ne (Ne.symm hj)] at e2
        obtain ⟨u', r', q⟩ := hl j y v' e1 e2 e3
        refine ⟨u', r', ?_⟩
        rcases q with ⟨k, e⟩ | ⟨k, c, e, z⟩
        · refine .inl ⟨k, ?_⟩
          have : y ≠ x := fun e => hj (zaT hN e1 (e ▸ hi))
          simp [this, e]
        · exact .inr ⟨k, c, e, z.sameBut hs (cne y c e)⟩
    · obtain ⟨w', z⟩ := I.cell y c e
      exact ⟨w', z.sameBut hs (cne y c e)⟩
    · obtain ⟨e, n, ne, nf, d⟩ := I.pin p hp
      exact ⟨(hs.2 p.1 ne).trans e, n, ne, nf, d⟩
  · have hfn : X.fn x = true := by
      rcases hf with z | z
      · exact z
      · rw [z] at hk; cases hk
    obtain ⟨c, hc⟩ := I.ok.has x (.inl hk)
    obtain ⟨w', z⟩ := I.cell x c hc
    refine wpAny_storeName_cell I.ok.kind hk hc z (fun h' hc' hs => ?_)
    obtain ⟨oc, hoc, hocd⟩ := id z
    refine h { s with heap := h' } ⟨I.ok, I.os, I.bare, ⟨fun b o e n hb hx => ?_, fun b o e n hb hx => ?_, I.base.free, fun b o e hx => ?_, I.base.tups, I.base.frzs, I.base.tbls⟩, ⟨m, hn.sameBut hs (Ne.symm (cne x c hc)), fun j y v' e1 e2 e3 => ?_⟩, fun y c' e => ?_, I.free, I.freeC, fun p hp => ?_, tracked ⟨oc, hoc, I.freeC x c hc⟩ hs, by simpa using I.len⟩ ⟨c, hs, .inr hc⟩
    · exact (hs.2 b (Nat.ne_of_lt (Nat.lt_of_lt_of_le (Heap.lt_size e) (I.ok.cab x c hfn hc)))).trans (I.base.keep b o e n hb hx)
    · obtain ⟨sl, e1⟩ := I.base.slot b o e n hb hx
      exact ⟨sl, (hs.2 b (Nat.ne_of_lt (Nat.lt_of_lt_of_le (Heap.lt_size e) (I.ok.cab x c hfn hc)))).trans e1⟩
    · obtain ⟨o', e1⟩ := I.base.there b o e hx
      exact ⟨o', (hs.2 b (Nat.ne_of_lt (Nat.lt_of_lt_of_le (Heap.lt_size e) (I.ok.cab x c hfn hc)))).trans e1⟩
    · by_cases hj : j = i
      · subst hj
        rw [hi] at e1; cases e1
        rw [List.getElem?_set_self hiσ] at e2
        cases e2
        exact ⟨u, r, .inr ⟨.inl hk, c, hc, hc'⟩⟩
      · rw [List.getElem?_set_ne (Ne.symm hj)] at e2
        obtain ⟨u', r', q⟩ := hl j y v' e1 e2 e3
        refine ⟨u', r', ?_⟩
        rcases q with q | ⟨k, c', e, z'⟩
        · exact .inl q
        · refine .inr ⟨k, c', e, z'.sameBut hs ?_⟩
          rintro rfl
          exact hj (zaT hN e1 (I.ok.inj _ _ _ e hc ▸ hi))
    · by_cases hcc : c' = c
      · subst hcc; exact ⟨_, hc'⟩
      · obtain ⟨w2, z2⟩ := I.cell y c' e
        exact ⟨w2, z2.sameBut hs hcc⟩
    · obtain ⟨e, n, ne, nf, d⟩ := I.pin p hp
      refine ⟨(hs.2 p.1 ?_).trans e, n, ne, nf, d⟩
      intro q
      rw [q, hoc] at e
      have q' : oc = p.2 := Option.some.inj e
      exact d w' (by rw [← q']; exact hocd)
theorem zdh {M : Model} {A : Around} {E : Value → Shared → Prop} {i : Nat} {x : Str} {v : V} {u : Value} {Q : Unit → Shared → Prop} (I : Inv X pins σ H s) (hN : X.N.Nodup) (hi : X.N[i]? = some x) (hx : Loc X.env.scope x) (r : RelV v u)
    (h : ∀ s', Inv X pins (σ.set i (some v)) H s' → Q () s') (hf : X.fn x = true ∨ X.env.scope.names.lookup x = some .local := by first | exact .inl rfl | exact .inr rfl | assumption) : wpAny M A (storeName X.env x u) Q E s :=
  zbW I hN hi hx r (fun s' I' _ => h s' I') hf
theorem Inv.call' {s' : Shared} {ch : List Addr} (I : Inv X pins σ H s) (ho : s'.os = s.os) (u : Un (frs X.stack) ch H H' s.heap s'.heap) (hok : HOk X.prog X.w H' s'.heap) (hg : AllBare s'.gens)
    (hch : ∀ b ∈ ch, (b ∈ X.ex ∨ X.s₀.heap.objs.size ≤ b) ∧ b ≠ X.env.locals ∧ (∀ x c, X.env.cells.lookup x = some c → c ≠ b) ∧ ∀ p ∈ X.pn ++ pins, p.1 ≠ b) : Inv X pins σ H' s' := by
  obtain ⟨h', g', d', t', o'⟩ := s'
  have e : o' = s.os := ho
  subst e
  exact I.call (g' := g') (t' := t') (d' := d') u hok hg hch
end
abbrev XK := Value → Option Addr → Hp → Prop
abbrev St := List (Option V)
abbrev VK := V → Hp → Prop
abbrev TE := St → Hp → VK → Prop
abbrev TT := St → Hp → (Bool → Hp → Prop) → Prop
abbrev TA := St → Hp → (List V → Hp → Prop) → Prop
structure Ends where
  nx : St → Hp → Prop
  rt : VK
  bk : St → Hp → Prop := fun _ _ => False
  ct : St → Hp → Prop := fun _ _ => False
abbrev TS := Ends → St → Hp → Prop
noncomputable def EP (X : Cx) (pins : List (Addr × Obj)) (σ : St) (Q : VK) (u : Value) (s' : Shared) : Prop := ∃ v H', Inv X pins σ H' s' ∧ RelV v u ∧ Q v H'
noncomputable def TP (X : Cx) (pins : List (Addr × Obj)) (σ : St) (Q : Bool → Hp → Prop) (b : Bool) (s' : Shared) : Prop := ∃ H', Inv X pins σ H' s' ∧ Q b H'
noncomputable def AP (X : Cx) (pins : List (Addr × Obj)) (σ : St) (Q : List V → Hp → Prop) (us : List Value) (s' : Shared) : Prop := ∃ vs H', Inv X pins σ H' s' ∧ Vals vs us ∧ Q vs H'
noncomputable def SP (X : Cx) (pins : List (Addr × Obj)) (D : Ends) (f : Flow) (s' : Shared) : Prop :=
  match f with
  | .next => ∃ σ' H', Inv X pins σ' H' s' ∧ D.nx σ' H'
  | .brk => ∃ σ' H', Inv X pins σ' H' s' ∧ D.bk σ' H'
  | .cont => ∃ σ' H', Inv X pins σ' H' s' ∧ D.ct σ' H'
  | .ret u => ∃ v σ' H', Inv X pins σ' H' s' ∧ RelV v u ∧ D.rt v H'
noncomputable def PE (X : Cx) (e : Expr) (t : TE) : Prop :=
  ∀ (pins : List (Addr × Obj)) (s : Shared) (σ : St) (H : Hp) (Q : VK), Inv X pins σ H s → t σ H Q → wpAny (model X.prog X.w) X.A (eval e X.env) (EP X pins σ Q) X.xe s
noncomputable def PT (X : Cx) (e : Expr) (t : TT) : Prop :=
  ∀ (pins : List (Addr × Obj)) (s : Shared) (σ : St) (H : Hp) (Q : Bool → Hp → Prop), Inv X pins σ H s → t σ H Q → wpAny (model X.prog X.w) X.A (isTrue e X.env (eval e X.env)) (TP X pins σ Q) X.xe s
noncomputable def PW (X : Cx) (e : Expr) (t : TT) : Prop :=
  ∀ (whole : Sem Value) (pins : List (Addr × Obj)) (s : Shared) (σ : St) (H : Hp) (Q : Bool → Hp → Prop), Inv X pins σ H s → t σ H Q → wpAny (model X.prog X.w) X.A (isTrue e X.env whole) (TP X pins σ Q) X.xe s
theorem PW.pt {X : Cx} {e : Expr} {t : TT} (h : PW X e t) : PT X e t := h _
noncomputable def PA (X : Cx) (es : List Expr) (t : TA) : Prop :=
  ∀ (pos : Pos) (pins : List (Addr × Obj)) (s : Shared) (σ : St) (H : Hp) (Q : List V → Hp → Prop), Inv X pins σ H s → t σ H Q → wpAny (model X.prog X.w) X.A (spliced (backTo pos (starEach es X.env))) (AP X pins σ Q) X.xe s
noncomputable def PS (X : Cx) (st : Stmt) (t : TS) : Prop :=
  ∀ (pins : List (Addr × Obj)) (s : Shared) (σ : St) (H : Hp) (D : Ends), Inv X pins σ H s → t D σ H → wpAny (model X.prog X.w) X.A (exec st X.env) (SP X pins D) X.xe s
noncomputable def PSs (X : Cx) (st : List Stmt) (t : TS) : Prop :=
  ∀ (pins : List (Addr × Obj)) (s : Shared) (σ : St) (H : Hp) (D : Ends), Inv X pins σ H s → t D σ H → wpAny (model X.prog X.w) X.A (execs st X.env) (SP X pins D) X.xe s
theorem thn {α : Type} {t : Sem α} {Q Q' : α → Shared → Prop} {M : Model} {A : Around} {E : Value → Shared → Prop} {s : Shared} (h : wpAny M A t Q E s) (hQ : ∀ a s, Q a s → Q' a s) : wpAny M A t Q' E s := wpAny_mono h hQ fun _ _ x => x
end L2
namespace L2
open PySem PySem.Spec PyProof.Rows
section
variable {X : Cx}
noncomputable def tVar (i : Nat) : TE := fun σ H Q => ∃ v, σ[i]? = some (some v) ∧ Q v H
noncomputable def tC (v : V) : TE := fun _ H Q => Q v H
theorem zjZ {i : Nat} {x : Str} {pos : Pos} (hN : X.N[i]? = some x) (hv : Vis X.env.scope x) (hd : (x == ("__debug__" : Str)) = false := by decide) (hcd : (x == ("__classdict__" : Str)) = false := by decide) : PE X (.Name x pos) (tVar i) := by
  intro pins s σ H Q I h
  obtain ⟨v, e, h⟩ := h
  obtain ⟨m, hn, hl⟩ := I.loc
  obtain ⟨u, r, l⟩ := hl i x v hN e hv
  have fin : EP X pins σ Q u s := ⟨v, H, I, r, h⟩
  rcases l with ⟨hk, hm⟩ | ⟨hk, c, hc, hcell⟩
  · exact wpAny_Name (wpAny_loadName_local I.ok.kind hk hn hm fin) hd
  · rcases hk with hk | hk
    · exact wpAny_Name (wpAny_loadName_cell I.ok.kind hk hc hcell fin) hd
    · exact wpAny_Name (wpAny_loadName_free I.ok.kind hk hc hcell fin hcd) hd
theorem zi3 {i j pos} : PE X (.Constant (.int i) j pos) (tC (.int i)) := fun _ _ _ H _ I h => wpAny_Constant_int ⟨.int i, H, I.tok _, ⟨_, rfl⟩, h⟩
theorem zkd {b j pos} : PE X (.Constant (.bool b) j pos) (tC (.bl b)) := fun _ _ _ H _ I h => Constant_bool ⟨.bl b, H, I, rfl, h⟩
theorem zjr {j pos} : PE X (.Constant .none j pos) (tC .non) := fun _ _ _ H _ I h => Constant_none ⟨.non, H, I, rfl, h⟩
theorem zcG {x j pos} : PE X (.Constant (.str x) j pos) (tC (.str x)) := fun _ _ _ H _ I h => Calls.Constant_str ⟨.str x, H, I.tok _, ⟨_, rfl⟩, h⟩
noncomputable def Gl (X : Cx) (x : Str) : Prop := X.env.kindOf x = some .globalImplicit
theorem yp {E : Value → Shared → Prop} {pins : List (Addr × Obj)} {s : Shared} {σ : St} {H : Hp} {x : Str} {u : Value} {pos : Pos} {Q : Value → Shared → Prop} (I : Inv X pins σ H s) (hg : Gl X x) (hm : X.mg x = some u) (h : Q u s)
    (hd : (x == ("__debug__" : Str)) = false := by decide) : wpAny (model X.prog X.w) X.A (eval (.Name x pos) X.env) Q E s :=
  Calls.Name_function_global I.ok.kind hg (Calls.loadGlobal_global (by rw [I.ok.glob]; exact I.mod.glob.keeps I.bk) hm h) hd
theorem vE {E : Value → Shared → Prop} {pins : List (Addr × Obj)} {s : Shared} {σ : St} {H : Hp} {x : Str} {u : Value} {pos : Pos} {Q : Value → Shared → Prop} (I : Inv X pins σ H s) (hg : Gl X x) (hm : X.mg x = none) (hv : bootBuiltins x = some u) (h : Q u s)
    (hn : x ≠ "__name__" := by decide) (hd : (x == ("__debug__" : Str)) = false := by decide) : wpAny (model X.prog X.w) X.A (eval (.Name x pos) X.env) Q E s := by
  obtain ⟨mb, h1, h2⟩ := I.mod.blt
  exact Calls.Name_function_global I.ok.kind hg (Calls.loadGlobal_builtin (by rw [I.ok.glob]; exact I.mod.glob.keeps I.bk) hm (by rw [I.ok.blt]; exact h1.keeps I.bk) ((h2 x hn).trans hv) h) hd
theorem wA {x : Str} {v : V} {u : Value} {pos : Pos} (hg : Gl X x) (hm : X.mg x = some u) (r : RelV v u) (hd : (x == ("__debug__" : Str)) = false := by decide) : PE X (.Name x pos) (tC v) :=
  fun _ _ _ H _ I h => yp I hg hm ⟨v, H, I, r, h⟩ hd
theorem ze9 {x : Str} {v : V} {u : Value} {pos : Pos} (hg : Gl X x) (hm : X.mg x = none) (hv : bootBuiltins x = some u) (r : RelV v u) (hn : x ≠ "__name__" := by decide) (hd : (x == ("__debug__" : Str)) = false := by decide) : PE X (.Name x pos) (tC v) :=
  fun _ _ _ H _ I h => vE I hg hm hv ⟨v, H, I, r, h⟩ hn hd
variable {a b : Expr} {ta tb : TE} {pos : Pos}
noncomputable def tB (t : TE) : TT := fun σ H Q => t σ H fun x H1 => ∃ c, x = .bl c ∧ Q c H1
variable {tA tB' : TT} {rest : List Expr}
noncomputable def tAnd (t u : TT) : TT := fun σ H Q => t σ H fun c H1 => if c = true then u σ H1 Q else Q false H1
noncomputable def tOr (t u : TT) : TT := fun σ H Q => t σ H fun c H1 => if c = true then Q true H1 else u σ H1 Q
noncomputable def tNot (t : TT) : TT := fun σ H Q => t σ H fun c H1 => Q (!c) H1
theorem zhx (ha : PT X a tA) : PW X (.BoolOp .And [a] pos) tA := by
  intro wh pins s σ H Q I h
  refine isTrue_and (thn (ha pins s σ H Q I h) fun c s1 e => ?_)
  cases c with
  | true => exact isTrue_and_nil e
  | false => exact e
theorem zi5 (ha : PT X a tA) : PW X (.BoolOp .Or [a] pos) tA := by
  intro wh pins s σ H Q I h
  refine isTrue_or (thn (ha pins s σ H Q I h) fun c s1 e => ?_)
  cases c with
  | false => exact isTrue_or_nil e
  | true => exact e
theorem ziP (ha : PT X a tA) (hb : PW X (.BoolOp .And (b :: rest) pos) tB') : PW X (.BoolOp .And (a :: b :: rest) pos) (tAnd tA tB') := by
  intro wh pins s σ H Q I h
  refine isTrue_and (thn (ha pins s σ H _ I h) fun c s1 ⟨H1, I1, q1⟩ => ?_)
  cases c with
  | true => exact hb wh pins s1 σ H1 Q I1 q1
  | false => exact ⟨H1, I1, q1⟩
theorem zkf (ha : PT X a tA) (hb : PW X (.BoolOp .Or (b :: rest) pos) tB') : PW X (.BoolOp .Or (a :: b :: rest) pos) (tOr tA tB') := by
  intro wh pins s σ H Q I h
  refine isTrue_or (thn (ha pins s σ H _ I h) fun c s1 ⟨H1, I1, q1⟩ => ?_)
  cases c with
  | true => exact ⟨H1, I1, q1⟩
  | false => exact hb wh pins s1 σ H1 Q I1 q1
theorem zjg (ha : PT X a tA) : PT X (.UnaryOp .Not a pos) (tNot tA) := by
  intro pins s σ H Q I h
  exact isTrue_not (ha pins s σ H (fun c H1 => Q (!c) H1) I h)
noncomputable def zke (ta tb : TE) : TE := fun σ H Q => ta σ H fun x H1 => ∃ c, x = .bl c ∧ if c = true then tb σ H1 Q else Q (.bl false) H1
noncomputable def tOrV (ta tb : TE) : TE := fun σ H Q => ta σ H fun x H1 => ∃ c, x = .bl c ∧ if c = true then Q (.bl true) H1 else tb σ H1 Q
noncomputable def zkz (ta : TE) : TE := fun σ H Q => ta σ H fun x H1 => ∃ c, x = .bl c ∧ Q (.bl (!c)) H1
theorem zjU {op} {t : TE} (h : PE X a t) : PE X (.BoolOp op [a] pos) t := fun pins s σ H Q I hw => BoolOp_one (h pins s σ H Q I hw)
theorem zjv (ha : PE X a ta) (hb : PE X (.BoolOp .And (b :: rest) pos) tb) : PE X (.BoolOp .And (a :: b :: rest) pos) (zke ta tb) := by
  intro pins s σ H Q I h
  refine BoolOp_and (thn (ha pins s σ H _ I h) fun v s1 ⟨x, H1, I1, r1, q1⟩ => ?_)
  obtain ⟨c, rfl, q1⟩ := q1
  cases r1
  refine wpAny_truthy_bool ?_
  cases c with
  | true => exact hb pins s1 σ H1 Q I1 q1
  | false => exact ⟨.bl false, H1, I1, rfl, q1⟩
theorem zkl (ha : PE X a ta) (hb : PE X (.BoolOp .Or (b :: rest) pos) tb) : PE X (.BoolOp .Or (a :: b :: rest) pos) (tOrV ta tb) := by
  intro pins s σ H Q I h
  refine BoolOp_or (thn (ha pins s σ H _ I h) fun v s1 ⟨x, H1, I1, r1, q1⟩ => ?_)
  obtain ⟨c, rfl, q1⟩ := q1
  cases r1
  refine wpAny_truthy_bool ?_
  cases c with
  | false => exact hb pins s1 σ H1 Q I1 q1
  | true => exact ⟨.bl true, H1, I1, rfl, q1⟩
theorem ziR (ha : PE X a ta) : PE X (.UnaryOp .Not a pos) (zkz ta) := by
  intro pins s σ H Q I h
  refine UnaryOp_ (thn (ha pins s σ H _ I h) fun v s1 ⟨x, H1, I1, r1, q1⟩ => ?_)
  obtain ⟨c, rfl, q1⟩ := q1
  cases r1
  exact not_of (wpAny_truthy_bool ⟨.bl (!c), H1, I1, rfl, q1⟩)
end
end L2
namespace L2
open PySem PySem.Spec PyProof.Rows
noncomputable def SqL (K : PySem.W.Frag) (H : Hp) (a : Addr) (xs : List V) : Prop :=
  Rd H a (.lst xs) ∨
    ∃ (o : Obj) (its : Array Value) (n : Nat), K.lookup a = some o ∧ o.cls = .type "list" ∧ o.dict = none ∧ o.data = .seq its n ∧ its.size ≤ sizeLine ∧ Vals xs its.toList
noncomputable def SqT (K : PySem.W.Frag) (H : Hp) (a : Addr) (xs : List V) : Prop :=
  Rd H a (.tup xs) ∨
    ∃ (o : Obj) (its : Array Value) (n : Nat), K.lookup a = some o ∧ o.cls = .type "tuple" ∧ o.data = .seq its n ∧ its.size ≤ sizeLine ∧ Vals xs its.toList
noncomputable def absV : Value → Option V
  | .none => some .non
  | .bool b => some (.bl b)
  | .int i _ => some (.int i)
  | .str x _ => some (.str x)
  | .bytes b _ => some (.byt b)
  | .float b _ => some (.flt b)
  | .ref a => some (.ref a)
  | .type n => some (.ty n)
  | _ => none
theorem RelV.abs {x : V} {u : Value} (r : RelV x u) : absV u = some x := by
  cases x with
  | non => cases r; rfl
  | bl _ => cases r; rfl
  | int _ => obtain ⟨t, rfl⟩ := r; rfl
  | str _ => obtain ⟨t, rfl⟩ := r; rfl
  | byt _ => obtain ⟨t, rfl⟩ := r; rfl
  | flt _ => obtain ⟨t, rfl⟩ := r; rfl
  | ref _ => cases r; rfl
  | ty _ => cases r; rfl
theorem RelV.inj {x y : V} {u : Value} (r : RelV x u) (q : RelV y u) : x = y := Option.some.inj (r.abs.symm.trans q.abs)
theorem Vals.inj : ∀ {xs ys : List V} {us : List Value}, Vals xs us → Vals ys us → xs = ys
  | _, _, _, .nil, .nil => rfl
  | _, _, _, .cons r t, .cons r' t' => by rw [r.inj r', Vals.inj t t']
section
variable {X : Cx} {pins : List (Addr × Obj)} {σ : St} {H : Hp} {s : Shared} {a : Addr} {xs ys : List V}
theorem SqL.of {K : PySem.W.Frag} (h : H a = some (.lst xs)) : SqL K H a xs := .inl (.inl h)
theorem SqT.of {K : PySem.W.Frag} (h : H a = some (.tup xs)) : SqT K H a xs := .inl (.inl h)
theorem Inv.list (I : Inv X pins σ H s) (h : SqL X.K H a xs) : ∃ its : List Value, Vals xs its ∧ PlainL s.heap a its.toArray ∧ xs.length ≤ sizeLine := by
  rcases h with h | ⟨o, its, n, hk, hc, hd, hs, hz, r⟩
  · obtain ⟨z, its, n, r, e⟩ := h.ok I.hok
    exact ⟨its, r, ⟨_, n, e, rfl, rfl, rfl⟩, z⟩
  · refine ⟨its.toList, r, ⟨o, n, I.kIn a o hk, hc, hd, by simpa using hs⟩, ?_⟩
    have e := r.length
    simp only [Array.length_toList] at e
    omega
theorem Inv.tuple (I : Inv X pins σ H s) (h : SqT X.K H a xs) : ∃ its : List Value, Vals xs its ∧ IsTup s.heap a its.toArray ∧ xs.length ≤ sizeLine := by
  rcases h with h | ⟨o, its, n, hk, hc, hs, hz, r⟩
  · obtain ⟨z, its, r, p⟩ := h.ok I.hok
    exact ⟨its, r, p, z⟩
  · refine ⟨its.toList, r, ⟨o, I.kIn a o hk, hc, n, by simpa using hs⟩, ?_⟩
    have e := r.length
    simp only [Array.length_toList] at e
    omega
theorem Inv.list_inj (I : Inv X pins σ H s) (h : SqL X.K H a xs) (h' : SqL X.K H a ys) : xs = ys := by
  obtain ⟨its, r, ⟨o, n, e, _, _, d⟩, _⟩ := I.list h
  obtain ⟨its', r', ⟨o', n', e', _, _, d'⟩, _⟩ := I.list h'
  rw [e] at e'; cases e'
  rw [d] at d'
  injection d' with d1 _
  have : its = its' := by simpa using congrArg Array.toList d1
  subst this
  exact r.inj r'
theorem Inv.tuple_inj (I : Inv X pins σ H s) (h : SqT X.K H a xs) (h' : SqT X.K H a ys) : xs = ys := by
  obtain ⟨its, r, ⟨o, e, _, n, d⟩, _⟩ := I.tuple h
  obtain ⟨its', r', ⟨o', e', _, n', d'⟩, _⟩ := I.tuple h'
  rw [e] at e'; cases e'
  rw [d] at d'
  injection d' with d1 _
  have : its = its' := by simpa using congrArg Array.toList d1
  subst this
  exact r.inj r'
end
abbrev Cx.wish (X : Cx) (E : Value → Shared → Prop) : Cx := { X with xe := E }
abbrev Cx.nox (X : Cx) : Cx := X.wish fun _ _ => False
theorem Cx.Ok.wish {X : Cx} (ok : X.Ok) (E : Value → Shared → Prop) : (X.wish E).Ok :=
  ⟨ok.mod, ok.kind, ok.glob, ok.blt, ok.above, ok.inj, ok.has, ok.cab, ok.hd, ok.frames, ok.stk, ok.exf, ok.bs, ok.bsz, ok.noex, ok.exfs, ok.funs, ok.frf⟩
theorem Cx.Ok.unwish {X : Cx} {E : Value → Shared → Prop} (ok : (X.wish E).Ok) : X.Ok :=
  ⟨ok.mod, ok.kind, ok.glob, ok.blt, ok.above, ok.inj, ok.has, ok.cab, ok.hd, ok.frames, ok.stk, ok.exf, ok.bs, ok.bsz, ok.noex, ok.exfs, ok.funs, ok.frf⟩
section
variable {X : Cx} {pins : List (Addr × Obj)} {σ : St} {H : Hp} {s : Shared} {E : Value → Shared → Prop}
theorem Inv.wish (I : Inv X pins σ H s) (E : Value → Shared → Prop) : Inv (X.wish E) pins σ H s := ⟨I.ok.wish E, I.os, I.bare, I.base, I.loc, I.cell, I.free, I.freeC, I.pin, I.hok, I.len⟩
theorem Inv.unwish (I : Inv (X.wish E) pins σ H s) : Inv X pins σ H s := ⟨I.ok.unwish, I.os, I.bare, I.base, I.loc, I.cell, I.free, I.freeC, I.pin, I.hok, I.len⟩
theorem SP.unwish {D : Ends} {f : Flow} {s' : Shared} (h : SP (X.wish E) pins D f s') : SP X pins D f s' := by
  cases f with
  | next => obtain ⟨σ', H', I, q⟩ := h; exact ⟨σ', H', I.unwish, q⟩
  | brk => obtain ⟨σ', H', I, q⟩ := h; exact ⟨σ', H', I.unwish, q⟩
  | cont => obtain ⟨σ', H', I, q⟩ := h; exact ⟨σ', H', I.unwish, q⟩
  | ret u => obtain ⟨v, σ', H', I, r, q⟩ := h; exact ⟨v, σ', H', I.unwish, r, q⟩
theorem PE.nox {e : Expr} {t : TE} (h : PE X.nox e t) : PE X e t := fun pins s σ H Q I hw =>
  wpAny_mono (h pins s σ H Q (I.wish _) hw) (fun _ _ ⟨v, H', I', r, q⟩ => ⟨v, H', I'.unwish, r, q⟩) fun _ _ z => False.elim z
theorem PT.nox {e : Expr} {t : TT} (h : PT X.nox e t) : PT X e t := fun pins s σ H Q I hw =>
  wpAny_mono (h pins s σ H Q (I.wish _) hw) (fun _ _ ⟨H', I', q⟩ => ⟨H', I'.unwish, q⟩) fun _ _ z => False.elim z
theorem PSs.nox {st : List Stmt} {t : TS} (h : PSs X.nox st t) : PSs X st t := fun pins s σ H D I hw =>
  wpAny_mono (h pins s σ H D (I.wish _) hw) (fun _ _ q => q.unwish) fun _ _ z => False.elim z
end
section
variable {X : Cx} {st : Stmt} {rest : List Stmt} {t u : TS} {e : Expr} {te : TE} {pos : Pos}
noncomputable def zkq : TS := fun D σ H => D.nx σ H
noncomputable def tSeq (t u : TS) : TS := fun D σ H => t { D with nx := u D } σ H
theorem zis : PSs X [] zkq := fun _ _ σ H _ I h => wpAny_execs_nil ⟨σ, H, I, h⟩
theorem zcw (h1 : PS X st t) (h2 : PSs X rest u) : PSs X (st :: rest) (tSeq t u) := by
  intro pins s σ H D I h
  refine wpAny_execs_cons (thn (h1 pins s σ H { D with nx := u D } I h) fun f s1 q => ?_)
  cases f with
  | next =>
    obtain ⟨σ', H', I', q⟩ := q
    exact h2 pins s1 σ' H' D I' q
  | ret v => exact q
  | brk => exact q
  | cont => exact q
theorem zik (h1 : PS X st t) : PSs X [st] t := by
  intro pins s σ H D I h
  refine wpAny_execs_cons (thn (h1 pins s σ H D I h) fun f s1 q => ?_)
  cases f with
  | next => exact wpAny_execs_nil q
  | ret v => exact q
  | brk => exact q
  | cont => exact q
theorem Inv.quiet {pins : List (Addr × Obj)} {σ : St} {H : Hp} {s : Shared} (I : Inv X pins σ H s) : interactive X.env = false := by simp [interactive, I.ok.kind]
noncomputable def zj7 (te : TE) : TS := fun D σ H => te σ H fun _ H1 => D.nx σ H1
theorem zh8 (he : PE X e te) (hs : swapsWith e none pos.line X.env = pure false := by rfl) : PS X (.Expr e pos) (zj7 te) := by
  intro pins s σ H D I h
  exact wpAny_Expr_any (thn (he pins s σ H _ I h) fun v s1 ⟨x, H1, I1, r1, q1⟩ => ⟨σ, H1, I1, q1⟩) I.quiet hs
noncomputable def tRet (te : TE) : TS := fun D σ H => te σ H D.rt
theorem zhe (he : PE X e te) : PS X (.Return (some e) pos) (tRet te) := by
  intro pins s σ H D I h
  exact wpAny_Return_some (thn (he pins s σ H _ I h) fun v s1 ⟨x, H1, I1, r1, q1⟩ => ⟨x, σ, H1, I1, r1, q1⟩)
noncomputable def tIfS (c : TT) (t u : TS) : TS := fun D σ H => c σ H fun b H1 => if b = true then t D σ H1 else u D σ H1
theorem zjA {c : Expr} {a b : List Stmt} {tc : TT} (hc : PT X c tc) (ha : PSs X a t) (hb : PSs X b u) : PS X (.If c a b pos) (tIfS tc t u) := by
  intro pins s σ H D I h
  refine wpAny_If (thn (hc pins s σ H _ I h) fun d s1 ⟨H1, I1, q1⟩ => ?_)
  cases d with
  | true => exact ha pins s1 σ H1 D I1 q1
  | false => exact hb pins s1 σ H1 D I1 q1
end
abbrev TG := V → St → Hp → (St → Hp → Prop) → Prop
abbrev TGs := List V → St → Hp → (St → Hp → Prop) → Prop
noncomputable def PG (X : Cx) (target : Expr) (t : TG) : Prop :=
  ∀ (pins : List (Addr × Obj)) (s : Shared) (σ : St) (H : Hp) (v : V) (u : Value) (Q : St → Hp → Prop), Inv X pins σ H s → RelV v u → t v σ H Q →
    wpAny (model X.prog X.w) X.A (assign target X.env u) (fun _ s' => ∃ σ' H', Inv X pins σ' H' s' ∧ Q σ' H') X.xe s
noncomputable def PGs (X : Cx) (ts : List Expr) (t : TGs) : Prop :=
  ∀ (pins : List (Addr × Obj)) (s : Shared) (σ : St) (H : Hp) (vs : List V) (us : List Value) (Q : St → Hp → Prop), Inv X pins σ H s → Vals vs us → t vs σ H Q →
    wpAny (model X.prog X.w) X.A (assignInOrder ((assignEach ts X.env).map (·.2)) us) (fun _ s' => ∃ σ' H', Inv X pins σ' H' s' ∧ Q σ' H') X.xe s
section
variable {X : Cx} {pos : Pos}
noncomputable def zaq (i : Nat) : TG := fun v σ H Q => Q (σ.set i (some v)) H
theorem jU {i : Nat} {x : Str} (hN : X.N.Nodup) (hi : X.N[i]? = some x) (hx : Loc X.env.scope x) (hf : X.fn x = true ∨ X.env.scope.names.lookup x = some .local := by first | exact .inl rfl | exact .inr rfl | assumption) : PG X (.Name x pos) (zaq i) := by
  intro pins s σ H v u Q I r h
  exact wpAny_assign_Name (zdh I hN hi hx r (fun s' I' => ⟨_, H, I', h⟩) hf)
noncomputable def gNil : TGs := fun vs σ H Q => vs = [] ∧ Q σ H
noncomputable def zb (t : TG) (u : TGs) : TGs := fun vs σ H Q => ∃ v r, vs = v :: r ∧ t v σ H fun σ' H' => u r σ' H' Q
theorem zhC : PGs X [] gNil := by
  intro pins s σ H vs us Q I r h
  obtain ⟨e, h⟩ := h
  subst e
  cases r
  exact assignInOrder_nil ⟨σ, H, I, h⟩
theorem zgj {e : Expr} {es : List Expr} {t : TG} {u : TGs} (h1 : PG X e t) (h2 : PGs X es u)
    (hs : (assignEach (e :: es) X.env).map (·.2) = assign e X.env :: (assignEach es X.env).map (·.2) := by rfl) : PGs X (e :: es) (zb t u) := by
  intro pins s σ H vs us Q I r h
  obtain ⟨v, vr, e1, h⟩ := h
  subst e1
  cases r with
  | cons r rr =>
    rw [hs]
    refine assignInOrder_cons (thn (h1 pins s σ H _ _ _ I r h) fun _ s1 ⟨σ1, H1, I1, q1⟩ => ?_)
    exact h2 pins s1 σ1 H1 _ _ Q I1 rr q1
noncomputable def gTup (K : PySem.W.Frag) (n : Nat) (t : TGs) : TG := fun v σ H Q => ∃ a xs, v = .ref a ∧ SqT K H a xs ∧ xs.length = n ∧ t xs σ H Q
theorem zjk {es : List Expr} {k : Nat} {t : TGs} {n : Nat} (hc : X.calm = true) (h : PGs X es t)
    (hn : (assignEach es X.env).length = n := by rfl) (hst : (assignEach es X.env).findIdx? (·.1) = none := by rfl) : PG X (.Tuple es k pos) (gTup X.K n t) := by
  intro pins s σ H v u Q I r hw
  obtain ⟨a, xs, e1, hq, hl, hw⟩ := hw
  subst e1
  cases r
  obtain ⟨its, rv, ht, hz⟩ := I.tuple hq
  refine assign_Tuple_tuple (I.ok.hd hc) ht (by simp [hn, ← hl, rv.length]) hst fun h' hx => ?_
  have I1 : Inv X pins σ H { s with heap := h' } := I.kept (t' := s.toks) fun b o e => hx b o (Nat.ne_of_lt (Heap.lt_size e)) e
  exact h pins _ σ H xs _ Q I1 (by simpa using rv) hw
noncomputable def tAsg (te : TE) (g : TG) : TS := fun D σ H => te σ H fun x H1 => g x σ H1 D.nx
theorem zbm {tg e : Expr} {te : TE} {g : TG} (he : PE X e te) (hg : PG X tg g) (hs : swapsWithSole [tg] e pos.line X.env = pure false := by rfl) (hw : swappedStores [tg] e X.env = pure none := by rfl)
    (h1 : (assignEach [tg] X.env).map (·.2) = [assign tg X.env] := by rfl) : PS X (.Assign [tg] e pos) (tAsg te g) := by
  intro pins s σ H D I h
  refine wpAny_Assign_stores (thn (he pins s σ H _ I h) fun v s1 ⟨x, H1, I1, r1, q1⟩ => ?_) hs hw
  rw [h1]
  exact thn (hg pins s1 σ H1 x v _ I1 r1 q1) fun _ s2 q => q
end
section
variable {X : Cx} {pos : Pos}
end
structure It where
  go : Nat → Hp → Prop
  yld : Nat → Hp → V → Hp → Prop
  stop : Nat → Hp → Prop
noncomputable def FpOk (X : Cx) (pins : List (Addr × Obj)) (H : Hp) (b : Addr) : Prop :=
  H b = none ∧ b ≠ X.env.locals ∧ b ∉ X.fs ∧ (b ∈ X.ex ∨ X.s₀.heap.objs.size ≤ b) ∧ (∀ x c, X.env.cells.lookup x = some c → c ≠ b) ∧ ∀ p ∈ X.pn ++ pins, p.1 ≠ b
theorem Inv.fpOk {X : Cx} {pins : List (Addr × Obj)} {σ : St} {H H' : Hp} {s : Shared} {b : Addr} (I : Inv X pins σ H s) (hb : s.heap.objs.size ≤ b) (hn : H' b = none) : FpOk X pins H' b := by
  refine ⟨hn, Nat.ne_of_gt (Nat.lt_of_lt_of_le I.lt hb), I.nofs hb, .inr (Nat.le_trans I.sz hb), fun x c e z => ?_, fun p hp z => ?_⟩
  · obtain ⟨v, q⟩ := I.cell x c e
    exact absurd (Nat.lt_of_lt_of_le q.lt (by rw [z]; exact hb)) (Nat.lt_irrefl _)
  · exact absurd (Nat.lt_of_lt_of_le (Heap.lt_size (I.pin p hp).1) (by rw [z]; exact hb)) (Nat.lt_irrefl _)
structure Turn (P : Program) (w : World) (K : PySem.W.Frag) (tg : Expr) (J : It) (fp : List Addr) (it : Addr) (tn : Nat → Heap → Prop) : Prop where
  mem : it ∈ fp
  obj : ∀ i h, tn i h → ∀ b ∈ fp, ∃ o, h.get? b = some o ∧ ∀ v, o.data ≠ .cell v
  keep : ∀ i h h', tn i h → (∀ b ∈ fp, ∀ o, h.get? b = some o → h'.get? b = some o) → tn i h'
  item : ∀ (X : Cx), X.prog = P → X.w = w → X.K = K → X.calm = true → ∀ (i : Nat) (pins : List (Addr × Obj)) (s : Shared) (σ : St) (H : Hp) (E : Value → Shared → Prop), Inv X pins σ H s → (∀ b ∈ fp, FpOk X pins H b) → tn i s.heap → J.go i H →
    wpAny (model P w) X.A (pyNext (.ref it)) (fun r s1 => ∃ u, r = some u ∧
      wpAny (model P w) X.A (letOwnedTupleGo tg (.ref it) u) (fun _ s2 => ∃ x H', Inv X pins σ H' s2 ∧ RelV x u ∧ J.yld i H x H' ∧ tn (i + 1) s2.heap ∧ ∀ b ∈ fp, H' b = none) E s1) E s
  done : ∀ (X : Cx), X.prog = P → X.w = w → X.K = K → X.calm = true → ∀ (i : Nat) (pins : List (Addr × Obj)) (s : Shared) (σ : St) (H : Hp) (E : Value → Shared → Prop), Inv X pins σ H s → (∀ b ∈ fp, FpOk X pins H b) → tn i s.heap → J.stop i H →
    wpAny (model P w) X.A (pyNext (.ref it)) (fun r s1 => r = none ∧ Inv X pins σ H s1) E s
  self : ∀ (A : Around) (i : Nat) (s : Shared) (Q : Value → Shared → Prop) (E : Value → Shared → Prop), tn i s.heap → Q (.ref it) s → wpAny (model P w) A (pyIter (.ref it)) Q E s
abbrev TI := St → Hp → (It → Hp → Prop) → Prop
noncomputable def PIE (X : Cx) (pins : List (Addr × Obj)) (σ : St) (tg : Expr) (R : It → Hp → Prop) (itv : Value) (s2 : Shared) : Prop :=
  ∃ (it : Addr) (fp : List Addr) (tn : Nat → Heap → Prop) (J : It) (H' : Hp), itv = .ref it ∧ Inv X pins σ H' s2 ∧ Turn X.prog X.w X.K tg J fp it tn ∧ tn 0 s2.heap ∧ (∀ b ∈ fp, FpOk X pins H' b) ∧ R J H'
noncomputable def PI (X : Cx) (tg iter : Expr) (wi : TI) : Prop :=
  ∀ (pins : List (Addr × Obj)) (s : Shared) (σ : St) (H : Hp) (R : It → Hp → Prop), Inv X pins σ H s → wi σ H R →
    wpAny (model X.prog X.w) X.A (eval iter X.env) (fun v s1 => wpAny (model X.prog X.w) X.A (pyIter v) (PIE X pins σ tg R) X.xe s1) X.xe s
theorem zeT {M : Model} {A : Around} {E : Value → Shared → Prop} {s : Shared} {tg : Expr} {it : Addr} {u : Value} {o : Obj} {n : String} {vs : Array Value} {Q : Unit → Shared → Prop} (ho : s.heap.get? it = some o) (hc : o.cls = .type n) (hd : o.data = .fields vs)
    (hn : ["enumerate", "zip", "dict_itemiterator", "dict_reverseitemiterator", "odict_iterator", "itertools.zip_longest", "itertools.pairwise"].contains n = false) (hQ : Q () s) : wpAny M A (letOwnedTupleGo tg (.ref it) u) Q E s := by
  unfold letOwnedTupleGo
  cases tg <;> first
    | exact wpAny_pure hQ
    | (cases u <;> first
        | exact wpAny_pure hQ
        | (refine wpAny_bind (wpAny_load ho ?_)
           rw [hc, hd]
           show wpAny M A (if (["enumerate", "zip", "dict_itemiterator", "dict_reverseitemiterator", "odict_iterator", "itertools.zip_longest", "itertools.pairwise"].contains n && vs[0]? == some (rawInt _)) = true then _ else _) Q E s
           rw [if_neg (by intro h; rw [hn, Bool.false_and] at h; cases h)]
           exact wpAny_pure hQ))
noncomputable def Itl (K : PySem.W.Frag) (a : Addr) : It :=
  ⟨fun i H => ∃ xs x, SqL K H a xs ∧ xs[i]? = some x, fun i H x H' => H' = H ∧ ∀ xs, SqL K H a xs → xs[i]? = some x, fun i H => ∃ xs, SqL K H a xs ∧ xs.length ≤ i⟩
noncomputable def Itt (K : PySem.W.Frag) (a : Addr) : It :=
  ⟨fun i H => ∃ xs x, SqT K H a xs ∧ xs[i]? = some x, fun i H x H' => H' = H ∧ ∀ xs, SqT K H a xs → xs[i]? = some x, fun i H => ∃ xs, SqT K H a xs ∧ xs.length ≤ i⟩
noncomputable def Itr (lo : Int) (n : Nat) : It := ⟨fun i _ => i < n, fun i H x H' => H' = H ∧ x = .int (lo + i), fun i _ => n ≤ i⟩
theorem zfU {P : Program} {w : World} {K : PySem.W.Frag} {tg : Expr} (a it : Addr) : Turn P w K tg (Itl K a) [it] it (fun i h => h.IsListIter it a i) where
  mem := by simp
  obj := fun i h st b hb => by
    have e : b = it := by simpa using hb
    subst e
    obtain ⟨o, e, c, d⟩ := st
    exact ⟨o, e, fun v z => by rw [d] at z; cases z⟩
  keep := fun i h h' st k => st.at fun o e => k it (by simp) o e
  item := by
    intro X hP hw hK hc i pins s σ H E I hf st hg
    subst hP hw hK
    obtain ⟨xs, x, hq, hx⟩ := hg
    obtain ⟨its, rv, p, hz⟩ := I.list hq
    obtain ⟨u, hu, ru⟩ := rv.get hx
    obtain ⟨f0, f1, f2, f3, f4, f5⟩ := hf it (by simp)
    refine wpAny_pyNext_list_item st p.isList (x := u) (by simpa using hu) fun h' st' sb => ?_
    have I1 : Inv X pins σ H { s with heap := h' } := I.turned (t' := s.toks) (fun b o hb e => (sb.2 b hb).trans e) f0 f1 f3 f4 f5
    obtain ⟨o, e, c, d⟩ := id st'
    exact ⟨u, rfl, zeT (s := { s with heap := h' }) e c d (by decide) ⟨x, H, I1, ru, ⟨rfl, fun ys hy => by rw [I.list_inj hy hq]; exact hx⟩, st', fun b hb => (hf b hb).1⟩⟩
  done := by
    intro X hP hw hK hc i pins s σ H E I hf st hg
    subst hP hw hK
    obtain ⟨xs, hq, hx⟩ := hg
    obtain ⟨its, rv, p, hz⟩ := I.list hq
    obtain ⟨f0, f1, f2, f3, f4, f5⟩ := hf it (by simp)
    have hl := rv.length
    exact wpAny_pyNext_list_end (I.ok.hd hc) st p.isList (by simp; omega) fun h' eb => ⟨rfl, I.turned (t' := s.toks) (fun b o hb e => eb b o hb e) f0 f1 f3 f4 f5⟩
  self := fun _ _ _ _ _ st h => wpAny_pyIter_listiter st h
theorem zdH {P : Program} {w : World} {K : PySem.W.Frag} {tg : Expr} (a it : Addr) : Turn P w K tg (Itt K a) [it] it (fun i h => h.IsTupleIter it a i) where
  mem := by simp
  obj := fun i h st b hb => by
    have e : b = it := by simpa using hb
    subst e
    obtain ⟨o, e, c, d⟩ := st
    exact ⟨o, e, fun v z => by rw [d] at z; cases z⟩
  keep := fun i h h' st k => st.at fun o e => k it (by simp) o e
  item := by
    intro X hP hw hK hc i pins s σ H E I hf st hg
    subst hP hw hK
    obtain ⟨xs, x, hq, hx⟩ := hg
    obtain ⟨its, rv, p, hz⟩ := I.tuple hq
    obtain ⟨u, hu, ru⟩ := rv.get hx
    obtain ⟨f0, f1, f2, f3, f4, f5⟩ := hf it (by simp)
    refine wpAny_pyNext_tuple_item st (show s.heap.IsTuple a its.toArray from p) (x := u) (by simpa using hu) fun h' st' sb => ?_
    have I1 : Inv X pins σ H { s with heap := h' } := I.turned (t' := s.toks) (fun b o hb e => (sb.2 b hb).trans e) f0 f1 f3 f4 f5
    obtain ⟨o, e, c, d⟩ := id st'
    exact ⟨u, rfl, zeT (s := { s with heap := h' }) e c d (by decide) ⟨x, H, I1, ru, ⟨rfl, fun ys hy => by rw [I.tuple_inj hy hq]; exact hx⟩, st', fun b hb => (hf b hb).1⟩⟩
  done := by
    intro X hP hw hK hc i pins s σ H E I hf st hg
    subst hP hw hK
    obtain ⟨xs, hq, hx⟩ := hg
    obtain ⟨its, rv, p, hz⟩ := I.tuple hq
    obtain ⟨f0, f1, f2, f3, f4, f5⟩ := hf it (by simp)
    have hl := rv.length
    exact wpAny_pyNext_tuple_end (I.ok.hd hc) st (show s.heap.IsTuple a its.toArray from p) (by simp; omega) fun h' eb => ⟨rfl, I.turned (t' := s.toks) (fun b o hb e => eb b o hb e) f0 f1 f3 f4 f5⟩
  self := fun _ _ _ _ _ st h => wpAny_pyIter_tupleiter st h
theorem zdF {P : Program} {w : World} {K : PySem.W.Frag} {tg : Expr} (it : Addr) (lo : Int) (n : Nat) : Turn P w K tg (Itr lo n) [it] it (fun i h => IsRangeIter h it (lo + (i : Nat) * 1) ((n : Int) - (i : Nat)) 1) where
  mem := by simp
  obj := fun i h st b hb => by
    have e : b = it := by simpa using hb
    subst e
    exact ⟨_, st, fun v z => by
      have z' : Data.fields _ = Data.cell v := z
      cases z'⟩
  keep := fun i h h' st k => k it (by simp) _ st
  item := by
    intro X hP hw hK hc i pins s σ H E I hf st hg
    subst hP hw hK
    obtain ⟨f0, f1, f2, f3, f4, f5⟩ := hf it (by simp)
    have W := Walks.range (prog := X.prog) (w := X.w) (I.ok.hd hc) it lo 1 n
    refine W.item i s _ _ hg st fun v h' tk hv st' kk => ?_
    obtain ⟨t, rfl⟩ := hv
    have I1 : Inv X pins σ H { s with heap := h', toks := tk } := I.turned (fun b o hb e => kk b o (by simpa using hb) e) f0 f1 f3 f4 f5
    refine ⟨_, rfl, zeT (s := { s with heap := h', toks := tk }) (n := "range_iterator") st' rfl rfl (by decide) ⟨.int (lo + i), H, I1, ⟨t, ?_⟩, ⟨rfl, rfl⟩, st', fun b hb => (hf b hb).1⟩⟩
    rw [Int.mul_one]
  done := by
    intro X hP hw hK hc i pins s σ H E I hf st hg
    subst hP hw hK
    obtain ⟨f0, f1, f2, f3, f4, f5⟩ := hf it (by simp)
    exact wpAny_pyNext_range_end (I.ok.hd hc) st (by have : n ≤ i := hg; omega) fun h' eb => ⟨rfl, I.turned (t' := s.toks) (fun b o hb e => eb b o hb e) f0 f1 f3 f4 f5⟩
  self := fun _ _ _ _ _ st h => wpAny_pyIter_rangeiter st h
end L2
namespace L2
open PySem PySem.Spec PyProof.Rows
section
variable {X : Cx} {tg : Expr}
theorem zcB {pins : List (Addr × Obj)} {σ : St} {H : Hp} {s : Shared} {R : It → Hp → Prop} {E : Value → Shared → Prop} {lo hi : Int} {t u v : Tok} {tk : Nat} (I : Inv X pins σ H s) (h1 : -(2 ^ 62) ≤ lo) (h2 : lo < 2 ^ 62) (h3 : -(2 ^ 62) ≤ hi) (h4 : hi < 2 ^ 62)
    (q : R (Itr lo (hi - lo).toNat) H) : wpAny (model X.prog X.w) X.A (pyIter (.ref s.heap.objs.size)) (PIE X pins σ tg R) E { s with heap := s.heap.push { cls := .type "range", data := .fields #[.int lo t, .int hi u, .int 1 v] }, toks := tk } := by
  refine wpAny_pyIter_range (IsRange.new ..) (small_one h1 h2 h3 h4) ?_
  have I1 : Inv X pins σ H { s with heap := s.heap.push { cls := .type "range", data := .fields #[.int lo t, .int hi u, .int 1 v] }, toks := tk } := I.kept fun b o e => Heap.get?_push_of_some _ e
  refine ⟨(s.heap.push { cls := .type "range", data := .fields #[.int lo t, .int hi u, .int 1 v] }).objs.size, [(s.heap.push { cls := .type "range", data := .fields #[.int lo t, .int hi u, .int 1 v] }).objs.size], _, _, H, rfl,
    I1.kept (t' := tk) fun b o e => Heap.get?_push_of_some _ e, zdF _ lo (hi - lo).toNat, ?_, fun b hb => ?_, q⟩
  · have e1 : lo + ((0 : Nat) : Int) * 1 = lo := by simp
    have e2 : (((hi - lo).toNat : Nat) : Int) - ((0 : Nat) : Int) = Builtin.Range.rangeSize lo hi 1 := by rw [rangeSize_one]; split <;> omega
    show IsRangeIter _ _ (lo + ((0 : Nat) : Int) * 1) ((((hi - lo).toNat : Nat) : Int) - ((0 : Nat) : Int)) 1
    rw [e1, e2]
    exact Heap.get?_push_size _ rfl
  · have e : b = (s.heap.push { cls := .type "range", data := .fields #[.int lo t, .int hi u, .int 1 v] }).objs.size := by simpa using hb
    subst e
    exact I1.fpOk (Nat.le_refl _) (I1.hok.fresh (Nat.le_refl _))
noncomputable def zkb (ta : TA) : TI := fun σ H R => ta σ H fun vs H1 => ∃ j : Int, vs = [.int j] ∧ -(2 ^ 62) ≤ j ∧ j < 2 ^ 62 ∧ R (Itr 0 j.toNat) H1
noncomputable def zks (ta : TA) : TI := fun σ H R => ta σ H fun vs H1 => ∃ i j : Int, vs = [.int i, .int j] ∧ (-(2 ^ 62) ≤ i ∧ i < 2 ^ 62 ∧ -(2 ^ 62) ≤ j ∧ j < 2 ^ 62) ∧ R (Itr i (j - i).toNat) H1
theorem zdU {a : Expr} {ta : TA} {p pos : Pos} (hg : Gl X "range") (hm : X.mg "range" = none) (ha : PA X [a] ta) (hs : starEach [a] X.env = [(false, eval a X.env)] := by rfl) : PI X tg (.Call (.Name "range" p) [a] [] pos) (zkb ta) := by
  intro pins s σ H R I h
  refine Call_ (vE I hg hm boot_range (PyProof.Rows.callWith_type1 (thn (ha pos pins s σ H _ I h) fun us s1 ⟨vs, H1, I1, r1, q1⟩ => ?_) hs rfl))
  obtain ⟨j, e, q1, q2, q⟩ := q1
  subst e
  cases r1 with
  | cons r rr =>
    cases rr
    obtain ⟨t, rfl⟩ := r
    exact call_range_1 (zcB I1 (by omega) (by omega) q1 q2 (by simpa using q))
theorem zei {a b : Expr} {ta : TA} {p pos : Pos} (hg : Gl X "range") (hm : X.mg "range" = none) (ha : PA X [a, b] ta) (hs : starEach [a, b] X.env = [(false, eval a X.env), (false, eval b X.env)] := by rfl) (hs2 : starEach [b] X.env = [(false, eval b X.env)] := by rfl) :
    PI X tg (.Call (.Name "range" p) [a, b] [] pos) (zks ta) := by
  intro pins s σ H R I h
  refine Call_ (vE I hg hm boot_range (PyProof.Rows.callWith_type1 (thn (ha pos pins s σ H _ I h) fun us s1 ⟨vs, H1, I1, r1, q1⟩ => ?_) (by rw [hs, hs2]) (by rw [hs2]; rfl)))
  obtain ⟨i, j, e, ⟨q1, q2, q3, q4⟩, q⟩ := q1
  subst e
  cases r1 with
  | cons r rr =>
    cases rr with
    | cons r' rr =>
      cases rr
      obtain ⟨t, rfl⟩ := r
      obtain ⟨t', rfl⟩ := r'
      exact call_range_2 (zcB I1 q1 q2 q3 q4 q)
noncomputable def tFor (wi : TI) (g : TG) (tb : TS) : TS := fun D σ H => wi σ H fun J H1 => ∃ W : Nat → Nat → St → Hp → Prop, (∃ m, W 0 m σ H1) ∧ ∀ i m σ H, W i m σ H →
  (J.stop i H ∧ D.nx σ H) ∨ (J.go i H ∧ ∃ N : St → Hp → Prop, (∀ σ' H', N σ' H' → ∃ m', m' < m ∧ W (i + 1) m' σ' H') ∧ ∀ x H', J.yld i H x H' → g x σ H' fun σ2 H2 => tb { D with nx := N, ct := N, bk := D.nx } σ2 H2)
noncomputable def zab (fp : List Addr) (h : Heap) : List (Addr × Obj) := fp.filterMap fun b => (h.get? b).map fun o => (b, o)
theorem qG {fp : List Addr} {h : Heap} {b : Addr} {o : Obj} (hb : b ∈ fp) (e : h.get? b = some o) : (b, o) ∈ zab fp h := List.mem_filterMap.mpr ⟨b, hb, by rw [e]; rfl⟩
theorem zfz {fp : List Addr} {h : Heap} {p : Addr × Obj} (hp : p ∈ zab fp h) : p.1 ∈ fp ∧ h.get? p.1 = some p.2 := by
  obtain ⟨b, hb, e⟩ := List.mem_filterMap.mp hp
  cases q : h.get? b with
  | none => rw [q] at e; cases e
  | some o =>
    rw [q] at e
    have e' : (b, o) = p := Option.some.inj e
    subst e'
    exact ⟨hb, q⟩
theorem Inv.pinned {pins : List (Addr × Obj)} {σ : St} {H : Hp} {s : Shared} {fp : List Addr} (I : Inv X pins σ H s) (hf : ∀ b ∈ fp, FpOk X pins H b) (ho : ∀ b ∈ fp, ∃ o, s.heap.get? b = some o ∧ ∀ v, o.data ≠ .cell v) : Inv X (pins ++ zab fp s.heap) σ H s :=
  I.pins_of fun p hp => (List.mem_append.mp hp).elim (fun z => I.pin p (List.mem_append_right _ z)) fun z => by
    obtain ⟨hb, e⟩ := zfz z
    obtain ⟨f0, f1, f2, _⟩ := hf p.1 hb
    obtain ⟨o, e', d⟩ := ho p.1 hb
    rw [e] at e'; cases e'
    exact ⟨e, f0, f1, f2, d⟩
theorem Inv.unpinned {pins pl : List (Addr × Obj)} {σ : St} {H : Hp} {s : Shared} (I : Inv X (pins ++ pl) σ H s) : Inv X pins σ H s := I.pins_of fun p hp => I.pin p (List.mem_append_right _ (List.mem_append_left _ hp))
theorem zi0 {iter : Expr} {body : List Stmt} {wi : TI} {g : TG} {tb : TS} {pos : Pos} (hp : PassesOwn (model X.prog X.w) X.A X.env X.xe) (hc : X.calm = true) (hi : PI X tg iter wi) (hg : PG X tg g) (hb : PSs X body tb)
    (hs : ∀ x, foldedSetIterable iter X.env x = pure x := by intro _; rfl) : PS X (.For tg iter body [] pos) (tFor wi g tb) := by
  intro pins s σ H D I h
  refine wpAny_For (thn (hi pins s σ H _ I h) fun v s1 h1 => thn h1 fun itv s2 h2 => ?_) hs
  obtain ⟨it, fp, tn, J, H2, e, I2, T, st2, f2, W, ⟨m0, w0⟩, turn⟩ := h2
  subst e
  -- what stays true of the iterator's objects through the loop
  have stat : ∀ {H' : Hp}, (∀ b ∈ fp, H' b = none) → ∀ b ∈ fp, FpOk X pins H' b := fun hn b hb => ⟨hn b hb, (f2 b hb).2⟩
  refine codeAny_forLoop_any (fun n s' => ∃ i σ' H', Inv X pins σ' H' s' ∧ tn i s'.heap ∧ (∀ b ∈ fp, H' b = none) ∧ W i n σ' H') ?_ m0 ⟨0, σ, H2, I2, st2, fun b hb => (f2 b hb).1, w0⟩
  rintro n s3 ⟨i, σ3, H3, I3, st3, fr3, w3⟩
  rcases turn i n σ3 H3 w3 with ⟨stop, qn⟩ | ⟨go, N, hN, step⟩
  · refine wpAny_passesOwn hp (thn (T.done X rfl rfl rfl hc i pins s3 σ3 H3 X.xe I3 (stat fr3) st3 stop) fun r s4 ⟨hr, I4⟩ => ?_)
    subst hr
    exact wpAny_execs_nil ⟨σ3, H3, I4, qn⟩
  · refine wpAny_passesOwn hp (thn (T.item X rfl rfl rfl hc i pins s3 σ3 H3 X.xe I3 (stat fr3) st3 go) fun r s4 ⟨u, hr, h4⟩ => ?_)
    subst hr
    refine wpAny_passesOwn hp (thn h4 fun _ s5 ⟨x, H5, I5, r5, y5, st5, fr5⟩ => ?_)
    have I5' := I5.pinned (stat fr5) (T.obj _ _ st5)
    refine wpAny_passesOwn hp (thn (hg _ s5 σ3 H5 x u _ I5' r5 (step x H5 y5)) fun _ s6 ⟨σ6, H6, I6, q6⟩ => ?_)
    refine wpAny_passesOwn hp (thn (hb _ s6 σ6 H6 _ I6 q6) fun f s7 q7 => ?_)
    have again : ∀ {σ7 : St} {H7 : Hp}, Inv X (pins ++ zab fp s5.heap) σ7 H7 s7 → N σ7 H7 → ∃ m, m < n ∧ ∃ i σ' H', Inv X pins σ' H' s7 ∧ tn i s7.heap ∧ (∀ b ∈ fp, H' b = none) ∧ W i m σ' H' := fun {σ7 H7} I7 n7 => by
      obtain ⟨m', hm, w7⟩ := hN σ7 H7 n7
      refine ⟨m', hm, i + 1, σ7, H7, I7.unpinned, T.keep _ _ _ st5 fun b hb o e => (I7.pin (b, o) (List.mem_append_right _ (List.mem_append_right _ (qG hb e)))).1, fun b hb => ?_, w7⟩
      obtain ⟨o, e, d⟩ := T.obj _ _ st5 b hb
      exact (I7.pin (b, o) (List.mem_append_right _ (List.mem_append_right _ (qG hb e)))).2.1
    cases f with
    | next => obtain ⟨σ7, H7, I7, n7⟩ := q7; exact again I7 n7
    | cont => obtain ⟨σ7, H7, I7, n7⟩ := q7; exact again I7 n7
    | brk => obtain ⟨σ7, H7, I7, q7⟩ := q7; exact ⟨σ7, H7, I7.unpinned, q7⟩
    | ret v => obtain ⟨x7, σ7, H7, I7, r7, q7⟩ := q7; exact ⟨x7, σ7, H7, I7.unpinned, r7, q7⟩
end
end L2
namespace L2
open PySem PySem.Spec PyProof.Rows
abbrev R2 := V → V → Hp → VK → Prop
noncomputable def OpR (X : Cx) (f : Value → Value → Sem Value) (r : R2) : Prop :=
  ∀ (pins : List (Addr × Obj)) (s : Shared) (σ : St) (H : Hp) (x y : V) (v u : Value) (Q : VK), Inv X pins σ H s → RelV x v → RelV y u → r x y H Q →
    wpAny (model X.prog X.w) X.A (f v u) (EP X pins σ Q) X.xe s
noncomputable def UnR (X : Cx) (f : Value → Sem Value) (r : V → Hp → VK → Prop) : Prop :=
  ∀ (pins : List (Addr × Obj)) (s : Shared) (σ : St) (H : Hp) (x : V) (v : Value) (Q : VK), Inv X pins σ H s → RelV x v → r x H Q →
    wpAny (model X.prog X.w) X.A (f v) (EP X pins σ Q) X.xe s
noncomputable def xA (X : Cx) (f : Value) (r : List V → Hp → VK → Prop) : Prop :=
  ∀ (pins : List (Addr × Obj)) (s : Shared) (σ : St) (H : Hp) (xs : List V) (us : List Value) (Q : VK), Inv X pins σ H s → Vals xs us → r xs H Q →
    wpAny (model X.prog X.w) X.A (call f us) (EP X pins σ Q) X.xe s
noncomputable def TruR (X : Cx) (r : V → Hp → (Bool → Hp → Prop) → Prop) : Prop :=
  ∀ (pins : List (Addr × Obj)) (s : Shared) (σ : St) (H : Hp) (x : V) (v : Value) (Q : Bool → Hp → Prop), Inv X pins σ H s → RelV x v → r x H Q →
    wpAny (model X.prog X.w) X.A (truthy v) (TP X pins σ Q) X.xe s
noncomputable def tOp (r : R2) (ta tb : TE) : TE := fun σ H Q => ta σ H fun x H1 => tb σ H1 fun y H2 => r x y H2 Q
noncomputable def rI (C : Int → Int → Prop) (g : Int → Int → V) : R2 := fun x y H Q => ∃ i j, x = .int i ∧ y = .int j ∧ C i j ∧ Q (g i j) H
noncomputable def rI0 (g : Int → Int → V) : R2 := fun x y H Q => ∃ i j, x = .int i ∧ y = .int j ∧ Q (g i j) H
section
variable {X : Cx} {a b c : Expr} {ta tb tc : TE} {pos : Pos}
theorem binT (ha : PE X a ta) (hb : PE X b tb) {pins : List (Addr × Obj)} {s : Shared} {σ : St} {H : Hp} {R : V → V → Hp → Prop} (I : Inv X pins σ H s)
    (h : ta σ H fun x H1 => tb σ H1 fun y H2 => R x y H2) {Q : Value → Shared → Prop} {f : Value → Value → Sem Value}
    (hf : ∀ v u s2 x y H2, Inv X pins σ H2 s2 → RelV x v → RelV y u → R x y H2 → wpAny (model X.prog X.w) X.A (f v u) Q X.xe s2) :
    wpAny (model X.prog X.w) X.A (eval a X.env) (fun v s₁ => wpAny (model X.prog X.w) X.A (eval b X.env) (fun u s₂ => wpAny (model X.prog X.w) X.A (f v u) Q X.xe s₂) X.xe s₁) X.xe s := by
  refine thn (ha pins s σ H _ I h) fun v s1 ⟨x, H1, I1, r1, q1⟩ => ?_
  refine thn (hb pins s1 σ H1 _ I1 q1) fun u s2 ⟨y, H2, I2, r2, q2⟩ => ?_
  exact hf v u s2 x y H2 I2 r1 r2 q2
theorem zj5 {op : Operator} {r : R2} (ho : OpR X (binaryOp op) r) (ha : PE X a ta) (hb : PE X b tb) : PE X (.BinOp a op b pos) (tOp r ta tb) := by
  intro pins s σ H Q I h
  exact wpAny_BinOp (binT ha hb I h fun v u s2 x y H2 I2 rx ry q => ho pins s2 σ H2 x y v u Q I2 rx ry q)
theorem opI {f : Value → Value → Sem Value} {C : Int → Int → Prop} {g : Int → Int → Int}
    (rule : ∀ (i j : Int) (t u : Tok) (s : Shared) (Q : Value → Shared → Prop) (E : Value → Shared → Prop), C i j → Q (.int (g i j) s.toks) { s with toks := s.toks + 1 } → wpAny (model X.prog X.w) X.A (f (.int i t) (.int j u)) Q E s) :
    OpR X f (rI C fun i j => .int (g i j)) := by
  intro pins s σ H x y v u Q I rx ry h
  obtain ⟨i, j, rfl, rfl, hc, q⟩ := h
  obtain ⟨t, rfl⟩ := rx
  obtain ⟨t', rfl⟩ := ry
  exact rule i j t t' s _ _ hc ⟨.int (g i j), H, I.tok _, ⟨_, rfl⟩, q⟩
theorem opI0 {f : Value → Value → Sem Value} {g : Int → Int → Int}
    (rule : ∀ (i j : Int) (t u : Tok) (s : Shared) (Q : Value → Shared → Prop) (E : Value → Shared → Prop), Q (.int (g i j) s.toks) { s with toks := s.toks + 1 } → wpAny (model X.prog X.w) X.A (f (.int i t) (.int j u)) Q E s) :
    OpR X f (rI0 fun i j => .int (g i j)) := by
  intro pins s σ H x y v u Q I rx ry h
  obtain ⟨i, j, rfl, rfl, q⟩ := h
  obtain ⟨t, rfl⟩ := rx
  obtain ⟨t', rfl⟩ := ry
  exact rule i j t t' s _ _ ⟨.int (g i j), H, I.tok _, ⟨_, rfl⟩, q⟩
theorem opB0 {f : Value → Value → Sem Value} {g : Int → Int → Bool}
    (rule : ∀ (i j : Int) (t u : Tok) (s : Shared) (Q : Value → Shared → Prop) (E : Value → Shared → Prop), Q (.bool (g i j)) s → wpAny (model X.prog X.w) X.A (f (.int i t) (.int j u)) Q E s) :
    OpR X f (rI0 fun i j => .bl (g i j)) := by
  intro pins s σ H x y v u Q I rx ry h
  obtain ⟨i, j, rfl, rfl, q⟩ := h
  obtain ⟨t, rfl⟩ := rx
  obtain ⟨t', rfl⟩ := ry
  exact rule i j t t' s _ _ ⟨.bl (g i j), H, I, rfl, q⟩
noncomputable def CDiv (i j : Int) : Prop := 0 < j ∧ j < 1073741824
theorem CMul.ok {i j : Int} (h : CMul i j) : IntMulOk i j := by
  rcases h with ⟨h1, h2⟩ | ⟨h1, h2⟩
  · exact .of_left (intBits_le_64 h1 h2)
  · exact .of_right (intBits_le_64 h1 h2)
theorem zjB : OpR X (binaryOp .Add) (rI0 fun i j => .int (i + j)) := opI0 fun _ _ _ _ _ _ _ q => add_int q
theorem zj1 : OpR X (binaryOp .Sub) (rI0 fun i j => .int (i - j)) := opI0 fun _ _ _ _ _ _ _ q => sub_int q
theorem zjT : OpR X (binaryOp .Mult) (rI CMul fun i j => .int (i * j)) := opI fun _ _ _ _ _ _ _ hc q => mul_int q hc.ok
theorem ziB : OpR X (binaryOp .FloorDiv) (rI CDiv fun i j => .int (i / j)) := opI fun i j _ _ _ _ _ hc q => by
  have h1 : (0 : Int) < j := hc.1
  have h2 : j < 1073741824 := hc.2
  exact floordiv_int (by omega) (by rw [Int.fdiv_eq_ediv_of_nonneg i (by omega)]; exact q) (.inl (PyProof.noPylong_small (by omega)))
theorem zjc : OpR X (binaryOp .Mod) (rI (fun _ j => 0 < j) fun i j => .int (i % j)) := opI fun i j _ _ _ _ _ hc q => by
  have h1 : (0 : Int) < j := hc
  exact mod_int' (by omega) (by rw [Int.fmod_eq_emod_of_nonneg i (by omega)]; exact q)
end
section
variable {X : Cx} {a b c : Expr} {ta tb tc : TE} {pos : Pos}
theorem zjK {pins : List (Addr × Obj)} {σ : St} {H : Hp} {s : Shared} {Q : VK} {k k' : Bool} (I : Inv X pins σ H s) (q : Q (.bl k) H) (e : k = k') : EP X pins σ Q (.bool k') s := by
  subst e
  exact ⟨.bl k, H, I, rfl, q⟩
theorem zkh : OpR X (compareOp .Lt) (rI0 fun i j => .bl (decide (i < j))) := opB0 fun _ _ _ _ _ _ _ q => lt_int q
theorem zki : OpR X (compareOp .LtE) (rI0 fun i j => .bl (decide (i ≤ j))) := opB0 fun _ _ _ _ _ _ _ q => le_int q
theorem zkv : OpR X (compareOp .GtE) (rI0 fun i j => .bl (decide (j ≤ i))) := opB0 fun _ _ _ _ _ _ _ q => ge_int q
theorem zjz : OpR X (compareOp .Is) (fun x y H Q => y = .non ∧ Q (.bl (decide (x = .non))) H) := by
  intro pins s σ H x y v u Q I rx ry h
  obtain ⟨rfl, q⟩ := h
  cases ry
  refine is_none_gen (zjK I q ?_)
  cases x <;> first
    | (cases rx; rfl)
    | (obtain ⟨t, rfl⟩ := rx; rfl)
theorem OpR.or {f : Value → Value → Sem Value} {r r' : R2} (h : OpR X f r) (h' : OpR X f r') : OpR X f (fun x y H Q => r x y H Q ∨ r' x y H Q) := by
  intro pins s σ H x y v u Q I rx ry q
  rcases q with q | q
  · exact h pins s σ H x y v u Q I rx ry q
  · exact h' pins s σ H x y v u Q I rx ry q
theorem jk (b : Expr) {op : CmpOp} (h : op ≠ .In := by decide) (h2 : op ≠ .NotIn := by decide) : behindInMarks op b = false := by
  have e1 : (op == CmpOp.In) = false := by cases op <;> first | rfl | exact absurd rfl h
  have e2 : (op == CmpOp.NotIn) = false := by cases op <;> first | rfl | exact absurd rfl h2
  cases b <;> simp [behindInMarks, e1, e2]
theorem zhO {op : CmpOp} {r : R2} (ho : OpR X (compareOp op) r) (ha : PE X a ta) (hb : PE X b tb) (hm : behindInMarks op b = false) : PE X (.Compare a [op] [b] pos) (tOp r ta tb) := by
  intro pins s σ H Q I h
  exact wpAny_Compare1 (binT ha hb I h fun v u s2 x y H2 I2 rx ry q => ho pins s2 σ H2 x y v u Q I2 rx ry q) hm
noncomputable def zj8 (t : TE) : TT := fun σ H Q => t σ H fun x H' => ∃ k, x = .bl k ∧ Q k H'
theorem ziL {op : CmpOp} {r : R2} (ho : OpR X (compareOp op) r) (ha : PE X a ta) (hb : PE X b tb) (hm : behindInMarks op b = false) : PT X (.Compare a [op] [b] pos) (zj8 (tOp r ta tb)) := by
  intro pins s σ H Q I h
  refine wpAny_isTrue_Compare1 (thn (ha pins s σ H _ I h) fun v s1 ⟨x, H1, I1, r1, q1⟩ => thn (hb pins s1 σ H1 _ I1 q1) fun u s2 ⟨y, H2, I2, r2, q2⟩ =>
    thn (ho pins s2 σ H2 x y v u _ I2 r1 r2 q2) fun c s3 ⟨z, H3, I3, r3, k, e, q3⟩ => ?_) hm
  subst e
  cases r3
  exact wpAny_truthy_bool ⟨H3, I3, q3⟩
noncomputable def zhg (r r' : R2) (ta tb tc : TE) : TE := fun σ H Q => ta σ H fun x H1 => tb σ H1 fun y H2 => r x y H2 fun z H3 => ∃ k, z = .bl k ∧
  (if k = true then tc σ H3 fun w' H4 => r' y w' H4 Q else Q (.bl false) H3)
theorem zge {op op' : CmpOp} {r r' : R2} (ho : OpR X (compareOp op) r) (ho' : OpR X (compareOp op') r') (ha : PE X a ta) (hb : PE X b tb) (hc : PE X c tc)
    (hm : lastMarks [op, op'] [b, c] = false := by with_unfolding_all rfl) : PE X (.Compare a [op, op'] [b, c] pos) (zhg r r' ta tb tc) := by
  intro pins s σ H Q I h
  refine Compare_chain (thn (ha pins s σ H _ I h) fun v s1 ⟨x, H1, I1, r1, q1⟩ => chain_link (thn (hb pins s1 σ H1 _ I1 q1) fun u s2 ⟨y, H2, I2, r2, q2⟩ =>
    thn (ho pins s2 σ H2 x y v u _ I2 r1 r2 q2) fun d s3 ⟨z, H3, I3, r3, k, e, q3⟩ => ?_)) hm
  subst e
  cases r3
  refine wpAny_truthy_bool ?_
  cases k with
  | false => exact ite_ff ⟨.bl false, H3, I3, rfl, q3⟩
  | true => exact ite_tt (chain_last (thn (hc pins s3 σ H3 _ I3 q3) fun w' s4 ⟨z', H4, I4, r4, q4⟩ => ho' pins s4 σ H4 y z' u w' Q I4 r2 r4 q4))
noncomputable def TruV (K : PySem.W.Frag) (x : V) (H : Hp) (k : Bool) : Prop :=
  match x with
  | .non => k = false
  | .bl b => k = b
  | .int i => k = (i != 0)
  | .str y => y.length ≤ sizeLine ∧ k = ((y.length : Int) != 0)
  | .byt y => y.size ≤ sizeLine ∧ k = ((y.size : Int) != 0)
  | .ref p => (∃ xs, SqL K H p xs ∧ k = !xs.isEmpty) ∨ (∃ xs, SqT K H p xs ∧ k = !xs.isEmpty) ∨ ∃ kvs, H p = some (.dK kvs) ∧ k = !kvs.isEmpty
  | _ => False
theorem zds {κ : Type} {kvs : List (κ × V)} {vs : List (κ × Value)} (r : KV kvs vs) : (!vs.isEmpty) = !kvs.isEmpty := by
  cases r <;> rfl
theorem zac {xs : List V} {its : List Value} (r : Vals xs its) : (!its.toArray.isEmpty) = !xs.isEmpty := by
  cases r <;> simp
theorem kL : (sizeLine : Nat) < 2 ^ 63 := by rw [sizeLine_eq]; decide
theorem zjw : TruR X (fun x H Q => ∃ k, TruV X.K x H k ∧ Q k H) := by
  intro pins s σ H x v Q I rx h
  obtain ⟨k, e, q⟩ := h
  have hl := kL
  have hs : sizeLine = 16777216 := sizeLine_eq
  cases x with
  | non =>
    cases rx
    have e' : k = false := e
    subst e'
    exact truthy_none ⟨H, I, q⟩
  | bl b =>
    cases rx
    have e' : k = b := e
    subst e'
    exact wpAny_truthy_bool ⟨H, I, q⟩
  | int i =>
    obtain ⟨t, rfl⟩ := rx
    have e' : k = (i != 0) := e
    subst e'
    exact PySem.P.truthy_int ⟨H, I, q⟩
  | str y =>
    obtain ⟨t, rfl⟩ := rx
    obtain ⟨hy, e'⟩ : y.length ≤ sizeLine ∧ k = ((y.length : Int) != 0) := e
    subst e'
    exact PySem.P.truthy_str (by omega) ⟨H, I.tok _, q⟩
  | byt y =>
    obtain ⟨t, rfl⟩ := rx
    obtain ⟨hy, e'⟩ : y.size ≤ sizeLine ∧ k = ((y.size : Int) != 0) := e
    subst e'
    exact PySem.W.truthy_bytes (by omega) ⟨H, I.tok _, q⟩
  | ref p =>
    cases rx
    have e' : (∃ xs, SqL X.K H p xs ∧ k = !xs.isEmpty) ∨ (∃ xs, SqT X.K H p xs ∧ k = !xs.isEmpty) ∨ ∃ kvs, H p = some (.dK kvs) ∧ k = !kvs.isEmpty := e
    rcases e' with ⟨xs, hx, e'⟩ | ⟨xs, hx, e'⟩ | ⟨kvs, hx, e'⟩
    · subst e'
      obtain ⟨its, r, pl, hz⟩ := I.list hx
      have hlen := r.length
      exact wpAny_truthy_list pl.isList (by simp only [List.size_toArray]; omega) ⟨H, I.tok _, by rw [zac r]; exact q⟩
    · subst e'
      obtain ⟨its, r, pl, hz⟩ := I.tuple hx
      have hlen := r.length
      exact truthy_tuple pl (by simp only [List.size_toArray]; omega) ⟨H, I.tok _, by rw [zac r]; exact q⟩
    · subst e'
      obtain ⟨hz, hS, vs, r, m⟩ : kvs.length ≤ sizeLine ∧ (p == sysModules) = false ∧ ∃ vs, KV kvs vs ∧ s.heap.DictOf (jD X.prog X.w) p vs := I.hok p _ hx
      have hlen : kvs.length = vs.length := Paired.length r
      exact wpAny_truthy_dict hS m (by omega) ⟨H, I.tok _, by rw [zds r]; exact q⟩
  | _ => exact (show False from e).elim
theorem zgH (ha : PE X a ta) (he : ∀ whole, isTrue a X.env whole = (do let v ← whole; standAt a.pos; holding [v] (truthy v))) :
    PT X a (fun σ H Q => ta σ H fun x H' => ∃ k, TruV X.K x H' k ∧ Q k H') := by
  intro pins s σ H Q I h
  exact isTrue_plain (thn (ha pins s σ H _ I h) fun v s1 ⟨x, H1, I1, r1, q1⟩ => zjw pins s1 σ H1 x v Q I1 r1 q1) (he _)
theorem zdQ : OpR X (binaryOp .Add) (fun x y H Q => ∃ i j, x = .str i ∧ y = .str j ∧ i.length + j.length ≤ sizeLine ∧ Q (.str (i ++ j)) H) := by
  intro pins s σ H x y v u Q I rx ry h
  obtain ⟨i, j, rfl, rfl, hz, q⟩ := h
  obtain ⟨t, rfl⟩ := rx
  obtain ⟨t', rfl⟩ := ry
  exact add_str (fun t' tk => ⟨.str (i ++ j), H, I.tok _, ⟨_, rfl⟩, q⟩) hz
theorem vals1 {x : V} {us : List Value} (r : Vals [x] us) : ∃ u, us = [u] ∧ RelV x u := by
  cases r with
  | cons r1 r2 => cases r2; exact ⟨_, rfl, r1⟩
theorem vals2 {x y : V} {us : List Value} (r : Vals [x, y] us) : ∃ u w', us = [u, w'] ∧ RelV x u ∧ RelV y w' := by
  cases r with
  | cons r1 r2 =>
    cases r2 with
    | cons r3 r4 => cases r4; exact ⟨_, _, rfl, r1, r3⟩
theorem zfy (hc : X.calm = true) : xA X (.builtin "max") (fun xs H Q => ∃ i j, xs = [.int i, .int j] ∧ Q (.int (if j > i then j else i)) H) := by
  intro pins s σ H xs us Q I r h
  obtain ⟨i, j, rfl, q⟩ := h
  obtain ⟨u, w', rfl, ⟨t, rfl⟩, ⟨t', rfl⟩⟩ := vals2 r
  refine max_two_ints (I.ok.hd hc) fun h' tk k => ⟨_, H, I.kept k, ?_, q⟩
  by_cases hj : j > i
  · rw [if_pos hj, if_pos hj]; exact ⟨_, rfl⟩
  · rw [if_neg hj, if_neg hj]; exact ⟨_, rfl⟩
theorem zfJ (hc : X.calm = true) : xA X (.builtin "min") (fun xs H Q => ∃ i j, xs = [.int i, .int j] ∧ Q (.int (if j < i then j else i)) H) := by
  intro pins s σ H xs us Q I r h
  obtain ⟨i, j, rfl, q⟩ := h
  obtain ⟨u, w', rfl, ⟨t, rfl⟩, ⟨t', rfl⟩⟩ := vals2 r
  refine min_two_ints (I.ok.hd hc) fun h' tk k => ⟨_, H, I.kept k, ?_, q⟩
  by_cases hj : j < i
  · rw [if_pos hj, if_pos hj]; exact ⟨_, rfl⟩
  · rw [if_neg hj, if_neg hj]; exact ⟨_, rfl⟩
theorem za8 : xA X (.type "int") (fun xs H Q => (∃ i, xs = [.int i] ∧ Q (.int i) H) ∨ ∃ k, xs = [.bl k] ∧ Q (.int (if k then 1 else 0)) H) := by
  intro pins s σ H xs us Q I r h
  rcases h with ⟨i, rfl, q⟩ | ⟨k, rfl, q⟩
  · obtain ⟨u, rfl, t, rfl⟩ := vals1 r
    exact call_int_int ⟨.int i, H, I, ⟨_, rfl⟩, q⟩
  · obtain ⟨u, rfl, r1⟩ := vals1 r
    cases r1
    exact call_int_bool ⟨.int (if k then 1 else 0), H, I.tok _, ⟨_, rfl⟩, q⟩
theorem zbR : xA X (.type "str") (fun xs H Q => ∃ i, xs = [.int i] ∧ i.natAbs.log2 < 1920 ∧ Q (.str (toString i)) H) := by
  intro pins s σ H xs us Q I r h
  obtain ⟨i, rfl, hz, q⟩ := h
  obtain ⟨u, rfl, t, rfl⟩ := vals1 r
  exact PySem.P.str_of_int hz ⟨.str _, H, I.tok _, ⟨_, rfl⟩, q⟩
end
end L2
namespace L2
open PySem PySem.Spec PyProof.Rows
structure ObjM (h : Heap) (x dx C : Addr) (mA : Str → Option Value) : Prop where
  obj : h.get? x = some (PySem.W.instObj C dx)
  ns : h.Ns1 dx mA
  ne : dx ≠ x
theorem zew {h : Heap} {dx : Addr} {mA : Str → Option Value} (n : h.Ns1 dx mA) : ∃ od, h.get? dx = some od ∧ ∀ name, PySem.W.lookIn name od = some (mA name) := by
  obtain ⟨o, es, ep, ho, hd, hk, _, hm⟩ := n
  refine ⟨o, ho, fun name => ?_⟩
  have e := hm name
  unfold nsFind findBy at e
  rw [← Array.find?_toList] at e
  unfold PySem.W.lookIn
  rw [hd]
  dsimp only
  split
  · rename_i y q
    rw [q] at e
    exact congrArg some e
  · rename_i q
    rw [q] at e
    have a : es.toList.any (·.refKey) = false := by
      rw [List.any_eq_false]
      intro y hy
      obtain ⟨z, t, hkey⟩ := hk y (Array.mem_toList_iff.mp hy)
      simp [DictEntry.refKey, hkey]
    have a' : ¬ es.toList.any (·.refKey) = true := by rw [a]; exact Bool.false_ne_true
    rw [if_neg a']
    exact congrArg some e
theorem ObjM.look {h : Heap} {x dx C : Addr} {mA : Str → Option Value} (I : ObjM h x dx C mA) : ∃ od, PySem.W.InstAt h x (PySem.W.instObj C dx) C (some od) ∧ ∀ name, PySem.W.lookIn name od = some (mA name) :=
  let ⟨od, ho, hl⟩ := zew I.ns
  ⟨od, ⟨I.obj, rfl, rfl, ho⟩, hl⟩
section
variable {prog : Program} {w : World} {A : Around} {E : Value → Shared → Prop} {s : Shared} {K : PySem.W.Frag} {x dx C f : Addr} {mA : Str → Option Value} {name : Str} {v : Value}
end
theorem RelO.some_of {v : V} {o : Option Value} (r : RelO (some v) o) : ∃ u, o = some u ∧ RelV v u := by
  cases o with
  | none => exact (show False from r).elim
  | some u => exact ⟨u, rfl, r⟩
section
variable {P : Program} {w : World} {H H' : Hp} {h h' : Heap} {a C dx : Addr} {fs fs' : List (Str × V)}
theorem ziI (hok : HOk P w H h) (e : H a = some (.ins C dx fs)) : ∃ mA, ObjM h a dx C mA ∧ (∀ f, RelO (fs.lookup f) (mA f)) ∧ PySem.Within mA (fs.map (·.1)) ∧ fs.length ≤ 1000 ∧ H dx = some (.own a) := by
  obtain ⟨d, z, ne, ob, mA, n, r, q⟩ := (show jL P w H h a (.ins C dx fs) from hok a _ e)
  exact ⟨mA, ⟨ob, n, ne⟩, r, q, z, d⟩
end
structure Cls (K : PySem.W.Frag) (C : Addr) : Prop where
  pg : PySem.W.plainGet K C Str.empty = true
  hd : PySem.W.hasDictIn K C = true
  po : PySem.W.plainOver K C = true
  sa : PySem.W.findIn K (.ref C) "__setattr__" = some (some (.builtin "object.__setattr__"))
theorem Cls.get {K : PySem.W.Frag} {C : Addr} (c : Cls K C) (f : Str) : PySem.W.plainGet K C f = true := c.pg
structure Con (K : PySem.W.Frag) (C : Addr) (f : Str) (v : V) (u : Value) : Prop where
  at_ : PySem.W.findIn K (.ref C) f = some (some u)
  rel : RelV v u
  get : PySem.W.specialIn K u "__get__" = some none
  cp : PySem.W.copiedNames.contains f = false
structure Meth (K : PySem.W.Frag) (C : Addr) (m : Str) (f : Addr) : Prop where
  at_ : PySem.W.findIn K (.ref C) m = some (some (.ref f))
  fn : PySem.W.isFn K (.ref f) = true
  kp : PySem.W.keepIn K (.ref f) = true
section
variable {X : Cx} {pins : List (Addr × Obj)} {σ : St} {H : Hp} {s : Shared} {a C dx : Addr} {fs : List (Str × V)} {f : Str} {v : V} {A : Around} {E : Value → Shared → Prop}
theorem Inv.made (I : Inv X pins σ H s) : Inv X pins σ (upd (upd H s.heap.objs.size (.own (s.heap.objs.size + 1))) (s.heap.objs.size + 1) (.ins C s.heap.objs.size []))
    { s with heap := (s.heap.push PySem.W.emptyDict).push (PySem.W.instObj C s.heap.objs.size) } := by
  have e1 : (s.heap.push PySem.W.emptyDict).get? s.heap.objs.size = some PySem.W.emptyDict := Heap.get?_push_size s.heap rfl
  have e2 : ((s.heap.push PySem.W.emptyDict).push (PySem.W.instObj C s.heap.objs.size)).get? (s.heap.objs.size + 1) = some (PySem.W.instObj C s.heap.objs.size) := by
    have := Heap.get?_push_size (s.heap.push PySem.W.emptyDict) (o := PySem.W.instObj C s.heap.objs.size) rfl
    rwa [Heap.size_push] at this
  have e3 : (s.heap.push PySem.W.emptyDict).Ns s.heap.objs.size (fun _ => none) := ⟨PySem.W.emptyDict, #[], _, e1, rfl, (fun e he => absurd he (by simp)), fun _ => rfl⟩
  have I1 := I.laid (a := s.heap.objs.size) (o := .own (s.heap.objs.size + 1)) (h' := s.heap.push PySem.W.emptyDict) (t' := s.toks) (fun b u q => Heap.get?_push_of_some _ q) (Nat.le_refl _) ⟨_, e1⟩
  refine I1.laid (a := s.heap.objs.size + 1) (o := .ins C s.heap.objs.size []) (t' := s.toks) (fun b u q => Heap.get?_push_of_some _ q) (Nat.le_of_eq (Heap.size_push _ _)) ?_
  have ne : s.heap.objs.size ≠ s.heap.objs.size + 1 := Nat.ne_of_lt (Nat.lt_succ_self _)
  refine ⟨by rw [zv ne, zS], Nat.zero_le _, ne, e2, fun _ => none, (Heap.Ns1.of_empty e3).at fun o q => Heap.get?_push_of_some _ q, fun _ => True.intro, fun y hy => absurd rfl hy⟩
end
section
variable {X : Cx} {o e value : Expr} {f : Str} {pos pos' tpos : Pos} {ta tv : TE}
end
section
variable {X : Cx} {pins : List (Addr × Obj)} {σ : St} {H : Hp} {s : Shared} {A : Around} {E : Value → Shared → Prop} {Q : Value → Shared → Prop} {c : Value} {b : Bool}
inductive TyOf (K : PySem.W.Frag) (H : Hp) : V → Value → Prop where
  | non : TyOf K H .non (.type "NoneType")
  | bl (x : Bool) : TyOf K H (.bl x) (.type "bool")
  | int (i : Int) : TyOf K H (.int i) (.type "int")
  | str (x : Str) : TyOf K H (.str x) (.type "str")
  | flt (x : UInt64) : TyOf K H (.flt x) (.type "float")
  | lst {a : Addr} {xs : List V} (e : H a = some (.lst xs)) : TyOf K H (.ref a) (.type "list")
  | frz {a : Addr} {o : Obj} {xs : List V} (e : H a = some (.frz o (.lst xs))) : TyOf K H (.ref a) (.type "list")
  | tup {a : Addr} {xs : List V} (e : H a = some (.tup xs)) : TyOf K H (.ref a) (.type "tuple")
  | dK {a : Addr} {kvs : List (Key × V)} (e : H a = some (.dK kvs)) : TyOf K H (.ref a) (.type "dict")
  | dT {a : Addr} {kvs : List (List Key × V)} (e : H a = some (.dT kvs)) : TyOf K H (.ref a) (.type "dict")
  | ins {a C dx : Addr} {fs : List (Str × V)} (e : H a = some (.ins C dx fs)) (cl : Cls K C) (ha : PySem.W.findIn K (.ref C) "__class__" = some (some (.builtin "object.__class__")))
      (hn : PySem.W.specialIn K (.builtin "object.__class__") "__get__" = some (some (.builtin "getset_descriptor.__get__"))) (htk : PySem.W.takesIn K (.builtin "object.__class__") = some true)
      (hm : PySem.W.mroIn K C (.type "object") = some true) : TyOf K H (.ref a) (.ref C)
theorem xc {x : V} {u t : Value} (I : Inv X pins σ H s) (rx : RelV x u) (ty : TyOf X.K H x t) (e : PySem.W.kitOne X.K t c = some b) (h : ∀ tk, Q (.bool b) { s with toks := tk }) :
    wpAny (model X.prog X.w) A (call (.builtin "isinstance") [u, c]) Q E s := by
  cases ty with
  | non => cases (show u = Value.none from rx); exact PySem.W.kia_one PySem.W.kitx_none I.kIn True.intro e (fun z => nomatch z) h
  | bl y => cases (show u = Value.bool y from rx); exact PySem.W.kia_one PySem.W.kitx_bool I.kIn True.intro e (fun z => nomatch z) h
  | int i => obtain ⟨t, q⟩ := (show ∃ t, u = Value.int i t from rx); cases q; exact PySem.W.kia_one PySem.W.kitx_int I.kIn True.intro e (fun z => nomatch z) h
  | str y => obtain ⟨t, q⟩ := (show ∃ t, u = Value.str y t from rx); cases q; exact PySem.W.kia_one PySem.W.kitx_str I.kIn True.intro e (fun z => nomatch z) h
  | flt y => obtain ⟨t, q⟩ := (show ∃ t, u = Value.float y t from rx); cases q; exact PySem.W.kia_one PySem.W.kitx_float I.kIn True.intro e (fun z => nomatch z) h
  | @lst a xs ea =>
    cases (show u = Value.ref a from rx)
    obtain ⟨_, _, n, _, h1⟩ := (show jL X.prog X.w H s.heap a (.lst xs) from I.hok a _ ea)
    exact PySem.W.kia_one PySem.W.kitx_list I.kIn ⟨_, h1, rfl⟩ e (fun z => nomatch z) h
  | @frz a ob xs ea =>
    cases (show u = Value.ref a from rx)
    obtain ⟨_, _, _, n, _, h1⟩ := (show jL X.prog X.w H s.heap a (.frz ob (.lst xs)) from I.hok a _ ea)
    exact PySem.W.kia_one PySem.W.kitx_list I.kIn ⟨_, h1, rfl⟩ e (fun z => nomatch z) h
  | @tup a xs ea =>
    cases (show u = Value.ref a from rx)
    obtain ⟨_, _, _, p⟩ := (show jL X.prog X.w H s.heap a (.tup xs) from I.hok a _ ea)
    obtain ⟨o, h1, h2, _⟩ := p
    exact PySem.W.kia_one PySem.W.kitx_tuple I.kIn ⟨o, h1, h2⟩ e (fun z => nomatch z) h
  | @dK a kvs ea =>
    cases (show u = Value.ref a from rx)
    obtain ⟨_, _, vs, _, p⟩ := (show jL X.prog X.w H s.heap a (.dK kvs) from I.hok a _ ea)
    obtain ⟨o, es, ep, h1, h2, _⟩ := p
    exact PySem.W.kia_one PySem.W.kitx_dict I.kIn ⟨o, h1, h2.1⟩ e (fun z => nomatch z) h
  | @dT a kvs ea =>
    cases (show u = Value.ref a from rx)
    obtain ⟨_, _, xs, _, o, es, ep, h1, h2, _⟩ := (show jL X.prog X.w H s.heap a (.dT kvs) from I.hok a _ ea)
    exact PySem.W.kia_one PySem.W.kitx_dict I.kIn ⟨o, h1, h2.1⟩ e (fun z => nomatch z) h
  | @ins a C dx fs ea cl ha hn htk hm =>
    cases (show u = Value.ref a from rx)
    obtain ⟨mA, O, _⟩ := ziI I.hok ea
    obtain ⟨od, J, _⟩ := O.look
    exact PySem.W.kia_one (PySem.W.kitx_own (cl.get _) cl.hd ha hn htk hm) I.kIn J e (fun z => nomatch z) h
end
end L2
namespace L2
open PySem PySem.Spec PyProof.Rows
structure Room (k : Nat) (A : Around) : Prop where
  hd : A.handled = none
  dp : A.depth + 3 * k + 5 < recursionLimit
  un : A.units + 16 * k + 200 < cLine
theorem Room.mono {j k : Nat} {A : Around} (r : Room k A) (h : j ≤ k) : Room j A := ⟨r.hd, by have := r.dp; omega, by have := r.un; omega⟩
theorem Room.deeper {k : Nat} {A : Around} (r : Room (k + 1) A) (env : Env) : Room k (A.deeper env) :=
  ⟨r.hd, by have := r.dp; show A.depth + 1 + 3 * k + 5 < _; omega, by have := r.un; show A.units + 3 + 16 * k + 200 < _; omega⟩
theorem Room.in1 {k : Nat} {A : Around} (r : Room (k + 1) A) : Room k A.in1 :=
  ⟨r.hd, by have := r.dp; show A.depth + 3 * k + 5 < _; omega, by have := r.un; show A.units + 1 + 16 * k + 200 < _; omega⟩
theorem Room.depth {k : Nat} {A : Around} (r : Room k A) : A.depth < recursionLimit := by have := r.dp; omega
theorem Room.units {k : Nat} {A : Around} (r : Room k A) : A.units + 64 < cLine := by have := r.un; omega
noncomputable def tNil : TA := fun _ H Q => Q [] H
noncomputable def zj4 (ta : TE) (tr : TA) : TA := fun σ H Q => ta σ H fun x H1 => tr σ H1 fun xs H2 => Q (x :: xs) H2
section
variable {X : Cx} {e : Expr} {es : List Expr} {te : TE} {t : TA} {pos : Pos}
theorem wr : PA X [] tNil := fun _ _ _ _ H Q I h => Calls.spliced_nil ⟨[], H, I, .nil, h⟩
theorem qv (ha : PE X e te) (hr : PA X es t) (hs : starEach (e :: es) X.env = (false, eval e X.env) :: starEach es X.env := by rfl) : PA X (e :: es) (zj4 te t) := by
  intro pos pins s σ H Q I h
  rw [hs]
  show wpAny _ _ (spliced ((false, eval e X.env) :: backTo pos (starEach es X.env))) _ _ s
  refine Calls.spliced_cons (thn (ha pins s σ H _ I h) fun u s1 ⟨x, H1, I1, r1, q1⟩ => ?_)
  exact thn (hr pos pins s1 σ H1 _ I1 q1) fun us s2 ⟨xs, H2, I2, r2, q2⟩ => ⟨x :: xs, H2, I2, .cons r1 r2, q2⟩
noncomputable def tTup (t : TA) : TE := fun σ H Q => t σ H fun xs H1 => xs.length ≤ sizeLine ∧ ∀ p, H1 p = none → Q (.ref p) (upd H1 p (.tup xs))
noncomputable def tLst (t : TA) : TE := fun σ H Q => t σ H fun xs H1 => xs.length ≤ sizeLine ∧ ∀ p, H1 p = none → Q (.ref p) (upd H1 p (.lst xs))
theorem ziO {x1} (h : PA X es t) : PE X (.Tuple es x1 pos) (tTup t) := by
  intro pins s σ H Q I hq
  refine wpAny_Tuple_spliced (thn (h pos pins s σ H _ I hq) fun us s1 ⟨xs, H1, I1, r, z, q⟩ => ⟨by rw [← r.length]; exact z, ?_⟩)
  have hf : H1 s1.heap.objs.size = none := I1.hok.fresh (Nat.le_refl _)
  refine ⟨.ref s1.heap.objs.size, upd H1 s1.heap.objs.size (.tup xs), I1.laid (t' := s1.toks) (fun b u e => Heap.get?_push_of_some _ e) (Nat.le_refl _) ?_, rfl, q _ hf⟩
  exact ⟨z, us, r, ⟨_, Heap.get?_push_size _ rfl, rfl, _, rfl⟩⟩
theorem ziX (h : PA X es t) : PE X (.List es pos) (tLst t) := by
  intro pins s σ H Q I hq
  refine wpAny_List_spliced (thn (h pos pins s σ H _ I hq) fun us s1 ⟨xs, H1, I1, r, z, q⟩ => ⟨by rw [← r.length]; exact z, ?_⟩)
  have hf : H1 s1.heap.objs.size = none := I1.hok.fresh (Nat.le_refl _)
  refine ⟨.ref s1.heap.objs.size, upd H1 s1.heap.objs.size (.lst xs), I1.laid (t' := s1.toks) (fun b u e => Heap.get?_push_of_some _ e) (Nat.le_refl _) ?_, rfl, q _ hf⟩
  exact ⟨z, us, 0, r, Heap.get?_push_size _ rfl⟩
end
abbrev Sp := List V → Hp → VK → XK → Prop
abbrev CXT := List Env → Hp → Shared → XK → Value → Shared → Prop
structure Env0 (P : Program) (w : World) (K : PySem.W.Frag) (mg : Str → Option Value) (base : Heap) (A : Around) (outer : List Env) (s : Shared) (H : Hp) : Prop where
  frames : A.frames = some outer
  mod : Mod K mg base
  bs : ∀ b o, base.get? b = some o → s.heap.get? b = some o ∧ H b = none
  bsz : base.objs.size ≤ s.heap.objs.size
  funs : s.heap.FunFrames base outer
  frf : ∀ b ∈ frs outer, H b = none
  hok : HOk P w H s.heap
  bare : AllBare s.gens
noncomputable def CE (outer : List Env) (P : Program) (w : World) (H : Hp) (s : Shared) (Q : VK) (u : Value) (s' : Shared) : Prop :=
  ∃ v H', s'.os = s.os ∧ AllBare s'.gens ∧ Un (frs outer) [] H H' s.heap s'.heap ∧ HOk P w H' s'.heap ∧ RelV v u ∧ Q v H'
noncomputable def CR (CX : CXT) (outer : List Env) (P : Program) (w : World) (H : Hp) (s : Shared) (Q : VK) (E : XK) (r : Result) (s' : Shared) : Prop :=
  match r with
  | .ok (.ret u) => CE outer P w H s Q u s'
  | .ok _ => False
  | .error e => CX outer H s E e s'
structure FnOk (P : Program) (w : World) (K : PySem.W.Frag) (mg : Str → Option Value) (base : Heap) (CX : CXT) (k : Nat) (f : Addr) (fd : FuncData) (ps : List Str) (sp : Sp) : Prop where
  len : ∀ vs H Q E, sp vs H Q E → vs.length = ps.length
  run : ∀ (A : Around) (outer : List Env) (s : Shared) (H : Hp) (args : Args) (us : List Value) (vs : List V) (Q : VK) (E : XK), Room k A → Env0 P w K mg base A outer s H → BindsTo s fd args (ps.zip us) → Vals vs us → sp vs H Q E →
    codeAny (model P w) A (.call (.ref f) args) (CR CX outer P w H s Q E) s
theorem FnOk.mono {P : Program} {w : World} {K : PySem.W.Frag} {mg : Str → Option Value} {base : Heap} {CX : CXT} {j k : Nat} {f : Addr} {fd : FuncData} {ps : List Str} {sp : Sp} (F : FnOk P w K mg base CX j f fd ps sp) (h : j ≤ k) :
    FnOk P w K mg base CX k f fd ps sp := ⟨F.len, fun A outer s H args us vs Q E hr => F.run A outer s H args us vs Q E (hr.mono h)⟩
theorem FnOk.imp {P : Program} {w : World} {K : PySem.W.Frag} {mg : Str → Option Value} {base : Heap} {CX : CXT} {k : Nat} {f : Addr} {fd : FuncData} {ps : List Str} {sp sp' : Sp} (F : FnOk P w K mg base CX k f fd ps sp)
    (h : ∀ vs H Q E, sp' vs H Q E → sp vs H Q E) : FnOk P w K mg base CX k f fd ps sp' :=
  ⟨fun vs H Q E q => F.len vs H Q E (h _ _ _ _ q), fun A outer s H args us vs Q E hr he hb hv hs => F.run A outer s H args us vs Q E hr he hb hv (h _ _ _ _ hs)⟩
theorem Env0.in1 {P : Program} {w : World} {K : PySem.W.Frag} {mg : Str → Option Value} {base : Heap} {A : Around} {outer : List Env} {s : Shared} {H : Hp} (e : Env0 P w K mg base A outer s H) :
    Env0 P w K mg base A.in1 outer s H := ⟨e.frames, e.mod, e.bs, e.bsz, e.funs, e.frf, e.hok, e.bare⟩
section
variable {X : Cx} {pins : List (Addr × Obj)} {σ : St} {H : Hp} {s s' : Shared}
theorem Inv.env0 (I : Inv X pins σ H s) : Env0 X.prog X.w X.K X.mg X.base X.A X.stack s H :=
  ⟨I.ok.frames, I.ok.mod, I.bs, Nat.le_trans I.ok.bsz I.sz, I.stack, I.stkFree, I.hok, I.bare⟩
theorem Inv.after {Q : VK} {u : Value} (I : Inv X pins σ H s) (h : CE X.stack X.prog X.w H s Q u s') : EP X pins σ Q u s' := by
  obtain ⟨v, H', os, bare, un, hok, r, q⟩ := h
  obtain ⟨hh, g, d, t, os'⟩ := s'
  obtain rfl : os' = s.os := os
  exact ⟨v, H', I.call (h' := hh) (g' := g) (d' := d) (t' := t) (ch := []) un hok bare (fun b z => absurd z (by simp)), r, q⟩
end
noncomputable def zky (sp : Sp) (dvs : List V) (E : XK) (t : TA) : TE := fun σ H Q => t σ H fun vs H1 => sp (vs ++ dvs) H1 Q E
noncomputable def Binds (K : PySem.W.Frag) (fd : FuncData) (ps : List Str) (ds : List Value) : Prop :=
  ∀ (s : Shared) (us : List Value), K.In s.heap → (us ++ ds).length = ps.length → BindsTo s fd ⟨us, []⟩ (ps.zip (us ++ ds))
theorem Binds.all {K : PySem.W.Frag} {fd : FuncData} {ps : List Str} (h : ∀ us : List Value, us.length = ps.length → bindArgs fd ⟨us, []⟩ = pure (ps.zip us)) : Binds K fd ps [] := fun s us _ hl => by
  rw [List.append_nil] at hl ⊢
  exact .of_eq (h us hl)
noncomputable def zen (CX : CXT) (X : Cx) (E : XK) : Prop := ∀ (pins : List (Addr × Obj)) (σ : St) (H : Hp) (s : Shared) (e : Value) (s' : Shared), Inv X pins σ H s → CX X.stack H s E e s' → X.xe e s'
section
variable {X : Cx} {CX : CXT} {k : Nat} {f C : Addr} {fd : FuncData} {ps : List Str} {sp : Sp} {dvs : List V} {ds : List Value} {E : XK} {x m : Str} {p pos apos : Pos} {e o : Expr} {es : List Expr} {ta : TE} {t : TA}
theorem zi7 {pins : List (Addr × Obj)} {σ : St} {H : Hp} {s : Shared} {Q : VK} {us : List Value} {vs : List V} (F : FnOk X.prog X.w X.K X.mg X.base CX k f fd ps sp) (hr : Room k X.A) (hb : Binds X.K fd ps ds) (hd : Vals dvs ds) (hx : zen CX X E)
    (I : Inv X pins σ H s) (r : Vals vs us) (h : sp (vs ++ dvs) H Q E) : wpAny (model X.prog X.w) X.A (call (.ref f) us) (EP X pins σ Q) X.xe s := by
  have r2 : Vals (vs ++ dvs) (us ++ ds) := r.append hd
  have hl : (us ++ ds).length = ps.length := by rw [← r2.length]; exact F.len _ _ _ _ h
  refine wpAny_call (codeAny_mono (F.run X.A X.stack s H ⟨us, []⟩ (us ++ ds) (vs ++ dvs) Q E hr I.env0 (hb s us I.kIn hl) r2 h) fun r s' hq => ?_)
  cases r with
  | error e => exact hx pins σ H s e s' I hq
  | ok fl =>
    cases fl with
    | ret u => exact I.after hq
    | next => exact False.elim hq
    | brk => exact False.elim hq
    | cont => exact False.elim hq
theorem ziv (F : FnOk X.prog X.w X.K X.mg X.base CX k f fd ps sp) (hr : Room k X.A) (hg : Gl X x) (hm : X.mg x = some (.ref f)) (hk : PySem.W.keepIn X.K (.ref f) = true) (hb : Binds X.K fd ps ds) (hd : Vals dvs ds) (hx : zen CX X E)
    (ha : PA X (e :: es) t) (hdb : (x == ("__debug__" : Str)) = false := by decide) (he : starEach (e :: es) X.env = (false, eval e X.env) :: starEach es X.env := by rfl) (hpl : (backTo pos (starEach es X.env)).any (·.1) = false := by rfl) :
    PE X (.Call (.Name x p) (e :: es) [] pos) (zky sp dvs E t) := by
  intro pins s σ H Q I h
  refine wpAny_Call_Name_kw (yp I hg hm ?_ hdb)
  refine PySem.W.callWith_K (h₀ := X.base) I.ok.mod.kin hk (thn (ha pos pins s σ H _ I h) fun us s1 ⟨vs, H1, I1, r, q⟩ => ⟨I1.kIn, ?_⟩) he hpl
  exact zi7 F hr hb hd hx I1 r q
structure Mk (K : PySem.W.Frag) (C f : Addr) : Prop where
  makes : PySem.W.makesIn K C = true
  init : PySem.W.findIn K (.ref C) "__init__" = some (some (.ref f))
  fn : PySem.W.isFn K (.ref f) = true
  kp : PySem.W.keepIn K (.ref C) = true
end
section
variable {X : Cx} {CX : CXT} {k : Nat} {f C : Addr} {fd : FuncData} {ps ks : List Str} {sp : Sp} {E : XK} {x m : Str} {p pos apos kpos : Pos} {e o : Expr} {es : List Expr} {kws : List Keyword} {te ta : TE} {t tk : TA} {nm : Option Str}
structure KBinds (K : PySem.W.Frag) (fd : FuncData) (ps ks : List Str) (g : List Value → List Value → List Value) (gV : List V → List V → List V) : Prop where
  to : ∀ (s : Shared) (us ws : List Value), K.In s.heap → (g us ws).length = ps.length → BindsTo s fd ⟨us, ks.zip ws⟩ (ps.zip (g us ws))
  rel : ∀ {vs : List V} {us : List Value} {zs : List V} {ws : List Value}, Vals vs us → Vals zs ws → Vals (gV vs zs) (g us ws)
variable {g : List Value → List Value → List Value} {gV : List V → List V → List V}
end
structure FnScope (N P : List Str) (sc : Scope) : Prop where
  kind : sc.kind = .function
  co : sc.isCoroutine = false
  gen : sc.isGenerator = false
  nd : N.Nodup
  pre : N.take P.length = P
  par : ∀ x ∈ P, sc.names.lookup x = some .local ∨ sc.names.lookup x = some .cell
  nofree : ∀ y ∈ sc.names, y.2 ≠ .free
theorem zbK {kindOf : Str → Option NameKind} {x : Str} : ∀ {binds : List (Str × Value)} {m : Str → Option Value}, (∀ v, (x, v) ∉ binds) → bindL kindOf binds m x = m x
  | [], _, _ => rfl
  | (n, v) :: r, m, h => by
    unfold bindL
    rw [zbK fun w hw => h w (List.mem_cons_of_mem _ hw)]
    split
    · have : x ≠ n := by rintro rfl; exact h v List.mem_cons_self
      simp [this]
    · rfl
theorem za5 {kindOf : Str → Option NameKind} {x : Str} : ∀ {binds : List (Str × Value)} {m : Str → Option Value}, (∀ v, (x, v) ∉ binds) → bindC kindOf binds m x = m x
  | [], _, _ => rfl
  | (n, v) :: r, m, h => by
    unfold bindC
    rw [za5 fun w hw => h w (List.mem_cons_of_mem _ hw)]
    split
    · rfl
    · have : x ≠ n := by rintro rfl; exact h v List.mem_cons_self
      simp [this]
theorem zbZ {kindOf : Str → Option NameKind} {x : Str} {v : Value} : ∀ {P : List Str} {vs : List Value} {i : Nat} {m : Str → Option Value}, P.Nodup → P[i]? = some x → vs[i]? = some v → kindOf x = some .local →
    bindL kindOf (P.zip vs) m x = some v
  | [], _, _, _, _, h, _, _ => by simp at h
  | _ :: _, [], _, _, _, _, h, _ => by simp at h
  | p :: P, w :: vs, 0, m, nd, h1, h2, hk => by
    simp at h1 h2; subst h1; subst h2
    show bindL kindOf ((p, w) :: P.zip vs) m p = _
    unfold bindL
    rw [zbK fun v hv => (List.nodup_cons.mp nd).1 (List.of_mem_zip hv).1, if_pos hk]
    simp
  | p :: P, w :: vs, i + 1, m, nd, h1, h2, hk => by
    show bindL kindOf ((p, w) :: P.zip vs) m x = _
    unfold bindL
    exact zbZ (i := i) (List.nodup_cons.mp nd).2 (by simpa using h1) (by simpa using h2) hk
theorem zbV {kindOf : Str → Option NameKind} {x : Str} {v : Value} : ∀ {P : List Str} {vs : List Value} {i : Nat} {m : Str → Option Value}, P.Nodup → P[i]? = some x → vs[i]? = some v → kindOf x ≠ some .local →
    bindC kindOf (P.zip vs) m x = some v
  | [], _, _, _, _, h, _, _ => by simp at h
  | _ :: _, [], _, _, _, _, h, _ => by simp at h
  | p :: P, w :: vs, 0, m, nd, h1, h2, hk => by
    simp at h1 h2; subst h1; subst h2
    show bindC kindOf ((p, w) :: P.zip vs) m p = _
    unfold bindC
    rw [za5 fun v hv => (List.nodup_cons.mp nd).1 (List.of_mem_zip hv).1, if_neg hk]
    simp
  | p :: P, w :: vs, i + 1, m, nd, h1, h2, hk => by
    show bindC kindOf ((p, w) :: P.zip vs) m x = _
    unfold bindC
    exact zbV (i := i) (List.nodup_cons.mp nd).2 (by simpa using h1) (by simpa using h2) hk
noncomputable def start (N : List Str) (vs : List V) : St := vs.map some ++ List.replicate (N.length - vs.length) none
noncomputable def cxOf (CX : CXT) (P : Program) (w : World) (K : PySem.W.Frag) (mg : Str → Option Value) (base : Heap) (N : List Str) (qual : Str) (scope : Scope) (f : Addr) (cd : Value) (A : Around) (outer : List Env) (s : Shared) (H : Hp) (E : XK) : Cx where
  prog := P
  w := w
  K := K
  mg := mg
  base := base
  A := A.deeper (envOfC qual scope s.heap.objs.size f cd)
  N := N
  s₀ := s
  H₀ := H
  env := envOfC qual scope s.heap.objs.size f cd
  outer := outer
  stack := envOfC qual scope s.heap.objs.size f cd :: outer
  ex := []
  calm := true
  fn := fun _ => true
  pn := []
  xe := fun e s' => wpAny (model P w) (A.deeper (envOfC qual scope s.heap.objs.size f cd)) (leaving (envOfC qual scope s.heap.objs.size f cd) e) (fun _ s'' => CX outer H s E e s'') (fun e' s'' => CX outer H s E e' s'') s'
theorem zcx {sc : Scope} {n : Nat} {x : Str} (h : sc.names.lookup x = some .cell) : ∃ c, (cellsFrom n sc.names []).lookup x = some c := by
  have q := PySem.W.cellsFrom_some sc.names n [] (.inl h)
  exact Option.isSome_iff_exists.mp q
theorem zeW {CX : CXT} {P : Program} {w : World} {K : PySem.W.Frag} {mg : Str → Option Value} {base : Heap} {N ps : List Str} {qual : Str} {scope : Scope} {f : Addr} {cd : Value} {A : Around} {outer : List Env} {s s1 : Shared} {H : Hp} {E : XK} {us : List Value} {vs : List V}
    (S : FnScope N ps scope) (hd : A.handled = none) (e0 : Env0 P w K mg base A outer s H) (hl : vs.length = ps.length) (r : Vals vs us)
    (x : InCallC s s.heap.objs.size (bindL (envOfC qual scope s.heap.objs.size f cd).kindOf (ps.zip us) fun _ => none) (cellsFrom (s.heap.objs.size + 1) scope.names []) (bindC (envOfC qual scope s.heap.objs.size f cd).kindOf (ps.zip us) fun _ => none) s1) :
    Inv (cxOf CX P w K mg base N qual scope f cd A outer s H E) [] (start N vs) H s1 := by
  have hpl : ps.length ≤ N.length := by have := congrArg List.length S.pre; rw [List.length_take] at this; omega
  obtain ⟨h1, tk, rfl, hk⟩ := x.done
  have noA : ∀ b : Addr, b ∉ (cxOf CX P w K mg base N qual scope f cd A outer s H E).ex := fun b z => absurd (show b ∈ ([] : List Addr) from z) (by simp)
  refine ⟨⟨e0.mod, S.kind, rfl, rfl, Nat.le_refl _, fun y z c h1 h2 => ?_, fun y hy => ?_, fun y c _ h => ?_, fun _ => hd, Around.frames_deeper e0.frames, .inr ⟨rfl, rfl⟩, fun b z => absurd z (noA b), e0.bs, e0.bsz, fun b _ _ => noA b, fun b z => absurd z (noA b), e0.funs, e0.frf⟩,
    rfl, e0.bare, Un.kept hk, ⟨_, x.toInCall.ns, fun i y v h1 h2 h3 => ?_⟩, fun y c h => ⟨_, x.cell y c h⟩, e0.hok.fresh (Nat.le_refl _), fun y c h => ?_, fun p hp => absurd (show p ∈ ([] : List (Addr × Obj)) from hp) (by simp), e0.hok.kept hk, ?_⟩
  · exact name_of_addr x.apart (PySem.mem_of_lookup h1) (PySem.mem_of_lookup h2)
  · have hy : scope.names.lookup y = some .cell ∨ scope.names.lookup y = some .free := hy
    rcases hy with hy | hy
    · exact zcx hy
    · exact absurd rfl (S.nofree _ (PySem.mem_of_lookup hy))
  · exact Nat.le_of_lt (x.above y c (PySem.mem_of_lookup h))
  · have hi : i < vs.length := by
      unfold start at h2
      by_cases hi : i < vs.length
      · exact hi
      · rw [List.getElem?_append_right (by simpa using hi)] at h2
        rw [List.getElem?_replicate] at h2
        split at h2 <;> cases h2
    have ha : vs[i]? = some v := by
      unfold start at h2
      rw [List.getElem?_append_left (by simpa using hi), List.getElem?_map] at h2
      cases e : vs[i]? with
      | none => rw [e] at h2; cases h2
      | some a => rw [e] at h2; cases h2; rfl
    obtain ⟨u, hu, rv⟩ := r.get ha
    have hp : ps[i]? = some y := by
      rw [← S.pre, List.getElem?_take_of_lt (by omega)]; exact h1
    have ndP : ps.Nodup := by rw [← S.pre]; exact S.nd.sublist (List.take_sublist _ _)
    refine ⟨u, rv, ?_⟩
    rcases S.par y (List.mem_of_getElem? hp) with k | k
    · exact .inl ⟨k, zbZ ndP hp hu k⟩
    · obtain ⟨c, e⟩ := zcx (n := s.heap.objs.size + 1) k
      refine .inr ⟨.inl k, c, e, ?_⟩
      have q := x.cell y c e
      rw [zbV ndP hp hu (by show scope.names.lookup y ≠ _; rw [k]; decide)] at q
      exact q
  · exact e0.hok.fresh (Nat.le_of_lt (x.above y c (PySem.mem_of_lookup h)))
  · unfold start
    show _ = N.length
    rw [List.length_append, List.length_map, List.length_replicate]
    omega
theorem zja {CX : CXT} {P : Program} {w : World} {K : PySem.W.Frag} {mg : Str → Option Value} {base : Heap} {k : Nat} {f : Addr} {name qual : Str} {params : Arguments} {body : List Stmt} {scope : Scope} {dV kV doc pm cdv ct oc : Value} {an od : Option Addr}
    {osl : Array (Option Value)} {N ps : List Str} {sp : Sp} (lk : K.lookup f = some ⟨oc, od, .func (PySem.W.fnOf name qual params body scope dV kV doc pm an cdv ct), osl⟩) (hcd : PySem.W.codeIn K cdv qual = true) (S : FnScope N ps scope)
    (len : ∀ vs H Q E, sp vs H Q E → vs.length = ps.length)
    (hbody : ∀ (A : Around) (outer : List Env) (s : Shared) (H : Hp) (vs : List V) (Q : VK) (E : XK), Room k (A.deeper (envOfC qual scope s.heap.objs.size f cdv)) → sp vs H Q E →
      ∃ t, PSs (cxOf CX P w K mg base N qual scope f cdv A outer s H E) body t ∧ t { nx := fun _ H' => Q .non H', rt := Q } (start N vs) H) :
    FnOk P w K mg base CX (k + 1) f (PySem.W.fnOf name qual params body scope dV kV doc pm an cdv ct) ps sp := by
  refine ⟨len, fun A outer s H args us vs Q E hr e0 hb r hsp => ?_⟩
  have hl := len _ _ _ _ hsp
  have KX : K.In s.heap := e0.mod.kin.keeps fun b o e => (e0.bs b o e).1
  have lim : s.heap.NoLimit := e0.mod.nolimit.keeps fun b o e => (e0.bs b o e).1
  have hkind : ∀ y ∈ ps.zip us, scope.names.lookup y.1 = some .local ∨ (scope.names.lookup y.1 = some .cell ∧ ((cellsFrom (s.heap.objs.size + 1) scope.names []).lookup y.1).isSome = true) := fun ⟨n, v⟩ hy => by
    rcases S.par n (List.of_mem_zip hy).1 with q | q
    · exact .inl q
    · exact .inr ⟨q, PySem.W.cellsFrom_some _ _ _ (.inl q)⟩
  refine codeAny_call_function hr.depth (KX _ _ lk) rfl S.co S.gen rfl (PySem.W.codeRec_of KX hcd) (hb _ _ _ _ ?_)
  refine wpAny_newFunctionEnv_cells S.kind hkind fun env he s1 x => ?_
  subst he
  refine ⟨lim.keeps x.toInCall.keep, codeAny_func ?_⟩
  obtain ⟨t, ht, hq⟩ := hbody A outer s H vs Q E (hr.deeper _) hsp
  have I : Inv (cxOf CX P w K mg base N qual scope f cdv A outer s H E) [] (start N vs) H s1 := zeW S hr.hd e0 hl r x
  refine wpAny_mono (ht [] s1 (start N vs) H _ I hq) (fun fl s' hs => ?_) fun e s' hs => hs
  have fin : ∀ {σ' : St} {H' : Hp} {v : V} {u : Value}, Inv (cxOf CX P w K mg base N qual scope f cdv A outer s H E) [] σ' H' s' → RelV v u → Q v H' → CE outer P w H s Q u s' :=
    fun {σ' H' v u} J rv q => ⟨v, H', J.os, J.bare, J.base, J.hok, rv, q⟩
  cases fl with
  | ret u =>
    obtain ⟨v, σ', H', J, rv, q⟩ := hs
    exact fin J rv q
  | next =>
    obtain ⟨σ', H', J, q⟩ := hs
    exact fin (v := V.non) (u := Value.none) J rfl q
  | brk =>
    obtain ⟨_, _, _, q⟩ := hs
    exact False.elim q
  | cont =>
    obtain ⟨_, _, _, q⟩ := hs
    exact False.elim q
end L2
namespace L2
open PySem PySem.Spec PyProof.Rows
section
variable {X : Cx} {x : Str} {p pos : Pos} {e : Expr} {es : List Expr} {t : TA} {id T : String} {r : List V → Hp → VK → Prop}
noncomputable def tCB (r : List V → Hp → VK → Prop) (t : TA) : TE := fun σ H Q => t σ H fun vs H1 => r vs H1 Q
theorem yW (hc : xA X (.builtin id) r) (hg : Gl X x) (hm : X.mg x = none) (hv : bootBuiltins x = some (.builtin id)) (ha : PA X (e :: es) t) (hn : x ≠ "__name__" := by decide) (hdb : (x == ("__debug__" : Str)) = false := by decide)
    (he : starEach (e :: es) X.env = (false, eval e X.env) :: starEach es X.env := by rfl) (hpl : (backTo pos (starEach es X.env)).any (·.1) = false := by rfl) : PE X (.Call (.Name x p) (e :: es) [] pos) (tCB r t) := by
  intro pins s σ H Q I h
  refine wpAny_Call_Name_kw (vE I hg hm hv ?_ hn hdb)
  exact PyProof.Rows.callWith_builtin1 (thn (ha pos pins s σ H _ I h) fun us s1 ⟨vs, H1, I1, r1, q1⟩ => hc pins s1 σ H1 vs us Q I1 r1 q1) he hpl
theorem zbN (hc : xA X (.type T) r) (hg : Gl X x) (hm : X.mg x = none) (hv : bootBuiltins x = some (.type T)) (ha : PA X (e :: es) t) (hn : x ≠ "__name__" := by decide) (hdb : (x == ("__debug__" : Str)) = false := by decide)
    (he : starEach (e :: es) X.env = (false, eval e X.env) :: starEach es X.env := by rfl) (hpl : (backTo pos (starEach es X.env)).any (·.1) = false := by rfl) : PE X (.Call (.Name x p) (e :: es) [] pos) (tCB r t) := by
  intro pins s σ H Q I h
  refine wpAny_Call_Name_kw (vE I hg hm hv ?_ hn hdb)
  exact PyProof.Rows.callWith_type1 (thn (ha pos pins s σ H _ I h) fun us s1 ⟨vs, H1, I1, r1, q1⟩ => hc pins s1 σ H1 vs us Q I1 r1 q1) he hpl
end
end L2
namespace HT
open PySem PyProof.Rows
theorem lexLt_cons (x y : Int) (xs ys : List Int) : lexLt (x :: xs) (y :: ys) = if x = y then lexLt xs ys else decide (x < y) := rfl
theorem lexLt_nil_nil : lexLt [] [] = false := rfl
theorem lexLt_nil_cons (y : Int) (ys : List Int) : lexLt [] (y :: ys) = true := rfl
theorem lexLt_cons_nil (x : Int) (xs : List Int) : lexLt (x :: xs) [] = false := rfl
theorem eqAt_int (A : Around) (s : Shared) (a : Int) (t : Tok) (c : Int) (u : Tok) : ∃ e, SeqAt.EqAt A s (.int a t) (.int c u) e ∧ (e = true ↔ a = c) :=
  ⟨(a == c), SeqAt.EqAt.int_int a t c u, by simp⟩
theorem zgq (A : Around) (s : Shared) (a : Int) (t : Tok) (c : Int) (u : Tok) (prog : Program) (w : World) (E : Value → Shared → Prop) (Q : Value → Shared → Prop) (h : Q (.bool (decide (a < c))) s) :
    wpAny (model prog w) A (richCompare .Lt (.int a t) (.int c u)) Q E s :=
  (PyProof.Rows.lt_int h : wpAny (model prog w) A (compareOp .Lt (.int a t) (.int c u)) Q E s)
section
open PySem.SeqAt
open PySem.AutoSeq1 (wpAny_loadPart')
open PySem.MeetsSeq PySem.MeetsSeq2 PySem.MeetsSeq3
theorem zap (l b : Addr) (items items2 : Array Value) (n n2 : Nat) (dd dd2 : Option Addr) (sl sl2 : Array (Option Value)) (ns ms : List Int) (hi : IntsAre items.toList ns) (hj : IntsAre items2.toList ms) :
    Meets (Builtin.«tuple.__lt__» ⟨[.ref l, .ref b], []⟩)
      (fun _ R s => s.heap.get? l = some { cls := .type "tuple", dict := dd, data := .seq items n, slots := sl } ∧ s.heap.get? b = some { cls := .type "tuple", dict := dd2, data := .seq items2 n2, slots := sl2 } ∧
        R (.ok (.ret (.bool (lexLt ns ms)))) s) :=
  .of_wp fun prog w A R s h => by
    obtain ⟨hp, g, d, tk, os⟩ := s; obtain ⟨hl, hb, h⟩ := h
    have f2 := AutoSeq1.sub_tuple_tuple
    have z1 : items.size = ns.length := by rw [← hi.length]; simp
    have z2 : items2.size = ms.length := by rw [← hj.length]; simp
    wp_walk using wpAny_loadPart' hl, wpAny_loadPart' hb, wpAny_forIn_list _ (fun rest b s' => b.1 = none ∧ s' = ⟨hp, g, d, tk, os⟩ ∧ ∃ (vs ws : List Value) (ns' ms' : List Int), rest = vs.zip ws ∧
      IntsAre vs ns' ∧ IntsAre ws ms' ∧ ns'.length + items2.size = ms'.length + items.size ∧ R (.ok (.ret (.bool (lexLt ns' ms')))) ⟨hp, g, d, tk, os⟩) _
    case turn =>
      rintro ⟨y, x⟩ rest b s' ⟨hb', rfl, vs, ws, ns', ms', hz, hvi, hwi, hlen, hR⟩
      cases hvi with
      | nil => rw [List.zip_nil_left] at hz; cases hz
      | cons a t hvi' =>
        cases hwi with
        | nil => rw [List.zip_nil_right] at hz; cases hz
        | cons c u hwi' =>
          rw [List.zip_cons_cons] at hz
          injection hz with hyx hrest
          injection hyx with hy hx
          subst hy hx
          rw [lexLt_cons] at hR
          simp only [List.length_cons] at hlen
          obtain ⟨e, he, hiff⟩ := eqAt_int A.in1 ⟨hp, g, d, tk, os⟩ a t c u
          refine wpAny_bind (he prog w _ _ ?_)
          cases e with
          | true =>
            rw [if_pos (hiff.mp rfl)] at hR
            wp_walk
            exact ⟨rfl, rfl, _, _, _, _, hrest, hvi', hwi', by omega, hR⟩
          | false =>
            rw [if_neg (fun q => absurd (hiff.mpr q) Bool.false_ne_true)] at hR
            have hri := zgq A.in1 ⟨hp, g, d, tk, os⟩ a t c u prog w
            wp_walk using hri
            exact ⟨_, rfl, by simpa using hR⟩
    case fin =>
      rintro ⟨b1, b2⟩ s' ⟨hb', rfl, vs, ws, ns', ms', hz, hvi, hwi, hlen, hR⟩
      simp only at hb'
      subst hb'
      have hv : lexLt ns' ms' = decide (items.size < items2.size) := by
        cases hvi with
        | nil =>
          cases hwi with
          | nil =>
            simp only [List.length_nil] at hlen
            rw [lexLt_nil_nil]
            exact (decide_eq_false (by omega)).symm
          | cons c u hw =>
            simp only [List.length_nil, List.length_cons] at hlen
            rw [lexLt_nil_cons]
            exact (decide_eq_true (by omega)).symm
        | cons a t hv =>
          cases hwi with
          | nil =>
            simp only [List.length_nil, List.length_cons] at hlen
            rw [lexLt_cons_nil]
            exact (decide_eq_false (by omega)).symm
          | cons c u hw =>
            rw [List.zip_cons_cons] at hz
            cases hz
      rw [hv] at hR
      wp_walk
      exact ⟨_, rfl, by simpa [Builtin.Tuple.tupleCompareSizes] using hR⟩
    case h =>
      exact ⟨rfl, rfl, items.toList, items2.toList, ns, ms, rfl, hi, hj, by omega, h⟩
end
section
variable {prog : Program} {w : World} {A : Around} {E : Value → Shared → Prop} {s : Shared}
theorem lt_tupInts {l b : Addr} {items items2 : Array Value} {ns ms : List Int} {Q : Value → Shared → Prop} (hl : IsTup s.heap l items) (hb : IsTup s.heap b items2) (hi : IntsAre items.toList ns) (hj : IntsAre items2.toList ms)
    (hu : A.units < cLine) (h : Q (.bool (lexLt ns ms)) s) : wpAny (model prog w) A (compareOp .Lt (.ref l) (.ref b)) Q E s := by
  obtain ⟨⟨cls, dd, data, sl⟩, ho, hc, n, hd⟩ := id hl
  obtain ⟨⟨cls2, dd2, data2, sl2⟩, ho2, hc2, n2, hd2⟩ := id hb
  simp only at hc hd hc2 hd2
  subst hc hd hc2 hd2
  exact richCompare_meets_room (op := .Lt) ⟨_, ho, rfl⟩ ⟨_, ho2, rfl⟩ PySem.F.slot_tuple_lt PySem.F.entry_tuple_lt (PySem.F.args_tuple_lt_2 _ _) (zap l b items items2 n n2 dd dd2 sl sl2 ns ms hi hj)
    ⟨ho, ho2, show Value.bool (lexLt ns ms) ≠ Value.notImplemented ∧ Q (.bool (lexLt ns ms)) s from ⟨(fun x => nomatch x), h⟩⟩ hu
theorem cat_tup {t b : Addr} {vs ws : List Value} {Q : Value → Shared → Prop} (ht : IsTup s.heap t vs.toArray) (hb : IsTup s.heap b ws.toArray) (hv : vs ≠ [])
    (h1 : ws = [] → Q (.ref t) s) (h2 : ws ≠ [] → Q (.ref s.heap.objs.size) { s with heap := s.heap.push { cls := .type "tuple", data := .seq (vs ++ ws).toArray } })
    (hsz : vs.length + ws.length ≤ sizeLine) : wpAny (model prog w) A (binaryOp .Add (.ref t) (.ref b)) Q E s := by
  obtain ⟨⟨cls, dd, data, sl⟩, ho, hc, n, hd⟩ := id ht
  obtain ⟨⟨cls2, dd2, data2, sl2⟩, ho2, hc2, n2, hd2⟩ := id hb
  simp only at hc hd hc2 hd2
  subst hc hd hc2 hd2
  have e : vs.toArray ++ ws.toArray = (vs ++ ws).toArray := by simp
  by_cases hw : ws = []
  · exact concat_meets ⟨_, ho, rfl⟩ ⟨_, ho2, rfl⟩ noFill_tuple_add seq_tuple_add PySem.F.slot_tuple_add PySem.F.entry_tuple_add (PySem.F.args_tuple_add_2 _ _)
      (tuple_addW1 t b vs.toArray ws.toArray n n2 dd dd2 sl sl2 (by simpa using hv) (by simp [hw])) ⟨ho, ho2, h1 hw⟩
  · refine concat_meets ⟨_, ho, rfl⟩ ⟨_, ho2, rfl⟩ noFill_tuple_add seq_tuple_add PySem.F.slot_tuple_add PySem.F.entry_tuple_add (PySem.F.args_tuple_add_2 _ _)
      (tuple_addW2 t b vs.toArray ws.toArray n n2 dd dd2 sl sl2 (by simpa using hv) (by simpa using hw) (by rw [List.size_toArray, List.size_toArray]; exact hsz)) ⟨ho, ho2, ?_⟩
    rw [e]
    exact h2 hw
theorem ziU (n d : Nat) (hd : d ≤ n) (o : Option Int) : sIx n d o ≤ n := by
  cases o with
  | none => exact hd
  | some v =>
    show (if v < 0 then (v + (n : Int)).toNat else min v.toNat n) ≤ n
    by_cases hv : v < 0
    · rw [if_pos hv]; omega
    · rw [if_neg hv]; exact Nat.min_le_right _ _
theorem zfn (v : Int) (n d : Nat) : (if v < 0 then max (v + (n : Int)) 0 else min v (n : Int)) = ((sIx n d (some v) : Nat) : Int) := by
  show (if v < 0 then max (v + (n : Int)) 0 else min v (n : Int)) = (((if v < 0 then (v + (n : Int)).toNat else min v.toNat n) : Nat) : Int)
  by_cases hv : v < 0
  · simp only [if_pos hv]; omega
  · simp only [if_neg hv]; omega
theorem zdS (lo hi : Option Int) (n : Nat) : Builtin.Slice.sliceAdjust lo hi 1 (n : Int) = (((sIx n 0 lo : Nat) : Int), ((sIx n n hi : Nat) : Int)) := by
  have h1 : ¬ ((1 : Int) < 0) := by omega
  unfold Builtin.Slice.sliceAdjust
  simp only [h1, if_false]
  refine Prod.ext ?_ ?_
  · cases lo with
    | none => rfl
    | some v => exact zfn v n 0
  · cases hi with
    | none => rfl
    | some v => exact zfn v n n
theorem zdK (i j : Nat) : Builtin.Slice.slicePlaces (i : Int) (j : Int) 1 = j - i := by
  unfold Builtin.Slice.slicePlaces
  have h1 : (1 : Int) > 0 := by omega
  simp only [h1, if_true, Int.ediv_one]
  split <;> omega
theorem kX {v : Value} {o : Option Int} {Q : Option Int → Shared → Prop} (p : IsPart v o) (h : Q o s) : wpAny (model prog w) A (Builtin.Slice.slicePartIndex v) Q E s := by
  cases p with
  | none => exact slicePart_none h
  | int i t => exact slicePart_int h
theorem sliceApplied_gen {sl : Addr} {vl vu : Value} {lo hi : Option Int} {n : Nat} {Q : Int × Int × Nat → Shared → Prop} (hs : s.heap.IsSliceOf sl vl vu .none) (pl : IsPart vl lo) (pu : IsPart vu hi)
    (h : Q (((sIx n 0 lo : Nat) : Int), 1, sIx n n hi - sIx n 0 lo) s) : wpAny (model prog w) A (Builtin.Slice.sliceApplied (.ref sl) (pure (n : Int))) Q E s := by
  obtain ⟨os, hos, hcs, hds⟩ := id hs
  unfold Builtin.Slice.sliceApplied Builtin.Slice.sliceFields
  refine wpAny_bind (wpAny_bind (wpAny_field hos hds (x := vl) rfl (wpAny_bind (wpAny_field hos hds (x := vu) rfl (wpAny_bind (wpAny_field hos hds (x := .none) rfl (wpAny_pure ?_)))))))
  refine wpAny_bind (slicePart_none ?_)
  show wpAny _ _ (if ((1 : Int) == 0) = true then _ else _) _ _ s
  rw [if_neg (by decide)]
  refine wpAny_bind (kX pl (wpAny_bind (kX pu (wpAny_bind (wpAny_pure ?_)))))
  show wpAny _ _ (match Builtin.Slice.sliceAdjust lo hi 1 (n : Int) with | (lo, hi) => pure (lo, (1 : Int), Builtin.Slice.slicePlaces lo hi 1)) _ _ s
  rw [zdS lo hi n]
  show wpAny _ _ (pure (((sIx n 0 lo : Nat) : Int), (1 : Int), Builtin.Slice.slicePlaces ((sIx n 0 lo : Nat) : Int) ((sIx n n hi : Nat) : Int) 1)) _ _ s
  rw [zdK]
  exact wpAny_pure h
theorem zgm (xs : Array Value) (i k : Nat) : ((List.range k).filterMap fun (m : Nat) => xs[((i : Int) + (m : Int) * 1).toNat]?).toArray = ((xs.toList.drop i).take k).toArray := by
  have e : (fun (m : Nat) => xs[((i : Int) + (m : Int) * 1).toNat]?) = fun m => xs[i + m]? := by
    funext m
    have : ((i : Int) + (m : Int) * 1).toNat = i + m := by omega
    rw [this]
  rw [e]
  have := pick_run xs i k
  rw [List.filterMap_map] at this
  have e2 : ((fun x => xs[x]?) ∘ fun x => i + x) = fun m => xs[i + m]? := rfl
  rw [e2] at this
  rw [this]
theorem getItem_tuple_cut {t sl : Addr} {items : Array Value} {vl vu : Value} {lo hi : Option Int} {Q : Value → Shared → Prop} (ht : IsTup s.heap t items) (hs : s.heap.IsSliceOf sl vl vu .none) (pl : IsPart vl lo) (pu : IsPart vu hi)
    (hw : ¬ (sIx items.size 0 lo = 0 ∧ sIx items.size items.size hi = items.size))
    (h : Q (.ref s.heap.objs.size) { s with heap := s.heap.push { cls := .type "tuple", data := .seq ((items.toList.drop (sIx items.size 0 lo)).take (sIx items.size items.size hi - sIx items.size 0 lo)).toArray } })
    (hsz : items.size ≤ sizeLine) : wpAny (model prog w) A (getItem (.ref t) (.ref sl)) Q E s := by
  have htake : sizeOk (.seq ((items.toList.drop (sIx items.size 0 lo)).take (sIx items.size items.size hi - sIx items.size 0 lo)).toArray) := by
    show ((items.toList.drop (sIx items.size 0 lo)).take (sIx items.size items.size hi - sIx items.size 0 lo)).toArray.size ≤ sizeLine
    rw [List.size_toArray, List.length_take, List.length_drop, Array.length_toList]
    omega
  have hj : sIx items.size items.size hi ≤ items.size := ziU _ _ (Nat.le_refl _) hi
  obtain ⟨os, hos, hcs, hds⟩ := id hs
  have hTs : s.TypeIs (.ref sl) "slice" := ⟨os, hos, hcs⟩
  unfold getItem
  try with_reducible refine wpAny_holding ?_
  first | refine wpAny_bind (wpAny_pure ?_) | skip
  refine wpAny_bind (wpAny_sequenceKey ht.typeIs (by decide) ?_)
  refine wpAny_bind (wpAny_callSpecial?_slot (name := Str.ofString "__getitem__") ht.typeIs PyProof.Rows.slot_tuple_getitem
    (wpAny_call_entry PyProof.Rows.slot_tuple_getitem ht.typeIs entry_tuple_getitem ?_ (args_tuple_getitem _ _)))
  show wpAny _ _ (Builtin.Tuple.tupleItemsOf (.ref t) >>= _) _ _ s
  refine wpAny_bind (tupleItemsOf_ ht ?_)
  refine wpAny_bind (wpAny_typeOf hTs ?_)
  rw [if_pos (by decide)]
  refine wpAny_bind (sliceApplied_gen hs pl pu ?_)
  have hno : ¬ ((((sIx items.size 0 lo : Nat) : Int) == 0 && (1 : Int) == 1 && (sIx items.size items.size hi - sIx items.size 0 lo) == items.size) = true) := by
    intro q
    rw [Bool.and_eq_true, Bool.and_eq_true] at q
    have q1 : ((sIx items.size 0 lo : Nat) : Int) = 0 := eq_of_beq q.1.1
    have q2 : sIx items.size items.size hi - sIx items.size 0 lo = items.size := eq_of_beq q.2
    exact hw ⟨by omega, by omega⟩
  show wpAny _ _ (if (((sIx items.size 0 lo : Nat) : Int) == 0 && (1 : Int) == 1 && (sIx items.size items.size hi - sIx items.size 0 lo) == items.size) = true then _ else _) _ _ s
  rw [if_neg hno, zgm]
  first
    | exact wpAny_bind (m := Builtin.Tuple.tupleExact _) (wpAny_newObj_type (wpAny_pure ⟨_, rfl, wpAny_pure h⟩) htake)
    | exact wpAny_bind (m := Builtin.Tuple.tupleExact _) (wpAny_newObj_type (wpAny_bind (wpAny_pure (wpAny_pure ⟨_, rfl, wpAny_pure h⟩))) htake)
    | exact wpAny_bind (wpAny_bind (m := Builtin.Tuple.tupleExact _) (wpAny_newObj_type (wpAny_pure (wpAny_pure ⟨_, rfl, wpAny_pure h⟩)) htake))
    | exact wpAny_bind (wpAny_bind (m := Builtin.Tuple.tupleExact _) (wpAny_newObj_type (wpAny_pure ⟨_, rfl, wpAny_pure h⟩) htake))
end
end HT
namespace L2
open PySem PySem.Spec PyProof.Rows
abbrev TO := St → Hp → (Option Int → Hp → Prop) → Prop
noncomputable def PO (X : Cx) (e : Option Expr) (t : TO) : Prop :=
  ∀ (pins : List (Addr × Obj)) (s : Shared) (σ : St) (H : Hp) (Q : Option Int → Hp → Prop), Inv X pins σ H s → t σ H Q →
    wpAny (model X.prog X.w) X.A (evalPart e X.env) (fun u s' => ∃ o H', Inv X pins σ H' s' ∧ IsPart u o ∧ Q o H') X.xe s
noncomputable def ziA : TO := fun _ H Q => Q none H
noncomputable def zkj (t : TE) : TO := fun σ H Q => t σ H fun x H1 => ∃ i, x = .int i ∧ Q (some i) H1
theorem intsAre_of {ns : List Int} : ∀ {us : List Value}, Vals (ns.map V.int) us → IntsAre us ns := by
  induction ns with
  | nil => intro us r; rw [List.map_nil] at r; cases r; exact .nil
  | cons n ns ih =>
    intro us r
    rw [List.map_cons] at r
    cases r with
    | cons r1 r2 =>
      obtain ⟨t, e⟩ := r1
      subst e
      exact .cons n t (ih r2)
section
variable {X : Cx} {e : Expr} {te : TE} {lo hi : Option Expr} {tl th : TO} {pos p2 : Pos}
theorem zij : PO X none ziA := by
  intro pins s σ H Q I h
  rw [evalPart_none]
  exact wpAny_pure ⟨none, H, I, .none, h⟩
theorem zic (h : PE X e te) : PO X (some e) (zkj te) := by
  intro pins s σ H Q I hw
  rw [evalPart_some]
  refine thn (h pins s σ H _ I hw) fun u s1 ⟨x, H1, I1, r1, q1⟩ => ?_
  obtain ⟨i, rfl, q⟩ := q1
  obtain ⟨t, rfl⟩ := r1
  exact ⟨some i, H1, I1, .int i t, q⟩
noncomputable def SlR (X : Cx) (r : V → Option Int → Option Int → Hp → VK → Prop) : Prop :=
  ∀ (pins : List (Addr × Obj)) (s : Shared) (σ : St) (H : Hp) (x : V) (v vl vu : Value) (lo hi : Option Int) (sl : Addr) (Q : VK), Inv X pins σ H s → RelV x v → s.heap.IsSliceOf sl vl vu .none → IsPart vl lo → IsPart vu hi → r x lo hi H Q →
    ∃ T id, typeLookup (.type T) "__getitem__" = pure (some (.builtin id)) ∧ s.TypeIs v T ∧ wpAny (model X.prog X.w) X.A (getItem v (.ref sl)) (EP X pins σ Q) X.xe s
theorem SlR.or {r r' : V → Option Int → Option Int → Hp → VK → Prop} (h : SlR X r) (h' : SlR X r') : SlR X (fun x lo hi H Q => r x lo hi H Q ∨ r' x lo hi H Q) := by
  intro pins s σ H x v vl vu lo hi sl Q I rx hs pl pu q
  rcases q with q | q
  · exact h pins s σ H x v vl vu lo hi sl Q I rx hs pl pu q
  · exact h' pins s σ H x v vl vu lo hi sl Q I rx hs pl pu q
noncomputable def tSl (r : V → Option Int → Option Int → Hp → VK → Prop) (te : TE) (tl th : TO) : TE := fun σ H Q => te σ H fun x H1 => tl σ H1 fun l H2 => th σ H2 fun u H3 => r x l u H3 Q
theorem zcz {r : V → Option Int → Option Int → Hp → VK → Prop} (hr : SlR X r) (he : PE X e te) (hl : PO X lo tl) (hu : PO X hi th) : PE X (.Subscript e (.Slice lo hi none p2) pos) (tSl r te tl th) := by
  intro pins s σ H Q I h
  refine Subscript_ (thn (he pins s σ H _ I h) fun v s1 ⟨x, H1, I1, r1, q1⟩ => ?_)
  refine wpAny_Slice (thn (hl pins s1 σ H1 _ I1 q1) fun vl s2 ⟨l, H2, I2, pl, q2⟩ => thn (hu pins s2 σ H2 _ I2 q2) fun vu s3 ⟨u, H3, I3, pu, q3⟩ => ?_)
  rw [evalPart_none]
  refine wpAny_pure ?_
  have I4 : Inv X pins σ H3 { s3 with heap := s3.heap.push { cls := .type "slice", data := .fields #[vl, vu, .none] } } := I3.kept (t' := s3.toks) fun b ob q => Heap.get?_push_of_some _ q
  obtain ⟨T, id, hT, ht, hg⟩ := hr pins { s3 with heap := s3.heap.push { cls := .type "slice", data := .fields #[vl, vu, .none] } } σ H3 x v vl vu l u s3.heap.objs.size Q I4 r1 (Heap.IsSliceOf.new ..) pl pu q3
  show wpAny (model X.prog X.w) X.A (subscriptTail e (.Slice lo hi none p2) v (.ref s3.heap.objs.size)) (EP X pins σ Q) X.xe { s3 with heap := s3.heap.push { cls := .type "slice", data := .fields #[vl, vu, .none] } }
  exact tail_any (ops := [.ref s3.heap.objs.size, v]) ht hT hg (by with_unfolding_all rfl)
noncomputable def cutV (xs : List V) (lo hi : Option Int) : List V := (xs.drop (HT.sIx xs.length 0 lo)).take (HT.sIx xs.length xs.length hi - HT.sIx xs.length 0 lo)
theorem vK (xs : List V) (lo hi : Option Int) : (cutV xs lo hi).length ≤ xs.length := by
  unfold cutV
  rw [List.length_take, List.length_drop]
  omega
noncomputable def rSlT (K : PySem.W.Frag) : V → Option Int → Option Int → Hp → VK → Prop := fun x lo hi H Q => ∃ a xs, x = .ref a ∧ SqT K H a xs ∧
  ¬ (HT.sIx xs.length 0 lo = 0 ∧ HT.sIx xs.length xs.length hi = xs.length) ∧ ∀ p, H p = none → Q (.ref p) (upd H p (.tup (cutV xs lo hi)))
theorem zjC : SlR X (rSlT X.K) := by
  intro pins s σ H x v vl vu lo hi sl Q I rx hs pl pu h
  obtain ⟨a, xs, rfl, hx, hw, q⟩ := h
  cases rx
  obtain ⟨its, r, ht, hz⟩ := I.tuple hx
  have hlen : its.toArray.size = xs.length := by rw [List.size_toArray]; exact r.length.symm
  refine ⟨"tuple", _, PyProof.Rows.slot_tuple_getitem.lookup, ht.typeIs, ?_⟩
  refine HT.getItem_tuple_cut ht hs pl pu (by rw [hlen]; exact hw) ?_ (by rw [hlen]; exact hz)
  rw [hlen]
  refine ⟨.ref s.heap.objs.size, _, I.laid (t' := s.toks) (o := .tup (cutV xs lo hi)) (fun b ob q => Heap.get?_push_of_some _ q) (Nat.le_refl _) ?_, rfl, q _ (I.hok.fresh (Nat.le_refl _))⟩
  exact ⟨Nat.le_trans (vK xs lo hi) hz, _, (r.drop (HT.sIx xs.length 0 lo)).take (HT.sIx xs.length xs.length hi - HT.sIx xs.length 0 lo), IsTup.new _ _⟩
noncomputable def rLtT (K : PySem.W.Frag) : R2 := fun x y H Q => ∃ a b ns ms, x = .ref a ∧ y = .ref b ∧ SqT K H a (ns.map V.int) ∧ SqT K H b (ms.map V.int) ∧ Q (.bl (HT.lexLt ns ms)) H
theorem zjV (hu : X.A.units < cLine) : OpR X (compareOp .Lt) (rLtT X.K) := by
  intro pins s σ H x y v u Q I rx ry h
  obtain ⟨a, b, ns, ms, rfl, rfl, ha, hb, q⟩ := h
  cases rx
  cases ry
  obtain ⟨its, r1, p1, _⟩ := I.tuple ha
  obtain ⟨its2, r2, p2, _⟩ := I.tuple hb
  have i1 : IntsAre its.toArray.toList ns := intsAre_of r1
  have i2 : IntsAre its2.toArray.toList ms := intsAre_of r2
  exact HT.lt_tupInts p1 p2 i1 i2 hu ⟨.bl (HT.lexLt ns ms), H, I, rfl, q⟩
theorem Vals.nil_iff {xs : List V} {us : List Value} (r : Vals xs us) : us = [] ↔ xs = [] := by
  cases r with
  | nil => simp
  | cons _ _ => simp
end
end L2
namespace L2
open PySem PySem.Spec PyProof.Rows
theorem zhL {n : Nat} {i : Int} {j : Nat} (h : ixN n i = some j) : seqIndex? i n = some j ∧ j < n ∧ -(n : Int) ≤ i ∧ i < n := by
  unfold ixN at h
  by_cases h0 : 0 ≤ i
  · rw [if_pos h0] at h
    by_cases h1 : i < n
    · rw [if_pos h1] at h
      have e : i.toNat = j := Option.some.inj h
      exact ⟨by rw [seqIndex_of h0 h1, e], by omega, by omega, h1⟩
    · rw [if_neg h1] at h; cases h
  · rw [if_neg h0] at h
    by_cases h1 : -(n : Int) ≤ i
    · rw [if_pos h1] at h
      have e : (i + n).toNat = j := Option.some.inj h
      exact ⟨by rw [seqIndex_neg (by omega) h1, e], by omega, h1, by omega⟩
    · rw [if_neg h1] at h; cases h
theorem wC {α : Type} {xs : List α} {i : Int} {v : α} (h : atI xs i = some v) : ∃ j, seqIndex? i xs.length = some j ∧ xs[j]? = some v ∧ j < xs.length ∧ -(xs.length : Int) ≤ i ∧ i < xs.length := by
  unfold atI at h
  cases e : ixN xs.length i with
  | none => rw [e] at h; cases h
  | some j =>
    rw [e] at h
    obtain ⟨h1, h2, h3, h4⟩ := zhL e
    exact ⟨j, h1, h, h2, h3, h4⟩
theorem yv {α : Type} {xs : List α} {j : Nat} {v : α} (h : xs[j]? = some v) : atI xs (j : Int) = some v := by
  have hj : j < xs.length := (List.getElem?_eq_some_iff.mp h).1
  have e : ixN xs.length (j : Int) = some j := by
    unfold ixN
    rw [if_pos (by omega), if_pos (by omega)]; simp
  unfold atI; rw [e]; exact h
noncomputable def zaO (b : Expr) : Prop := ∀ o i, subscripted b false o i = operate [o, i] (getItem o i)
noncomputable def IxR (X : Cx) (r : R2) : Prop :=
  ∀ (value slice : Expr) (pins : List (Addr × Obj)) (s : Shared) (σ : St) (H : Hp) (x y : V) (v u : Value) (Q : VK), Inv X pins σ H s → RelV x v → RelV y u → r x y H Q →
    subscripted slice false v u = operate [v, u] (getItem v u) → wpAny (model X.prog X.w) X.A (subscriptTail value slice v u) (EP X pins σ Q) X.xe s
noncomputable def MtR (X : Cx) (id : String) (r : V → List V → Hp → VK → Prop) : Prop :=
  ∀ (pins : List (Addr × Obj)) (s : Shared) (σ : St) (H : Hp) (x : V) (xs : List V) (v : Value) (us : List Value) (Q : VK), Inv X pins σ H s → RelV x v → Vals xs us → r x xs H Q →
    wpAny (model X.prog X.w) X.A (call (.builtin id) (v :: us)) (EP X pins σ Q) X.xe s
section
variable {X : Cx} {a b : Expr} {ta tb : TE} {pos : Pos}
theorem IxR.or {r r' : R2} (h : IxR X r) (h' : IxR X r') : IxR X (fun x y H Q => r x y H Q ∨ r' x y H Q) := by
  intro value slice pins s σ H x y v u Q I rx ry q hs
  rcases q with q | q
  · exact h value slice pins s σ H x y v u Q I rx ry q hs
  · exact h' value slice pins s σ H x y v u Q I rx ry q hs
theorem MtR.or {id : String} {r r' : V → List V → Hp → VK → Prop} (h : MtR X id r) (h' : MtR X id r') : MtR X id (fun x xs H Q => r x xs H Q ∨ r' x xs H Q) := by
  intro pins s σ H x xs v us Q I rx rs q
  rcases q with q | q
  · exact h pins s σ H x xs v us Q I rx rs q
  · exact h' pins s σ H x xs v us Q I rx rs q
theorem zia {r : R2} (hr : IxR X r) (ha : PE X a ta) (hb : PE X b tb) (hs : zaO b) : PE X (.Subscript a b pos) (tOp r ta tb) := by
  intro pins s σ H Q I h
  exact Subscript_ (binT ha hb I h fun v u s2 x y H2 I2 rx ry q => hr a b pins s2 σ H2 x y v u Q I2 rx ry q (hs _ _))
noncomputable def rIxL (K : PySem.W.Frag) : R2 := fun x y H Q => ∃ p xs i v, x = .ref p ∧ y = .int i ∧ SqL K H p xs ∧ atI xs i = some v ∧ Q v H
noncomputable def rIxT (K : PySem.W.Frag) : R2 := fun x y H Q => ∃ p xs i v, x = .ref p ∧ y = .int i ∧ SqT K H p xs ∧ atI xs i = some v ∧ Q v H
noncomputable def rIxS : R2 := fun x y H Q => ∃ z i c, x = .str z ∧ y = .int i ∧ z.length ≤ sizeLine ∧ atI z.cps.toList i = some c ∧ Q (.str ⟨#[c]⟩) H
theorem ze8 : IxR X (rIxL X.K) := by
  intro value slice pins s σ H x y v u Q I rx ry h hs
  obtain ⟨p, xs, i, z, rfl, rfl, hq, he, q⟩ := h
  cases rx
  obtain ⟨t, rfl⟩ := ry
  obtain ⟨its, r, pl, hz⟩ := I.list hq
  obtain ⟨j, h1, h2, h3, h4, h5⟩ := wC he
  obtain ⟨w, ew, rw'⟩ := r.get h2
  have hl := r.length
  have hn := kL
  have fin : EP X pins σ Q w s := ⟨z, H, I, rw', q⟩
  by_cases h0 : 0 ≤ i
  · have hj : i.toNat = j := by
      rw [seqIndex_of h0 h5] at h1
      exact Option.some.inj h1
    exact item_listR pl.isList h0 (by omega) (by rw [hj]; simpa using ew) fin hs
  · have hj : (i + (its.toArray.size : Int)).toNat = j := by
      rw [seqIndex_neg (by omega) h4] at h1
      rw [List.size_toArray, ← hl]
      exact Option.some.inj h1
    exact subscriptTail_builtinR (x := w) pl.isList.typeIs slot_list_getitem.lookup
      (wpAny_getItem_list_neg (Q := fun r s' => r = w ∧ EP X pins σ Q r s') pl.isList (by omega) (by rw [List.size_toArray] <;> omega) (by omega) (by rw [hj]; simpa using ew) ⟨rfl, fin⟩) hs
theorem zjl : IxR X (rIxT X.K) := by
  intro value slice pins s σ H x y v u Q I rx ry h hs
  obtain ⟨p, xs, i, z, rfl, rfl, hq, he, q⟩ := h
  cases rx
  obtain ⟨t, rfl⟩ := ry
  obtain ⟨its, r, pl, hz⟩ := I.tuple hq
  obtain ⟨j, h1, h2, h3, h4, h5⟩ := wC he
  obtain ⟨w, ew, rw'⟩ := r.get h2
  have hl := r.length
  have hn := kL
  have fin : EP X pins σ Q w s := ⟨z, H, I, rw', q⟩
  exact subscriptTail_builtinR (x := w) pl.typeIs slot_tuple_getitem.lookup
    (getItem_tuple (j := j) (Q := fun r s' => r = w ∧ EP X pins σ Q r s') pl (by omega) (by omega) (by rw [List.size_toArray, ← hl]; exact h1) (by simpa using ew) ⟨rfl, fin⟩) hs
theorem zje : IxR X rIxS := by
  intro value slice pins s σ H x y v u Q I rx ry h hs
  obtain ⟨z, i, c, rfl, rfl, hz, he, q⟩ := h
  obtain ⟨t, rfl⟩ := rx
  obtain ⟨t', rfl⟩ := ry
  obtain ⟨j, h1, h2, h3, h4, h5⟩ := wC he
  have hl : z.cps.toList.length = z.length := by simp [Str.length]
  rw [hl] at h1 h4 h5
  have hn := kL
  exact tail_any (typeIs_str s z t) slot_str_getitem.lookup (getItem_str (c := c) (by
    have e1 : decide (i < -(2 ^ 63 : Int)) = false := decide_eq_false (by omega)
    have e2 : decide (i ≥ 2 ^ 63) = false := decide_eq_false (by omega)
    rw [e1, e2, Bool.or_false]) (by rw [h1]; simpa using h2) ⟨.str ⟨#[c]⟩, H, I.tok _, ⟨_, rfl⟩, q⟩) hs
noncomputable def rIx (K : PySem.W.Frag) : R2 := fun x y H Q => rIxL K x y H Q ∨ rIxT K x y H Q ∨ rIxS x y H Q
theorem zju : IxR X (rIx X.K) := ze8.or (zjl.or zje)
theorem Inv.lst {pins : List (Addr × Obj)} {σ : St} {H : Hp} {s : Shared} {p : Addr} {xs : List V} (I : Inv X pins σ H s) (h : H p = some (.lst xs)) :
    ∃ (its : List Value) (n : Nat), Vals xs its ∧ s.heap.get? p = some { cls := .type "list", data := .seq its.toArray n } ∧ xs.length ≤ sizeLine := by
  obtain ⟨z, its, n, r, e⟩ := I.hok p _ h
  exact ⟨its, n, r, e, z⟩
theorem zbg (lo hi : Option Int) (n : Nat) : (sliceBounds lo hi none n).1 = ((HT.sIx n 0 lo : Nat) : Int) ∧ (sliceBounds lo hi none n).2.1 = ((HT.sIx n n hi : Nat) : Int) ∧ (sliceBounds lo hi none n).2.2 = 1 := by
  refine ⟨?_, ?_, rfl⟩
  · cases lo with
    | none => simp [sliceBounds, HT.sIx]
    | some i =>
      simp only [sliceBounds, HT.sIx, Option.getD_none, show (1 : Int) > 0 by decide, if_true]
      by_cases h : i < 0
      · simp only [h, if_true] <;> omega
      · simp only [h, if_false] <;> omega
  · cases hi with
    | none => simp [sliceBounds, HT.sIx]
    | some i =>
      simp only [sliceBounds, HT.sIx, Option.getD_none, show (1 : Int) > 0 by decide, if_true]
      by_cases h : i < 0
      · simp only [h, if_true] <;> omega
      · simp only [h, if_false] <;> omega
theorem zat (its : List Value) (lo hi : Option Int) : slicePick its.toArray lo hi none = ((its.drop (HT.sIx its.length 0 lo)).take (HT.sIx its.length its.length hi - HT.sIx its.length 0 lo)).toArray := by
  obtain ⟨h1, h2, h3⟩ := zbg lo hi its.toArray.size
  unfold slicePick
  rw [h1, h2, h3]
  simp only [sliceRange_one, pick_run, List.size_toArray] <;> rfl
noncomputable def rSlL (K : PySem.W.Frag) : V → Option Int → Option Int → Hp → VK → Prop := fun x lo hi H Q => ∃ a xs, x = .ref a ∧ SqL K H a xs ∧ ∀ p, H p = none → Q (.ref p) (upd H p (.lst (cutV xs lo hi)))
theorem zh9 : SlR X (rSlL X.K) := by
  intro pins s σ H x v vl vu lo hi sl Q I rx hs pl pu h
  obtain ⟨a, xs, rfl, hx, q⟩ := h
  cases rx
  obtain ⟨its, r, ht, hz⟩ := I.list hx
  have hlen := r.length
  refine ⟨"list", _, slot_list_getitem.lookup, ht.isList.typeIs, ?_⟩
  refine wpAny_getItem_list_slice ht.isList hs pl pu .none (by simp) ?_ (by rw [List.size_toArray] <;> omega)
  rw [zat, ← hlen]
  refine ⟨.ref s.heap.objs.size, _, I.laid (t' := s.toks) (o := .lst (cutV xs lo hi)) (fun b ob q => Heap.get?_push_of_some _ q) (Nat.le_refl _) ?_, rfl, q _ (I.hok.fresh (Nat.le_refl _))⟩
  exact ⟨Nat.le_trans (vK xs lo hi) hz, _, 0, (r.drop (HT.sIx xs.length 0 lo)).take (HT.sIx xs.length xs.length hi - HT.sIx xs.length 0 lo), Heap.get?_push_size _ rfl⟩
theorem xI : xA X (.builtin "len") (fun xs H Q => ∃ p ys, xs = [.ref p] ∧ (SqL X.K H p ys ∨ SqT X.K H p ys) ∧ Q (.int ys.length) H) := by
  intro pins s σ H xs us Q I r h
  obtain ⟨p, ys, rfl, hq, q⟩ := h
  obtain ⟨u, rfl, rx⟩ := vals1 r
  cases rx
  have hn := kL
  rcases hq with hq | hq
  · obtain ⟨its, r', pl, hz⟩ := I.list hq
    have hlen := r'.length
    exact Calls.call_len_list pl.isList (by simp only [List.size_toArray] <;> omega) ⟨.int ys.length, H, I.tok _, ⟨s.toks + 1, by rw [List.size_toArray, hlen]⟩, q⟩
  · obtain ⟨its, r', pl, hz⟩ := I.tuple hq
    have hlen := r'.length
    exact len_tuple pl (by simp only [List.size_toArray] <;> omega) ⟨.int ys.length, H, I.tok _, ⟨s.toks + 1, by rw [List.size_toArray, hlen]⟩, q⟩
theorem zbF : xA X (.builtin "len") (fun xs H Q => ∃ z, xs = [.str z] ∧ z.length ≤ sizeLine ∧ Q (.int z.length) H) := by
  intro pins s σ H xs us Q I r h
  obtain ⟨z, rfl, hz, q⟩ := h
  obtain ⟨u, rfl, t, rfl⟩ := vals1 r
  have hn := kL
  exact len_str (by omega) ⟨.int z.length, H, I.tok _, ⟨_, rfl⟩, q⟩
theorem xA.or {f : Value} {r r' : List V → Hp → VK → Prop} (h : xA X f r) (h' : xA X f r') : xA X f (fun xs H Q => r xs H Q ∨ r' xs H Q) := by
  intro pins s σ H xs us Q I rs q
  rcases q with q | q
  · exact h pins s σ H xs us Q I rs q
  · exact h' pins s σ H xs us Q I rs q
theorem yl : xA X (.type "tuple") (fun xs H Q => ∃ p ys, xs = [.ref p] ∧ ((SqL X.K H p ys ∧ ∀ l, H l = none → Q (.ref l) (upd H l (.tup ys))) ∨ (SqT X.K H p ys ∧ Q (.ref p) H))) := by
  intro pins s σ H xs us Q I r h
  obtain ⟨p, ys, rfl, h⟩ := h
  obtain ⟨u, rfl, rx⟩ := vals1 r
  cases rx
  rcases h with ⟨hq, q⟩ | ⟨hq, q⟩
  · obtain ⟨its, r', pl, hz⟩ := I.list hq
    have hlen := r'.length
    refine call_tuple_list pl.isList (fun h' kp => ?_) (by simp only [List.size_toArray] <;> omega)
    have I1 : Inv X pins σ H { s with heap := h' } := I.kept (t' := s.toks) kp
    have I2 : Inv X pins σ (upd H h'.objs.size (.tup ys)) { s with heap := h'.push { cls := .type "tuple", data := .seq its.toArray } } :=
      I1.laid (t' := s.toks) (fun b o e => Heap.get?_push_of_some _ e) (Nat.le_refl _) (show jL X.prog X.w _ _ _ (.tup ys) from ⟨hz, its, r', IsTup.new _ _⟩)
    exact ⟨.ref h'.objs.size, _, I2, rfl, q _ (I1.hok.fresh (Nat.le_refl _))⟩
  · obtain ⟨its, r', pl, hz⟩ := I.tuple hq
    exact call_tuple_same pl ⟨.ref p, H, I, rfl, q⟩
noncomputable def tyV (K : PySem.W.Frag) (T : String) (x : V) (H : Hp) : Prop := match x with
  | .str _ => T = "str"
  | .int _ => T = "int"
  | .ref p => (T = "list" ∧ ∃ xs, SqL K H p xs) ∨ (T = "tuple" ∧ ∃ o, K.lookup p = some o ∧ o.cls = .type "tuple" ∧ o.dict = none) ∨
      (T = "dict" ∧ ((∃ kvs, H p = some (.dK kvs)) ∨ ∃ kvs, H p = some (.dT kvs))) ∨ (T = "set" ∧ ∃ S n, H p = some (.set S n))
  | _ => False
theorem zjJ {pins : List (Addr × Obj)} {σ : St} {H : Hp} {s : Shared} {T : String} {x : V} {v : Value} (I : Inv X pins σ H s) (r : RelV x v) (ty : tyV X.K T x H) :
    s.TypeIs v T ∧ ∀ a, v = .ref a → ∃ ob, s.heap.get? a = some ob ∧ ob.dict = none := by
  cases x with
  | str z =>
    obtain ⟨t, rfl⟩ := r
    cases (show T = "str" from ty)
    exact ⟨typeIs_str s z t, fun _ e => nomatch e⟩
  | int i =>
    obtain ⟨t, rfl⟩ := r
    cases (show T = "int" from ty)
    exact ⟨typeIs_int s i t, fun _ e => nomatch e⟩
  | ref p =>
    cases r
    rcases ty with ⟨rfl, xs, hq⟩ | ⟨rfl, o, hk, hc, hd⟩ | ⟨rfl, hk⟩ | ⟨rfl, S, n, hk⟩
    · obtain ⟨its, _, pl, _⟩ := I.list hq
      refine ⟨pl.isList.typeIs, fun a e => ?_⟩
      cases e
      obtain ⟨o, n, e, c, hd, _⟩ := pl
      exact ⟨o, e, hd⟩
    · refine ⟨⟨o, I.kIn p o hk, hc⟩, fun a e => ?_⟩
      cases e
      exact ⟨o, I.kIn _ o hk, hd⟩
    · have z : ∃ o, s.heap.get? p = some o ∧ o.ExactDict := by
        rcases hk with ⟨kvs, hk⟩ | ⟨kvs, hk⟩
        · obtain ⟨_, _, _, _, o, _, _, e, ex, _⟩ := I.hok p _ hk
          exact ⟨o, e, ex⟩
        · obtain ⟨_, _, _, _, o, _, _, e, ex, _⟩ := I.hok p _ hk
          exact ⟨o, e, ex⟩
      obtain ⟨o, e, ex⟩ := z
      refine ⟨⟨o, e, ex.1⟩, fun a e2 => ?_⟩
      cases e2
      exact ⟨o, e, ex.2.1⟩
    · obtain ⟨o, _, _, _, e, ex, _⟩ := I.hok p _ hk
      refine ⟨⟨o, e, ex.1⟩, fun a e2 => ?_⟩
      cases e2
      exact ⟨o, e, ex.2.1⟩
  | _ => exact False.elim ty
noncomputable def tBM (K : PySem.W.Frag) (T : String) (r : V → List V → Hp → VK → Prop) (to : TE) (t : TA) : TE := fun σ H Q => to σ H fun x H1 => tyV K T x H1 ∧ t σ H1 fun xs H2 => r x xs H2 Q
variable {o e : Expr} {es : List Expr} {to : TE} {t : TA} {name : Str} {apos cpos : Pos} {T id : String} {r : V → List V → Hp → VK → Prop}
theorem zf9 (pa : PlainAttrs T) (slot : Slot T name id) (hty : typeOf (.builtin id) = pure (.type "method_descriptor")) (hm : MtR X id r) (ho : PE X o to) (ha : PA X (e :: es) t)
    (hbase : attributeBase o name X.env (eval o X.env) = eval o X.env := by rfl)
    (hfew : ((backTo cpos (starEach (e :: es) X.env)).all (fun x => !x.1) && (backToKw cpos (keywordEach [] X.env)).all (fun x => x.1.isSome)
      && decide ((e :: es).length + ([] : List Keyword).length + (if ([] : List Keyword).isEmpty then 0 else 1) < 30)) = true := by rfl)
    (hline : (apos.endLine == cpos.line) = true := by rfl) (hs : starEach (e :: es) X.env = (false, eval e X.env) :: starEach es X.env := by rfl) (hplain : (backTo cpos (starEach es X.env)).any (·.1) = false := by rfl) :
    PE X (.Call (.Attribute o name apos) (e :: es) [] cpos) (tBM X.K T r to t) := by
  intro pins s σ H Q I h
  refine wpAny_Call_method_late hbase hfew hline rfl (thn (ho pins s σ H _ I h) fun v s1 ⟨x, H1, I1, r1, ty, q1⟩ => ?_)
  obtain ⟨h1, h2⟩ := zjJ I1 r1 ty
  refine ⟨T, id, pa, slot, hty, h1, h2, ?_⟩
  have hA := ha cpos pins s1 σ H1 _ I1 q1
  rw [hs] at hA ⊢
  refine Calls.callWith_builtin (by show (false || (backTo cpos (starEach es X.env)).any (·.1)) = false; rw [hplain] <;> rfl) (Calls.evalArgs_plain ?_)
  exact thn hA fun us s2 ⟨vs, H2, I2, r2, q2⟩ => hm pins s2 σ H2 x vs v us Q I2 r1 r2 q2
end
end L2
namespace L2
open PySem PySem.Spec PyProof.Rows
noncomputable def MtM (X : Cx) (id : String) (r : V → List V → Hp → VK → Prop) : Prop :=
  ∀ (pins : List (Addr × Obj)) (s : Shared) (σ : St) (H : Hp) (x : V) (xs : List V) (v : Value) (us : List Value) (Q : VK), Inv X pins σ H s → RelV x v → Vals xs us → r x xs H Q →
    wpAny (model X.prog X.w) X.A (call (.builtin id) (v :: us)) (EP X pins σ Q) X.xe s
theorem Vals.one : ∀ {x : V} {us : List Value}, Vals [x] us → ∃ u, us = [u] ∧ RelV x u
  | _, _, .cons r .nil => ⟨_, rfl, r⟩
theorem Vals.two : ∀ {x y : V} {us : List Value}, Vals [x, y] us → ∃ u v, us = [u, v] ∧ RelV x u ∧ RelV y v
  | _, _, _, .cons r (.cons q .nil) => ⟨_, _, rfl, r, q⟩
theorem Vals.zero : ∀ {us : List Value}, Vals [] us → us = []
  | _, .nil => rfl
theorem Vals.rep {xs : List V} {us : List Value} (h : Vals xs us) : ∀ k : Nat, Vals (List.replicate k xs).flatten (List.replicate k us).flatten
  | 0 => .nil
  | k + 1 => by
    rw [List.replicate_succ, List.replicate_succ, List.flatten_cons, List.flatten_cons]
    exact Vals.append h (Vals.rep h k)
theorem foldl_rep (its : List Value) : ∀ (k : Nat) (acc : List Value),
    List.foldl (fun x1 x2 => x1 ++ x2) acc.toArray (List.replicate k its.toArray) = (acc ++ (List.replicate k its).flatten).toArray
  | 0, acc => by simp
  | k + 1, acc => by
    have e : acc.toArray ++ its.toArray = (acc ++ its).toArray := by simp
    have e2 : (acc ++ its) ++ (List.replicate k its).flatten = acc ++ (List.replicate (k + 1) its).flatten := by
      rw [List.replicate_succ, List.flatten_cons, List.append_assoc]
    rw [← e2, ← foldl_rep its k (acc ++ its), ← e, List.replicate_succ, List.foldl_cons]
section
variable {X : Cx} {pins : List (Addr × Obj)} {σ : St} {H : Hp} {s : Shared} {l b : Addr} {xs ys zs : List V}
theorem Inv.lset {its its' : List Value} {n : Nat} {f : Array Value → Array Value} {t' : Nat} (I : Inv X pins σ H s) (hH : H l = some (.lst xs))
    (e : s.heap.get? l = some { cls := .type "list", data := .seq its.toArray n }) (hf : f its.toArray = its'.toArray) (hv : Vals ys its') (hz : ys.length ≤ sizeLine) :
    Inv X pins σ (upd H l (.lst ys)) { s with heap := s.heap.update l (Obj.mapSeq f), toks := t' } := by
  have q := PySem.IsL.update e f
  rw [hf] at q
  refine I.write (x := l) (e := l) (by rw [hH]; exact trivial) (.inl rfl) (fun b' u hb hu => (Heap.get?_update_other s.heap (Obj.mapSeq f) (Ne.symm hb)).trans hu) ⟨_, q⟩ ?_
  exact ⟨hz, its', _, hv, q⟩
theorem Inv.fresh (I : Inv X pins σ H s) : H s.heap.objs.size = none := I.hok.fresh (Nat.le_refl _)
theorem Inv.lstM (I : Inv X pins σ H s) (hH : H l = some (.lst xs)) : xs.length ≤ sizeLine ∧ ∃ (its : List Value) (n : Nat), Vals xs its ∧ xs.length = its.length ∧ s.heap.get? l = some { cls := .type "list", data := .seq its.toArray n } := by
  obtain ⟨z, its, n, r, e⟩ := I.hok l _ hH
  exact ⟨z, its, n, r, r.length, e⟩
theorem zgO {n : Nat} (h : n ≤ sizeLine) : Builtin.List.listTooLong n = false := by
  unfold Builtin.List.listTooLong
  exact decide_eq_false (by omega)
end
section
variable {X : Cx}
noncomputable def zhI : V → List V → Hp → VK → Prop := fun x vs H Q => ∃ l xs y, x = .ref l ∧ vs = [y] ∧ H l = some (.lst xs) ∧ xs.length < sizeLine ∧ Q .non (upd H l (.lst (xs ++ [y])))
theorem vZ : MtM X "list.append" zhI := by
  intro pins s σ H x vs v us Q I rx rv h
  obtain ⟨l, xs, y, rfl, rfl, hH, hz, q⟩ := h
  cases rx
  obtain ⟨u, rfl, ru⟩ := rv.one
  obtain ⟨z, its, n, r, hl, e⟩ := I.lstM hH
  refine call_meets F.slot_list_append ⟨_, e, rfl⟩ F.entry_list_append (F.args_list_append_2 _ _) (PySem.list_append l its.toArray n u (by rw [List.size_toArray]; omega)) ⟨e, ?_⟩
  refine ⟨.non, _, I.lset (its' := its ++ [u]) hH e (by simp) (r.append (.cons ru .nil)) ?_, rfl, q⟩
  rw [List.length_append, List.length_singleton]
  omega
theorem len_rep {α : Type} (xs : List α) (k : Nat) : (List.replicate k xs).flatten.length = k * xs.length := by
  induction k with
  | zero => simp
  | succ k ih => rw [List.replicate_succ, List.flatten_cons, List.length_append, ih, Nat.succ_mul, Nat.add_comm]
end
section
variable {prog : Program} {w : World} {A : Around} {E : Value → Shared → Prop} {s : Shared}
end
section
variable {X : Cx}
end
end L2
namespace L2
open PySem PySem.Spec PyProof.Rows
section
variable {κ : Type} [DecidableEq κ]
noncomputable def valV (kvs : List (κ × V)) (k : κ) : Option V := (kvs.find? fun kv => decide (kv.1 = k)).map (·.2)
noncomputable def putK (kvs : List (κ × V)) (k : κ) (v : V) : List (κ × V) :=
  if (kvs.any fun kv => decide (kv.1 = k)) = true then kvs.map (fun kv => if kv.1 = k then (kv.1, v) else kv) else kvs ++ [(k, v)]
noncomputable def zjp (kvs : List (κ × V)) (k : κ) : List (κ × V) := kvs.filter fun kv => decide (kv.1 ≠ k)
theorem vh {p : κ × V} {r : List (κ × V)} {k : κ} (e : p.1 = k) : valV (p :: r) k = some p.2 := by simp [valV, List.find?_cons, e]
theorem vi {p : κ × V} {r : List (κ × V)} {k : κ} (e : ¬ p.1 = k) : valV (p :: r) k = valV r k := by simp [valV, List.find?_cons, e]
theorem zdg (k : κ) : ∀ kvs : List (κ × V), (kvs.any fun kv => decide (kv.1 = k)) = (valV kvs k).isSome
  | [] => rfl
  | p :: r => by
    rw [List.any_cons]
    by_cases e : p.1 = k
    · simp only [vh e, decide_eq_true e, Bool.true_or, Option.isSome_some]
    · rw [vi e, decide_eq_false e, Bool.false_or]; exact zdg k r
theorem wH (kvs : List (κ × V)) (k : κ) (v : V) : (putK kvs k v).length ≤ kvs.length + 1 := by
  unfold putK
  split
  · rw [List.length_map]; omega
  · rw [List.length_append, List.length_cons, List.length_nil]; omega
theorem RelO.isSome_eq {o : Option V} {u : Option Value} (r : RelO o u) : o.isSome = u.isSome := by
  cases o with
  | none => cases u with
    | none => rfl
    | some _ => exact (show False from r).elim
  | some _ => cases u with
    | none => exact (show False from r).elim
    | some _ => rfl
theorem RelO.getD {o : Option V} {u : Option Value} {d : V} {d' : Value} (r : RelO o u) (rd : RelV d d') : RelV (o.getD d) (u.getD d') := by
  cases o with
  | none => cases u with
    | none => exact rd
    | some _ => exact (show False from r).elim
  | some _ => cases u with
    | none => exact (show False from r).elim
    | some _ => exact r
theorem KV.val {kvs : List (κ × V)} {vs : List (κ × Value)} (r : KV kvs vs) (k : κ) : RelO (valV kvs k) (valueAt vs k) := by
  unfold KV at r
  induction r with
  | nil => exact True.intro
  | @cons p q ps qs h t ih =>
    obtain ⟨h1, h2⟩ := h
    by_cases e : p.1 = k
    · have e' : q.1 = k := h1.symm.trans e
      have b : valueAt (q :: qs) k = some q.2 := by simp [valueAt, List.find?_cons, e']
      rw [vh e, b]; exact h2
    · have e' : ¬ q.1 = k := fun z => e (h1.trans z)
      have b : valueAt (q :: qs) k = valueAt qs k := by simp [valueAt, List.find?_cons, e']
      rw [vi e, b]; exact ih
theorem KV.any {kvs : List (κ × V)} {vs : List (κ × Value)} (r : KV kvs vs) (k : κ) : (kvs.any fun kv => decide (kv.1 = k)) = vs.any fun kv => decide (kv.1 = k) := by
  unfold KV at r
  induction r with
  | nil => rfl
  | cons h t ih => rw [List.any_cons, List.any_cons, ih, h.1]
theorem KV.repl {kvs : List (κ × V)} {vs : List (κ × Value)} (r : KV kvs vs) (k : κ) {y : V} {u : Value} (ry : RelV y u) :
    KV (kvs.map fun kv => if kv.1 = k then (kv.1, y) else kv) (vs.map fun kv => if kv.1 = k then (kv.1, u) else kv) := by
  unfold KV at r ⊢
  induction r with
  | nil => exact .nil
  | @cons p q ps qs h t ih =>
    rw [List.map_cons, List.map_cons]
    refine .cons ?_ ih
    obtain ⟨h1, h2⟩ := h
    by_cases e : p.1 = k
    · rw [if_pos e, if_pos (h1.symm.trans e)]; exact ⟨h1, ry⟩
    · rw [if_neg e, if_neg (fun z => e (h1.trans z))]; exact ⟨h1, h2⟩
theorem KV.put {kvs : List (κ × V)} {vs : List (κ × Value)} (r : KV kvs vs) (k : κ) {y : V} {u : Value} (ry : RelV y u) : KV (putK kvs k y) (stored vs k u) := by
  unfold putK stored
  rw [r.any k]
  by_cases e : (vs.any fun kv => decide (kv.1 = k)) = true
  · rw [if_pos e, if_pos e]; exact r.repl k ry
  · rw [if_neg e, if_neg e]; exact Paired.snoc r ⟨rfl, ry⟩
theorem KV.drop {kvs : List (κ × V)} {vs : List (κ × Value)} (r : KV kvs vs) (k : κ) : KV (zjp kvs k) (without vs k) := by
  unfold KV at r ⊢
  unfold zjp without
  induction r with
  | nil => exact .nil
  | @cons p q ps qs h t ih =>
    obtain ⟨h1, h2⟩ := h
    rw [List.filter_cons, List.filter_cons]
    by_cases e : p.1 = k
    · have a : ¬ decide (p.1 ≠ k) = true := by simp [e]
      have b : ¬ decide (q.1 ≠ k) = true := by simp [h1.symm.trans e]
      rw [if_neg a, if_neg b]; exact ih
    · have e' : ¬ q.1 = k := fun z => e (h1.trans z)
      have a : decide (p.1 ≠ k) = true := by simp [e]
      have b : decide (q.1 ≠ k) = true := by simp [e']
      rw [if_pos a, if_pos b]; exact .cons ⟨h1, h2⟩ ih
theorem KV.keys {kvs : List (κ × V)} {vs : List (κ × Value)} (r : KV kvs vs) : kvs.map (·.1) = vs.map (·.1) := by
  unfold KV at r
  induction r with
  | nil => rfl
  | cons h t ih => rw [List.map_cons, List.map_cons, ih, h.1]
theorem KV.length {kvs : List (κ × V)} {vs : List (κ × Value)} (r : KV kvs vs) : kvs.length = vs.length := Paired.length r
end
theorem zeg {P : Program} {w : World} {k : Key} {u : Value} (r : RelV (kV k) u) : (jD P w).is k u = true := by
  cases k with
  | inl i => obtain ⟨t, e⟩ := (show ∃ t, u = Value.int i t from r); subst e; exact zb7 P w i t
  | inr x => obtain ⟨t, e⟩ := (show ∃ t, u = Value.str x t from r); subst e; exact zb9 P w x t
theorem zbB {P : Program} {w : World} : ∀ {ks : List Key} {us : List Value}, Vals (ks.map kV) us → ItemsAre (jD P w) ks us
  | [], _, r => by rw [List.map_nil] at r; cases r; exact .nil
  | k :: ks, _, r => by
    rw [List.map_cons] at r
    cases r with
    | cons h t => exact .cons (zeg h) (zbB t)
abbrev KT (H : Hp) : List (List Key × V) → List (List Key × Addr × Value) → Prop := Paired fun p q => p.1 = q.1 ∧ H q.2.1 = some (.tup (p.1.map kV)) ∧ RelV p.2 q.2.2
theorem KT.val {H : Hp} {kvs : List (List Key × V)} {xs : List (List Key × Addr × Value)} (r : KT H kvs xs) (k : List Key) : RelO (valV kvs k) ((atKey xs k).map (·.2)) := by
  induction r with
  | nil => exact True.intro
  | @cons p q ps qs h t ih =>
    obtain ⟨h1, _, h2⟩ := h
    by_cases e : p.1 = k
    · have e' : q.1 = k := h1.symm.trans e
      have b : atKey (q :: qs) k = some q.2 := by simp [atKey, List.find?_cons, e']
      rw [vh e, b]; exact h2
    · have e' : ¬ q.1 = k := fun z => e (h1.trans z)
      have b : atKey (q :: qs) k = atKey qs k := by simp [atKey, List.find?_cons, e']
      rw [vi e, b]; exact ih
theorem KT.repl {H : Hp} {kvs : List (List Key × V)} {xs : List (List Key × Addr × Value)} (r : KT H kvs xs) (k : List Key) {y : V} {u : Value} (ry : RelV y u) :
    KT H (kvs.map fun kv => if kv.1 = k then (kv.1, y) else kv) (xs.map (putAt k u)) := by
  induction r with
  | nil => exact .nil
  | @cons p q ps qs h t ih =>
    rw [List.map_cons, List.map_cons]
    refine .cons ?_ ih
    obtain ⟨h1, h2, h3⟩ := h
    unfold putAt
    by_cases e : p.1 = k
    · rw [if_pos e, if_pos (h1.symm.trans e)]; exact ⟨h1, h2, ry⟩
    · rw [if_neg e, if_neg (fun z => e (h1.trans z))]; exact ⟨h1, h2, h3⟩
theorem KT.put {H : Hp} {kvs : List (List Key × V)} {xs : List (List Key × Addr × Value)} (r : KT H kvs xs) (k : List Key) {b : Addr} {y : V} {u : Value} (hb : H b = some (.tup (k.map kV))) (ry : RelV y u) :
    KT H (putK kvs k y) (storedH xs k b u) := by
  have e : (kvs.any fun kv => decide (kv.1 = k)) = (atKey xs k).isSome := by
    rw [zdg, (r.val k).isSome_eq, Option.isSome_map]
  unfold putK storedH
  rw [e]
  by_cases q : (atKey xs k).isSome = true
  · rw [if_pos q, if_pos q]; exact r.repl k ry
  · rw [if_neg q, if_neg q]; exact Paired.snoc r ⟨rfl, hb, ry⟩
theorem KT.keeps {H H' : Hp} {kvs : List (List Key × V)} {xs : List (List Key × Addr × Value)} (r : KT H kvs xs) (ht : ∀ b ys, H b = some (.tup ys) → H' b = some (.tup ys)) : KT H' kvs xs :=
  Paired.mapP r fun _ _ z => ⟨z.1, ht _ _ z.2.1, z.2.2⟩
section
variable {P : Program} {w : World} {H : Hp} {h : Heap} {a : Addr}
theorem ziW {u : HO} (ok : HOk P w H h) (e : Rd H a u) : jL P w H h a u := e.ok ok
theorem zeJ {kvs : List (Key × V)} (ok : HOk P w H h) (e : Rd H a (.dK kvs)) : kvs.length ≤ sizeLine ∧ (a == sysModules) = false ∧ ∃ vs, KV kvs vs ∧ h.DictOf (jD P w) a vs :=
  show jL P w H h a (.dK kvs) from ziW ok e
theorem zjf {kvs : List (Key × V)} (ok : HOk P w H h) (e : H a = some (.dK kvs)) : kvs.length ≤ sizeLine ∧ (a == sysModules) = false ∧ ∃ vs, KV kvs vs ∧ h.DictOf (jD P w) a vs := zeJ ok (.inl e)
theorem zcW {ks : List Key} (ok : HOk P w H h) (e : H a = some (.tup (ks.map kV))) : (tupleKind (jD P w)).is h ks a := by
  obtain ⟨_, its, r, o, h1, h2, n, h3⟩ := (show jL P w H h a (.tup (ks.map kV)) from ok a _ e)
  exact ⟨o, its.toArray, n, h1, h2, h3, by simpa using zbB r⟩
theorem zgc {kvs : List (List Key × V)} (ok : HOk P w H h) (e : Rd H a (.dT kvs)) : kvs.length ≤ sizeLine ∧ (a == sysModules) = false ∧
    ∃ xs, KT H kvs xs ∧ h.DictOfH (tupleKind (jD P w)) a xs := by
  obtain ⟨z, y, xs, r, o, es, ep, h1, h2, h3, h4, h5⟩ := (show jL P w H h a (.dT kvs) from ziW ok e)
  refine ⟨z, y, xs, r, o, es, ep, h1, h2, h3, h4, fun x hx => ?_, h5⟩
  have all : ∀ {l : List (List Key × V)} {m : List (List Key × Addr × Value)}, KT H l m → ∀ x ∈ m, (tupleKind (jD P w)).is h x.1 x.2.1 := by
    intro l m q
    induction q with
    | nil => intro x hx; exact nomatch hx
    | @cons p q ps qs hq t ih =>
      intro x hx
      rcases List.mem_cons.mp hx with e | hx
      · subst e
        exact zcW ok (by rw [← hq.1]; exact hq.2.1)
      · exact ih x hx
  exact all r x hx
theorem zko {kvs : List (List Key × V)} (ok : HOk P w H h) (e : H a = some (.dT kvs)) : kvs.length ≤ sizeLine ∧ (a == sysModules) = false ∧
    ∃ xs, KT H kvs xs ∧ h.DictOfH (tupleKind (jD P w)) a xs := zgc ok (.inl e)
end
noncomputable def DGet (H : Hp) (a : Addr) (y : V) (r : Option V) : Prop :=
  (∃ kvs k, Rd H a (.dK kvs) ∧ y = kV k ∧ r = valV kvs k) ∨ ∃ kvs k b, Rd H a (.dT kvs) ∧ y = .ref b ∧ H b = some (.tup (k.map kV)) ∧ r = valV kvs k
noncomputable def DPut (H : Hp) (a : Addr) (y v : V) (H' : Hp) : Prop :=
  (∃ kvs k, H a = some (.dK kvs) ∧ y = kV k ∧ kvs.length < sizeLine ∧ H' = upd H a (.dK (putK kvs k v))) ∨
  ∃ kvs k b, H a = some (.dT kvs) ∧ y = .ref b ∧ H b = some (.tup (k.map kV)) ∧ kvs.length < sizeLine ∧ H' = upd H a (.dT (putK kvs k v))
theorem DGet.k {H : Hp} {a : Addr} {kvs : List (Key × V)} {k : Key} (e : H a = some (.dK kvs)) : DGet H a (kV k) (valV kvs k) := .inl ⟨kvs, k, .inl e, rfl, rfl⟩
theorem DGet.t {H : Hp} {a b : Addr} {kvs : List (List Key × V)} {k : List Key} (e : H a = some (.dT kvs)) (eb : H b = some (.tup (k.map kV))) : DGet H a (.ref b) (valV kvs k) := .inr ⟨kvs, k, b, .inl e, rfl, eb, rfl⟩
theorem DPut.k {H : Hp} {a : Addr} {kvs : List (Key × V)} {k : Key} {v : V} (e : H a = some (.dK kvs)) (hl : kvs.length < sizeLine) : DPut H a (kV k) v (upd H a (.dK (putK kvs k v))) := .inl ⟨kvs, k, e, rfl, hl, rfl⟩
theorem DPut.t {H : Hp} {a b : Addr} {kvs : List (List Key × V)} {k : List Key} {v : V} (e : H a = some (.dT kvs)) (eb : H b = some (.tup (k.map kV))) (hl : kvs.length < sizeLine) :
    DPut H a (.ref b) v (upd H a (.dT (putK kvs k v))) := .inr ⟨kvs, k, b, e, rfl, eb, hl, rfl⟩
section
variable {X : Cx} {pins : List (Addr × Obj)} {σ : St} {H : Hp} {s : Shared} {a : Addr} {y v : V} {u r : Value} {o : Option V} {A : Around} {E : Value → Shared → Prop}
theorem Inv.big (I : Inv X pins σ H s) : sysModules < s.heap.objs.size := by
  have h : mainGlobals < s.heap.objs.size := (I.mod.glob.keeps I.bk).lt
  exact Nat.lt_trans (by decide) h
theorem ze6 {Q : Value → Shared → Prop} (hu : A.units + 1 < cLine) (I : Inv X pins σ H s) (g : DGet H a y (some v)) (ry : RelV y u) (h : ∀ w' s', Inv X pins σ H s' → RelV v w' → Q w' s') :
    wpAny (model X.prog X.w) A (getItem (.ref a) u) Q E s := by
  rcases g with ⟨kvs, k, e, ey, l⟩ | ⟨kvs, k, b, e, ey, eb, l⟩
  · subst ey
    obtain ⟨z, hd, vs, rel, dd⟩ := zeJ I.hok e
    obtain ⟨w', hw, rw'⟩ := RelO.some_of (v := v) (o := valueAt vs k) (by rw [l]; exact rel.val k)
    exact wpAny_getItem_of (zeg ry) dd.mapOf hw (h w' _ (I.tok _) rw')
  · subst ey
    cases (show u = Value.ref b from ry)
    obtain ⟨z, hd, xs, rel, dd⟩ := zgc I.hok e
    obtain ⟨w', hw, rw'⟩ := RelO.some_of (v := v) (o := (atKey xs k).map (·.2)) (by rw [l]; exact rel.val k)
    obtain ⟨p, hp, hp2⟩ := Option.map_eq_some_iff.mp hw
    refine wpAny_getItem_heap (tupleKind_room_in1 hu) (zcW I.hok eb) dd hp ?_
    rw [hp2]
    exact h w' _ (I.tok _) rw'
theorem d_in {Q : Value → Shared → Prop} (hu : A.units + 1 < cLine) (I : Inv X pins σ H s) (g : DGet H a y o) (ry : RelV y u) (h : ∀ s', Inv X pins σ H s' → Q (.bool o.isSome) s') :
    wpAny (model X.prog X.w) A (compareOp .In u (.ref a)) Q E s := by
  rcases g with ⟨kvs, k, e, ey, l⟩ | ⟨kvs, k, b, e, ey, eb, l⟩
  · subst ey
    obtain ⟨z, hd, vs, rel, dd⟩ := zeJ I.hok e
    refine wpAny_in_of (zeg ry) hd dd.mapOf ?_
    rw [← (rel.val k).isSome_eq, ← l]
    exact h _ (I.tok _)
  · subst ey
    cases (show u = Value.ref b from ry)
    obtain ⟨z, hd, xs, rel, dd⟩ := zgc I.hok e
    refine wpAny_in_heap (tupleKind_room_in1 hu) (zcW I.hok eb) hd dd ?_
    have q := (rel.val k).isSome_eq
    rw [Option.isSome_map] at q
    rw [← q, ← l]
    exact h _ (I.tok _)
theorem zb5 {h' : Heap} {t' : Nat} {ob : HO} (I : Inv X pins σ H s) (mu : Mut (H a)) (hs : Heap.SameBut a s.heap h') (he : ∃ q, h'.get? a = some q) (new : jL X.prog X.w (upd H a ob) h' a ob) :
    Inv X pins σ (upd H a ob) { s with heap := h', toks := t' } :=
  I.write (x := a) (e := a) mu (.inl rfl) (fun b q hb z => (hs.2 b hb).trans z) he new
theorem zhb {P : Program} {w : World} {H' : Hp} {h' : Heap} {kvs : List (Key × V)} {vs : List (Key × Value)} (z : kvs.length ≤ sizeLine) (hd : (a == sysModules) = false) (rel : KV kvs vs) (dd : h'.DictOf (jD P w) a vs) :
    jL P w H' h' a (.dK kvs) := ⟨z, hd, vs, rel, dd⟩
theorem zd6 {H' : Hp} {Q : Unit → Shared → Prop} (hu : A.units + 1 < cLine) (I : Inv X pins σ H s) (g : DPut H a y v H') (ry : RelV y u) (rv : RelV v r) (h : ∀ s', Inv X pins σ H' s' → Q () s') :
    wpAny (model X.prog X.w) A (setItem (.ref a) u r) Q E s := by
  rcases g with ⟨kvs, k, e, ey, l, eH⟩ | ⟨kvs, k, b, e, ey, eb, l, eH⟩
  · subst ey eH
    obtain ⟨z, hd, vs, rel, dd⟩ := zjf I.hok e
    have hz : vs.length ≤ sizeLine := by rw [← rel.length]; exact z
    have hl : (putK kvs k v).length ≤ sizeLine := by have := wH kvs k v; omega
    refine wpAny_setItem_pairs (hsz := hz) (zeg ry) dd fun h' dd' hs => h _ ?_
    have he : ∃ q, h'.get? a = some q := let ⟨q, _, _, hq, _⟩ := dd'; ⟨q, hq⟩
    exact zb5 I (by rw [e]; exact True.intro) hs he (zhb hl hd (rel.put k rv) dd')
  · subst ey eH
    cases (show u = Value.ref b from ry)
    obtain ⟨z, hd, xs, rel, dd⟩ := zko I.hok e
    have hz : xs.length ≤ sizeLine := by rw [← Paired.length rel]; exact z
    have hl : (putK kvs k v).length ≤ sizeLine := by have := wH kvs k v; omega
    refine wpAny_setItem_heap (hsz := hz) (tupleKind_room_in1 hu) (zcW I.hok eb) dd fun h' dd' hs => h _ ?_
    obtain ⟨q, es, ep, hq, h2, h3, h4, _, h5⟩ := dd'
    refine zb5 I (by rw [e]; exact True.intro) hs ⟨q, hq⟩ ⟨hl, hd, _, (rel.put k eb rv).keeps fun c ys ec => ?_, q, es, ep, hq, h2, h3, h4, h5⟩
    rw [zv (zjx ec e (fun z => nomatch z))]
    exact ec
end
section
variable {X : Cx} {pins : List (Addr × Obj)} {σ : St} {H : Hp} {s : Shared} {a : Addr} {kvs : List (Key × V)} {k : Key} {u : Value} {A : Around} {E : Value → Shared → Prop}
theorem zkx {Q : Value → Shared → Prop} (I : Inv X pins σ H s) (e : Rd H a (.dK kvs)) (h : ∀ t s', Inv X pins σ H s' → Q (.int kvs.length t) s') : wpAny (model X.prog X.w) A (call (.builtin "len") [.ref a]) Q E s := by
  obtain ⟨z, hd, vs, rel, dd⟩ := zeJ I.hok e
  refine call_len_dict hd dd (by rw [← rel.length]; rw [sizeLine_eq] at z; omega) ?_
  rw [← rel.length]
  exact h _ _ (I.tok _)
end
noncomputable def NoSl (i : Expr) : Prop := ∀ ov iv, subscripted i false ov iv = operate [ov, iv] (getItem ov iv)
theorem zh6 {prog : Program} {w : World} {A : Around} {E : Value → Shared → Prop} {s : Shared} {env : Env} {value slice : Expr} {pos : Pos} {T id : String} {Q : Value → Shared → Prop}
    (hl : typeLookup (.type T) "__getitem__" = pure (some (.builtin id))) (hs : NoSl slice)
    (h : wpAny (model prog w) A (eval value env) (fun o s₁ => wpAny (model prog w) A (eval slice env) (fun i s₂ => s₂.TypeIs o T ∧ wpAny (model prog w) A (getItem o i) Q E s₂) E s₁) E s) :
    wpAny (model prog w) A (eval (.Subscript value slice pos) env) Q E s := by
  refine Subscript_ (wpAny_mono h (fun o s₁ h₁ => wpAny_mono h₁ (fun i s₂ h₂ => ?_) fun _ _ x => x) fun _ _ x => x)
  obtain ⟨hT, h₂⟩ := h₂
  unfold subscriptTail
  refine wpAny_bind ?_
  rw [getitemInPython_of_ne hT.not_modules]
  refine wpAny_bind (wpAny_specialOf hT hl ?_)
  have fin : wpAny (model prog w) A (subscripted slice false o i) (fun r s₃ => wpAny (model prog w) A (letTemporaryGo value o r >>= fun _ => pure r) Q E s₃) E s₂ := by
    rw [hs o i]
    exact wpAny_operating (wpAny_mono h₂ (fun r s₃ h₃ => wpAny_bind (wpAny_letTemporaryGo (wpAny_pure h₃))) fun _ _ x => x)
  first
    | exact wpAny_pure (wpAny_bind fin)
    | exact wpAny_bind (wpAny_pure (wpAny_bind fin))
    | exact wpAny_bind fin
theorem zcm {X : Cx} {pins : List (Addr × Obj)} {σ : St} {H : Hp} {s : Shared} {a : Addr} {y : V} {o : Option V} (I : Inv X pins σ H s) (g : DGet H a y o) : s.TypeIs (.ref a) "dict" := by
  rcases g with ⟨kvs, k, e, _, _⟩ | ⟨kvs, k, b, e, _, _, _⟩
  · obtain ⟨_, _, vs, _, dd⟩ := zeJ I.hok e
    exact dd.typeIs
  · obtain ⟨_, _, xs, _, dd⟩ := zgc I.hok e
    exact dd.typeIs
noncomputable def zj9 (td ty : TE) : TE := fun σ H Q => td σ H fun x H1 => ty σ H1 fun y H2 => ∃ a v, x = .ref a ∧ DGet H2 a y (some v) ∧ Q v H2
noncomputable def zkk (td ty tv : TE) : TS := fun D σ H => tv σ H fun v H1 => td σ H1 fun x H2 => ty σ H2 fun y H3 => ∃ a H4, x = .ref a ∧ DPut H3 a y v H4 ∧ D.nx σ H4
section
variable {X : Cx} {o i e value : Expr} {pos pos' tpos : Pos} {td ty tv : TE}
theorem zix (hu : X.A.units + 1 < cLine) (ho : PE X o td) (hi : PE X i ty) (hs : NoSl i) : PE X (.Subscript o i pos) (zj9 td ty) := by
  intro pins s σ H Q I h
  refine zh6 PySem.F.slot_dict_getitem.lookup hs (thn (ho pins s σ H _ I h) fun u s1 ⟨x, H1, I1, rx, q1⟩ => thn (hi pins s1 σ H1 _ I1 q1) fun iv s2 ⟨y, H2, I2, ry, a, v, ex, g, q2⟩ => ?_)
  subst ex
  obtain rfl : u = Value.ref a := rx
  exact ⟨zcm I2 g, ze6 hu I2 g ry fun w' s3 I3 rw' => ⟨v, H2, I3, rw', q2⟩⟩
theorem zfN (hu : X.A.units + 1 < cLine) (ho : PE X o td) (hi : PE X i ty) (hv : PE X value tv) (hs : swapsWith value (some (.Subscript o i pos')) pos.line X.env = pure false) :
    PS X (.Assign [.Subscript o i pos'] value pos) (zkk td ty tv) := by
  intro pins s σ H D I h
  refine wpAny_Assign_Subscript (thn (hv pins s σ H _ I h) fun r s1 ⟨v, H1, I1, rv, q1⟩ => thn (ho pins s1 σ H1 _ I1 q1) fun u s2 ⟨x, H2, I2, rx, q2⟩ => thn (hi pins s2 σ H2 _ I2 q2) fun iv s3 ⟨y, H3, I3, ry, a, H4, ex, g, q3⟩ => ?_) hs
  subst ex
  obtain rfl : u = Value.ref a := rx
  exact zd6 hu I3 g ry rv fun s4 I4 => ⟨σ, H4, I4, q3⟩
end
theorem zgp {P : Program} {w : World} {H : Hp} (h : Heap) (hb : sysModules < h.objs.size) : jL P w H (h.push { cls := .type "dict", data := .dict #[] }) h.objs.size (.dK []) :=
  ⟨Nat.zero_le _, beq_eq_false_iff_ne.mpr (Ne.symm (Nat.ne_of_lt hb)), [], .nil, Heap.DictOf.new h⟩
theorem zg3 {P : Program} {w : World} {H : Hp} (h : Heap) (hb : sysModules < h.objs.size) : jL P w H (h.push { cls := .type "dict", data := .dict #[] }) h.objs.size (.dT []) :=
  ⟨Nat.zero_le _, beq_eq_false_iff_ne.mpr (Ne.symm (Nat.ne_of_lt hb)), [], .nil, _, #[], 0, Heap.get?_push_size _ rfl, ⟨rfl, rfl, rfl⟩, rfl, rfl, List.nodup_nil⟩
noncomputable def zi1 : TE := fun _ H Q => ∀ p, H p = none → Q (.ref p) (upd H p (.dT []))
section
variable {X : Cx} {pos : Pos}
theorem zf3 : PE X (.Dict [] [] pos) zi1 := fun pins s σ H Q I h =>
  wpAny_Dict_empty ⟨.ref s.heap.objs.size, _, I.laid (a := s.heap.objs.size) (o := .dT []) (t' := s.toks) (fun _ _ q => Heap.get?_push_of_some _ q) (Nat.le_refl _) (zg3 s.heap I.big), rfl, h _ (I.hok.fresh (Nat.le_refl _))⟩
end
noncomputable def zem : List (TE × TE) → St → Hp → (List (V × V) → Hp → Prop) → Prop
  | [], _, H, Q => Q [] H
  | (tk, tv) :: r, σ, H, Q => tk σ H fun x H1 => tv σ H1 fun y H2 => zem r σ H2 fun ps H3 => Q ((x, y) :: ps) H3
abbrev VV : List (V × V) → List (Value × Value) → Prop := Paired fun p q => RelV p.1 q.1 ∧ RelV p.2 q.2
noncomputable def PPs (X : Cx) (pos : Pos) (keys : List (Option Expr)) (values : List Expr) (trs : List (TE × TE)) : Prop :=
  ∀ (pins : List (Addr × Obj)) (s : Shared) (σ : St) (H : Hp) (Q : List (V × V) → Hp → Prop), Inv X pins σ H s → zem trs σ H Q →
    wpAny (model X.prog X.w) X.A (evalPairs (pairTrees keys values X.env pos)) (fun vs s' => ∃ ps H', Inv X pins σ H' s' ∧ VV ps vs ∧ Q ps H') X.xe s
theorem zhU {X : Cx} {pos : Pos} : PPs X pos [] [] [] := fun pins s σ H Q I h => pairTrees_nil_walk ⟨[], H, I, .nil, h⟩
theorem zf4 {X : Cx} {pos : Pos} {k v : Expr} {ks : List (Option Expr)} {vs : List Expr} {tk tv : TE} {trs : List (TE × TE)} (hk : PE X k tk) (hv : PE X v tv) (hr : PPs X pos ks vs trs) :
    PPs X pos (some k :: ks) (v :: vs) ((tk, tv) :: trs) := fun pins s σ H Q I h =>
  pairTrees_cons_walk (thn (hk pins s σ H _ I h) fun u s1 ⟨x, H1, I1, rx, q1⟩ => thn (hv pins s1 σ H1 _ I1 q1) fun w2 s2 ⟨y, H2, I2, ry, q2⟩ =>
    thn (hr pins s2 σ H2 _ I2 q2) fun ws s3 ⟨ps, H3, I3, rel, q3⟩ => ⟨(x, y) :: ps, H3, I3, .cons ⟨rx, ry⟩ rel, q3⟩)
noncomputable def za7 (kvs more : List (Key × V)) : List (Key × V) := more.foldl (fun acc kv => putK acc kv.1 kv.2) kvs
theorem KV.merge : ∀ {more : List (Key × V)} {rs : List (Key × Value)} {kvs : List (Key × V)} {vs : List (Key × Value)}, KV more rs → KV kvs vs → KV (za7 kvs more) (merged vs rs) := by
  intro more rs kvs vs r
  unfold KV at r
  induction r generalizing kvs vs with
  | nil => intro q; exact q
  | @cons p q ps qs h t ih =>
    intro r0
    have e : KV (putK kvs p.1 p.2) (stored vs q.1 q.2) := by
      have := r0.put p.1 h.2
      rw [← h.1]; exact this
    exact ih e
theorem yc : ∀ (more kvs : List (Key × V)), (za7 kvs more).length ≤ kvs.length + more.length
  | [], kvs => by show kvs.length ≤ kvs.length + 0; omega
  | p :: r, kvs => by
    have h1 := yc r (putK kvs p.1 p.2)
    have h2 := wH kvs p.1 p.2
    show (za7 (putK kvs p.1 p.2) r).length ≤ _
    rw [List.length_cons]; omega
theorem kA {P : Program} {w : World} : ∀ {kvs : List (Key × V)} {ws : List (Value × Value)}, VV (kvs.map fun kv => (kV kv.1, kv.2)) ws → ∃ rs, Carries (jD P w) ws rs ∧ KV kvs rs
  | [], _, r => by rw [List.map_nil] at r; cases r; exact ⟨[], True.intro, .nil⟩
  | p :: kvs, _, r => by
    rw [List.map_cons] at r
    cases r with
    | @cons a b as bs h t =>
      obtain ⟨rs, c, q⟩ := kA (P := P) (w := w) t
      obtain ⟨b1, b2⟩ := b
      exact ⟨(p.1, b2) :: rs, ⟨zeg h.1, rfl, c⟩, .cons ⟨rfl, h.2⟩ q⟩
noncomputable def zkC (trs : List (TE × TE)) : TE := fun σ H Q => ∀ p, H p = none → zem trs σ (upd H p (.dK [])) fun ps H2 => H2 p = some (.dK []) ∧ ∃ kvs : List (Key × V), ps = kvs.map (fun kv => (kV kv.1, kv.2)) ∧ kvs.length ≤ 15 ∧ Q (.ref p) (upd H2 p (.dK (za7 [] kvs)))
theorem zhZ {X : Cx} {pos : Pos} {keys : List (Option Expr)} {values : List Expr} {trs : List (TE × TE)} (h : PPs X pos keys values trs) (hall : keys.all (·.isSome) = true) (hl : keys.length = values.length) (h0 : keys ≠ [])
    (h15 : keys.length ≤ 15) : PE X (.Dict keys values pos) (zkC trs) := by
  intro pins s σ H Q I q
  have hn := I.hok.fresh (Nat.le_refl s.heap.objs.size)
  have I1 := I.laid (a := s.heap.objs.size) (o := .dK []) (h' := s.heap.push { cls := .type "dict", data := .dict #[] }) (t' := s.toks) (fun _ _ q => Heap.get?_push_of_some _ q) (Nat.le_refl _) (zgp s.heap I.big)
  refine wpAny_Dict_walk (knd := jD X.prog X.w) hall hl h0 h15 (thn (h pins _ σ _ _ I1 (q _ hn)) fun ws s2 ⟨ps, H2, I2, rel, e, kvs, ep, lk, q2⟩ => ?_)
  subst ep
  obtain ⟨rs, c, rk⟩ := kA (P := X.prog) (w := X.w) rel
  obtain ⟨z, hd, vs0, r0, dd⟩ := zjf I2.hok e
  cases r0
  refine ⟨rs, c, dd, fun h' dd' hs => ⟨.ref s.heap.objs.size, _, ?_, rfl, q2⟩⟩
  have hz : (za7 [] kvs).length ≤ sizeLine := by
    have h1 := yc kvs []
    rw [List.length_nil] at h1
    rw [sizeLine_eq]; omega
  have he : ∃ q, h'.get? s.heap.objs.size = some q := let ⟨q, _, _, hq, _⟩ := dd'; ⟨q, hq⟩
  exact zb5 I2 (by rw [e]; exact True.intro) hs he (zhb hz hd (rk.merge .nil) dd')
structure M1 (X : Cx) (o : Expr) (m : Str) (apos : Pos) (e : Expr) (cpos : Pos) : Prop where
  base : attributeBase o m X.env (eval o X.env) = eval o X.env
  few : ((backTo cpos (starEach [e] X.env)).all (fun x => !x.1) && (backToKw cpos (keywordEach [] X.env)).all (fun x => x.1.isSome)
    && decide (([e] : List Expr).length + ([] : List Keyword).length + (if ([] : List Keyword).isEmpty then 0 else 1) < 30)) = true
  line : (apos.endLine == cpos.line) = true
  trees : backTo cpos (starEach [e] X.env) = [(false, eval e X.env)]
structure M2 (X : Cx) (o : Expr) (m : Str) (apos : Pos) (e f : Expr) (cpos : Pos) : Prop where
  base : attributeBase o m X.env (eval o X.env) = eval o X.env
  few : ((backTo cpos (starEach [e, f] X.env)).all (fun x => !x.1) && (backToKw cpos (keywordEach [] X.env)).all (fun x => x.1.isSome)
    && decide (([e, f] : List Expr).length + ([] : List Keyword).length + (if ([] : List Keyword).isEmpty then 0 else 1) < 30)) = true
  line : (apos.endLine == cpos.line) = true
  trees : backTo cpos (starEach [e, f] X.env) = [(false, eval e X.env), (false, eval f X.env)]
section
variable {X : Cx} {pins : List (Addr × Obj)} {σ : St} {H : Hp} {s : Shared} {a : Addr} {y d : V} {u r : Value} {o : Option V} {A : Around} {E : Value → Shared → Prop}
end
section
variable {X : Cx} {o e f : Expr} {apos cpos : Pos} {td ty tx : TE}
end
section
variable {X : Cx} {pins : List (Addr × Obj)} {σ : St} {H : Hp} {s : Shared} {a : Addr} {kvs : List (Key × V)} {A : Around} {E : Value → Shared → Prop}
end
section
variable {X : Cx} {pins : List (Addr × Obj)} {σ : St} {H : Hp} {s : Shared} {a : Addr} {y : V} {u : Value} {A : Around} {E : Value → Shared → Prop}
end
end L2
namespace Att
open PySem PySem.W PySem.Calls PyProof.Rows
theorem vG {P : Params} {h : Heap} : ∀ (ns : List Int) (vs : List Value), WellAll P h vs (ns.map WData.int) → IntsAre vs ns := by
  intro ns
  induction ns with
  | nil =>
    intro vs w
    rw [List.map_nil] at w
    cases w
    exact .nil
  | cons n ns ih =>
    intro vs w
    rw [List.map_cons] at w
    cases w with
    | cons a b =>
      cases a
      exact .cons _ _ (ih _ b)
theorem zeZ {l : OpenLaw} {n : Nat} (hn : l.most = some n) {P : Params} {h : Heap} {args : List WData} {vals : List Value}
    (hpre : l.row.toRowW.claim.pre args = true) (hwl : WellAll P h vals args) :
    ∃ a vs ns, vals = [Value.ref a] ∧ args = [WData.list (ns.map WData.int)] ∧ h.get? a = some { cls := .type "list", data := .seq vs.toArray } ∧ IntsAre vs ns ∧ ns.length ≤ n := by
  have hsh : WShape.hasAll [] args [.list .int] = true := (pre_splitW hpre).1
  have hc : l.pre.holds [] { args := args } = true := (pre_splitW hpre).2
  obtain ⟨d, r, rfl, h1, h2⟩ := hasAllW_cons hsh
  obtain rfl := hasAllW_nil h2
  obtain ⟨xs, rfl, h3⟩ := hasW_list h1
  obtain ⟨ns, rfl⟩ := items_int h3
  have hlen : ns.length ≤ n := by
    unfold OpenLaw.pre at hc
    have h4 : (WTm.not (.lt (.lit (.int (n : Int))) (.len (.arg 0)))).holds [] { args := [.list (ns.map .int)] } = true := by
      have h4 := (holds_andW hc).1
      rw [hn] at h4
      exact h4
    have h5 := condW_of h4 (w_not (w_lt w_lit (w_len_list (w_arg rfl))))
    rw [List.length_map] at h5
    refine Nat.le_of_not_lt fun q => ?_
    have q' : (n : Int) < ((ns.length : Nat) : Int) := by omega
    first
      | (rw [decide_eq_true q'] at h5; exact absurd h5 (by decide))
      | (simp at h5; omega)
  cases hwl with
  | cons w1 w2 =>
    cases w2
    cases w1 with
    | list ho hall => exact ⟨_, _, ns, rfl, rfl, ho, vG ns _ hall, hlen⟩
theorem zeO (l : OpenLaw) (args : List WData) : l.row.toRowW.claim.post args (.bool true) args = true :=
  postW_of (r := l.row.toRowW) (X := (true == true))
    (show WShape.has [] (.bool true) .bool = true by first | rfl | decide | simp [WShape.has, WShape.arms, WShape.armsAll])
    (show (WTm.eq .res (.lit (.bool true))).value [] { args := args, res := some (.bool true), after := args } = some (.bool (true == true)) from w_eq_bool (w_res rfl) w_lit) rfl
theorem attach_call {l : OpenLaw} {n : Nat} {q : Program} {loose : List Str} {XP : (Str → Option Value) → Heap → Prop} {YP : World → Heap → Prop} {d : DefRec}
    (hn : l.most = some n) (hdf : d.params.defaults = [])
    (call : ∀ (w : World) (s₀ s₁ : Shared) (mg mb : Str → Option Value) (fa : Addr) (o : Obj) (pm cd doc : Value) (a : Addr) (vs : List Value) (ns : List Int),
      Ground q loose [] XP w s₀ mg mb s₁.heap → YP w s₁.heap →
      s₁.heap.get? fa = some o → o.data = .func (docDef d.name d.params d.body d.scope pm cd doc) → s₁.heap.CodeRec cd d.name → mg d.name = some (.ref fa) →
      s₁.heap.get? a = some { cls := .type "list", data := .seq vs.toArray } → IntsAre vs ns → ns.length ≤ n → s₁.gens = #[] →
      codeAny (model l.prog w) callerA (.call (.ref fa) ⟨[.ref a], []⟩) (fun r s' => r = .ok (.ret (.bool true)) ∧ OldK s₁.heap s'.heap ∧ s'.os = s₁.os ∧ AllBare s'.gens) s₁) :
    WalkO q loose XP YP l.row.toRowW d [] (fun f vs => PySem.call f vs) := by
  intro w s₀ s₁ mg mb G Y fa o pm cd doc dV kV ho hd hcd hD hmg hg args vals as hpre hlay hrd hwl hlo
  obtain rfl : dV = .none := Dflts.none hD hdf
  obtain rfl : kV = .none := Dflts.noKw hD
  obtain ⟨a, vs, ns, rfl, rfl, hobj, hints, hlen⟩ := zeZ hn hpre hwl
  refine enter_call (codeAny_mono (call w s₀ s₁ mg mb fa o pm cd doc a vs ns G Y ho (fd_plain hd) hcd hmg hobj hints hlen hg) fun r s' hq => ?_)
  obtain ⟨rfl, h2, h3, h4⟩ := hq
  exact ⟨.inl ⟨.bool true, .bool true, [], rfl, fun _ => rfl, .bool true, zeO l _, fun _ => ⟨List.Pairwise.nil, fun _ hm => (nomatch hm)⟩⟩, h2, h3, h4⟩
section
variable {prog : Program} {w : World} {A : Around} {E : Value → Shared → Prop} {s : Shared} {K : Frag}
end
end Att
namespace L2
open PySem PySem.Spec PyProof.Rows
theorem zbn : ∀ {vs : List Value} {ns : List Int}, IntsAre vs ns → Vals (ns.map V.int) vs
  | _, _, .nil => .nil
  | _, _, .cons n t h => .cons ⟨t, rfl⟩ (zbn h)
noncomputable def Only (H : Hp) : Prop := ∀ b, H b = none ∨ ∃ o xs, H b = some (.frz o (.lst xs))
theorem zgT {P : Program} {w : World} {K : PySem.W.Frag} {mg mb : Str → Option Value} {CX : CXT} {k : Nat} {fa a : Addr} {fd : FuncData} {x : Str} {sp : Sp} {s₁ : Shared} {vs : List Value} {ns : List Int}
    (KX : K.In s₁.heap) (hns : s₁.heap.Ns mainGlobals mg) (hb : s₁.heap.Ns builtinsNs mb) (hbb : ∀ x : Str, x ≠ "__name__" → mb x = bootBuiltins x) (hlim : s₁.heap.NoLimit) (hg : s₁.gens = #[])
    (ha : s₁.heap.get? a = some { cls := .type "list", data := .seq vs.toArray }) (hi : IntsAre vs ns) (hl : ns.length ≤ sizeLine) (hr : Room k callerA)
    (F : ∀ base : Heap, K.In base → base.Ns mainGlobals mg → FnOk P w K mg base CX k fa fd [x] sp) (hbind : ∀ (s : Shared) (u : Value), BindsTo s fd ⟨[u], []⟩ [(x, u)])
    (hsp : ∀ H : Hp, Only H → SqL K H a (ns.map V.int) → sp [.ref a] H (fun v _ => v = .bl true) fun _ _ _ => False)
    (hCX : ∀ H e s', CX [] H s₁ (fun _ _ _ => False) e s' → False) :
    codeAny (model P w) callerA (.call (.ref fa) ⟨[.ref a], []⟩) (fun r s' => r = .ok (.ret (.bool true)) ∧ OldK s₁.heap s'.heap ∧ s'.os = s₁.os ∧ AllBare s'.gens) s₁ := by
  have rv := zbn hi
  have lenV := hi.length
  -- from an abstract heap in which nothing but the script may be tracked
  have core : ∀ H : Hp, Only H → SqL K H a (ns.map V.int) → HOk P w H s₁.heap → (∀ b, H b ≠ none → b = a) → (H a ≠ none → K.lookup a = none) →
      codeAny (model P w) callerA (.call (.ref fa) ⟨[.ref a], []⟩) (fun r s' => r = .ok (.ret (.bool true)) ∧ OldK s₁.heap s'.heap ∧ s'.os = s₁.os ∧ AllBare s'.gens) s₁ := by
    intro H hO hS hok hA hK
    have base_of : ∀ {b : Addr} {o : Obj}, s₁.heap.get? b = some o → H b = none → (hidT s₁.heap H).get? b = some o := fun e n => zgD e n
    have noA : ∀ {b : Addr} {o : Obj} {es : Array DictEntry} {ep : Nat}, s₁.heap.get? b = some o → o.data = .dict es ep → H b = none := fun {b o es ep} e d => by
      cases q : H b with
      | none => rfl
      | some u =>
        have e' : b = a := hA b (by rw [q]; simp)
        subst e'
        rw [ha] at e; cases e
        have d' : Data.seq vs.toArray _ = Data.dict es ep := d
        cases d'
    have nsK : ∀ {b : Addr} {m : Str → Option Value}, s₁.heap.Ns b m → (hidT s₁.heap H).Ns b m := fun {b m} ⟨o, es, ep, e, d, r⟩ => ⟨o, es, ep, base_of e (noA e d), d, r⟩
    have hKb : K.In (hidT s₁.heap H) := fun b o e => base_of (KX b o e) (by
      cases q : H b with
      | none => rfl
      | some u =>
        have e' : b = a := hA b (by rw [q]; simp)
        subst e'
        rw [hK (by rw [q]; simp)] at e; cases e)
    have hM : Mod K mg (hidT s₁.heap H) := ⟨hKb, nsK hns, ⟨mb, nsK hb, hbb⟩, let ⟨mc, h1, h2⟩ := hlim; ⟨mc, nsK h1, h2⟩⟩
    have e0 : Env0 P w K mg (hidT s₁.heap H) callerA [] s₁ H := ⟨rfl, hM, fun b o e => zhG e, Nat.le_of_eq (zeH _ _), trivial, fun b hb => absurd (show b ∈ ([] : List Addr) from hb) (by simp), hok, .of_eq hg⟩
    refine codeAny_mono ((F _ hKb (nsK hns)).run callerA [] s₁ H ⟨[.ref a], []⟩ [.ref a] [.ref a] _ _ hr e0 (hbind s₁ (.ref a)) (.cons rfl .nil) (hsp H hO hS)) fun r s' h => ?_
    cases r with
    | error e => exact (hCX H e s' h).elim
    | ok fl =>
      cases fl with
      | next => exact False.elim h
      | brk => exact False.elim h
      | cont => exact False.elim h
      | ret u =>
        obtain ⟨v, H', os, bare, un, hok', r', q⟩ := h
        have q' : v = .bl true := q
        subst q'
        obtain rfl : u = Value.bool true := r'
        refine ⟨rfl, OldK.of_keep fun b o e => ?_, os, bare⟩
        cases q : H b with
        | none => exact un.keep b o e q (by intro z; exact absurd (show b ∈ ([] : List Addr) from z) (by simp)) (by simp)
        | some u =>
          rcases hO b with z | ⟨ob, xs, z⟩
          · rw [q] at z; cases z
          · have z2 := un.frzs b ob _ z
            obtain ⟨e1, _⟩ := hok b _ z
            obtain ⟨e2, _⟩ := hok' b _ z2
            rw [e] at e1; cases e1
            exact e2
  cases hk : K.lookup a with
  | some o =>
    -- the script is one of the module's own objects
    have e := KX a o hk
    rw [ha] at e
    cases e
    refine core (fun _ => none) (fun _ => .inl rfl) (.inr ⟨_, vs.toArray, _, hk, rfl, rfl, rfl, by rw [List.size_toArray, lenV]; exact hl, by simpa using rv⟩) (fun b u z => by have z' : (none : Option HO) = some u := z; cases z') (fun b z => absurd rfl z) fun z => absurd rfl z
  | none =>
    refine core (fun b => if b = a then some (.frz { cls := .type "list", data := .seq vs.toArray } (.lst (ns.map V.int))) else none) (fun b => ?_) (.inl (.inr ⟨{ cls := .type "list", data := .seq vs.toArray }, if_pos rfl⟩)) (fun b u z => ?_) (fun b z => ?_) fun _ => hk
    · by_cases hb : b = a
      · exact .inr ⟨_, _, if_pos hb⟩
      · exact .inl (if_neg hb)
    · by_cases hb : b = a
      · have z' := (if_pos hb).symm.trans z
        cases z'
        subst hb
        exact ⟨ha, by rw [List.length_map]; exact hl, vs, _, rv, ha⟩
      · have z' := (if_neg hb).symm.trans z
        cases z'
    · by_cases hb : b = a
      · exact hb
      · exact absurd (if_neg hb) z
end L2
namespace L2
open PySem PySem.Spec PyProof.Rows
theorem walk_of {l : PySem.W.OpenLaw} {n k : Nat} {q : Program} {loose : List Str} {XP : (Str → Option Value) → Heap → Prop} {YP : World → Heap → Prop} {d : DefRec} {K : Params → PySem.W.Frag} {CX : World → CXT} {sp : World → Sp} {x : Str}
    (hn : l.most = some n) (hn2 : n ≤ sizeLine) (hdf : d.params.defaults = []) (hr : Room k callerA)
    (hY : ∀ (w : World) (h : Heap), YP w h → (K w.params).In h)
    (F : ∀ (w : World) (mg : Str → Option Value) (fa : Addr) (h : Heap), (K w.params).In h → h.Ns mainGlobals mg → mg d.name = some (.ref fa) →
      ∃ fd : FuncData, (∀ (s : Shared) (u : Value), BindsTo s fd ⟨[u], []⟩ [(x, u)]) ∧
        ∀ base : Heap, (K w.params).In base → base.Ns mainGlobals mg → FnOk l.prog w (K w.params) mg base (CX w) k fa fd [x] (sp w))
    (hsp : ∀ (w : World) (H : Hp) (a : Addr) (ns : List Int), ns.length ≤ n → Only H → SqL (K w.params) H a (ns.map V.int) → sp w [.ref a] H (fun v _ => v = .bl true) fun _ _ _ => False)
    (hCX : ∀ (w : World) (H : Hp) (s : Shared) (e : Value) (s' : Shared), CX w [] H s (fun _ _ _ => False) e s' → False) :
    PySem.W.WalkO q loose XP YP l.row.toRowW d [] (fun f vs => PySem.call f vs) := by
  refine Att.attach_call hn hdf fun w s₀ s₁ mg mb fa o pm cd doc a vs ns G Y ho hd hcd hmg hobj hints hlen hg => ?_
  have KX := hY w _ Y
  obtain ⟨fd, hb, hF⟩ := F w mg fa _ KX G.T.g hmg
  exact zgT KX G.T.g G.T.b G.T.builtins G.T.nolimit hg hobj hints (Nat.le_trans hlen hn2) hr hF hb (fun H hO hS => hsp w H a ns hlen hO hS) fun H e s' => hCX w H s₁ e s'
end L2
namespace L2
open PySem PySem.Spec PyProof.Rows
noncomputable def zr (s : Stmt) : Arguments := match s with
  | .FunctionDef _ a _ _ _ _ _ _ _ _ => a
  | _ => { posonlyargs := [], args := [], vararg := none, kwonlyargs := [], kw_defaults := [], kwarg := none, defaults := [] }
noncomputable def zj (s : Stmt) : List Stmt := match s with
  | .FunctionDef _ _ b _ _ _ _ _ _ _ => b
  | _ => []
noncomputable def zc (s : Stmt) : Scope := match s with
  | .FunctionDef _ _ _ _ _ _ sc _ _ _ => sc
  | _ => { kind := .function, names := [], isGenerator := false, isCoroutine := false }
abbrev CX0 : CXT := fun _ _ _ _ _ _ => False
abbrev E0 : XK := fun _ _ _ => False
theorem zkn {X : Cx} : zen CX0 X E0 := fun _ _ _ _ _ _ _ h => h.elim
structure Fun (K : PySem.W.Frag) (x qual : Str) (st : Stmt) (f : Addr) (fd : FuncData) : Prop where
  ex : ∃ (oc : Value) (od : Option Addr) (kV doc pm : Value) (an : Option Addr) (cdv ct : Value) (osl : Array (Option Value)),
    fd = PySem.W.fnOf x qual (zr st) (zj st) (zc st) .none kV doc pm an cdv ct ∧ K.lookup f = some ⟨oc, od, .func fd, osl⟩ ∧ PySem.W.codeIn K cdv qual = true
  kp : PySem.W.keepIn K (.ref f) = true
section
variable {P : Program} {w : World} {K : PySem.W.Frag} {mg : Str → Option Value} {base : Heap}
theorem Fun.ok {x qual : Str} {st : Stmt} {f : Addr} {fd : FuncData} {N ps : List Str} {k : Nat} {sp : Sp} (F : Fun K x qual st f fd) (S : FnScope N ps (zc st)) (len : ∀ vs H Q E, sp vs H Q E → vs.length = ps.length)
    (hbody : ∀ (cdv : Value) (A : Around) (outer : List Env) (s : Shared) (H : Hp) (vs : List V) (Q : VK) (E : XK), Room k (A.deeper (envOfC qual (zc st) s.heap.objs.size f cdv)) → sp vs H Q E →
      ∃ t, PSs (cxOf CX0 P w K mg base N qual (zc st) f cdv A outer s H E).nox (zj st) t ∧ t { nx := fun _ H' => Q .non H', rt := Q } (start N vs) H) : FnOk P w K mg base CX0 (k + 1) f fd ps sp := by
  obtain ⟨oc, od, kV, doc, pm, an, cdv, ct, osl, rfl, lk, hcd⟩ := F.ex
  refine zja lk hcd S len fun A outer s H vs Q E hr hsp => ?_
  obtain ⟨t, h, q⟩ := hbody cdv A outer s H vs Q E hr hsp
  exact ⟨t, h.nox, q⟩
theorem Fun.binds {x qual : Str} {st : Stmt} {f : Addr} {fd : FuncData} {ps : List Str} (F : Fun K x qual st f fd)
    (h : ∀ (kV doc pm : Value) (an : Option Addr) (cdv ct : Value) (us : List Value), us.length = ps.length → bindArgs (PySem.W.fnOf x qual (zr st) (zj st) (zc st) .none kV doc pm an cdv ct) ⟨us, []⟩ = pure (ps.zip us)) : Binds K fd ps [] := by
  obtain ⟨oc, od, kV, doc, pm, an, cdv, ct, osl, rfl, lk, hcd⟩ := F.ex
  exact .all (h kV doc pm an cdv ct)
theorem jX {x qual : Str} {st : Stmt} {f : Addr} {oc : Value} {od an : Option Addr} {osl : Array (Option Value)} {kV doc pm cdv ct : Value} (l : K.lookup f = some ⟨oc, od, .func (PySem.W.fnOf x qual (zr st) (zj st) (zc st) .none kV doc pm an cdv ct), osl⟩)
    (c : PySem.W.codeIn K cdv qual = true) (k : PySem.W.keepIn K (.ref f) = true) : Fun K x qual st f (PySem.W.fnOf x qual (zr st) (zj st) (zc st) .none kV doc pm an cdv ct) := ⟨⟨oc, od, kV, doc, pm, an, cdv, ct, osl, rfl, l, c⟩, k⟩
end
theorem zjM {A : Around} {k : Nat} (hr : Room k A) : A.units + 1 < cLine := Nat.lt_of_le_of_lt (Nat.add_le_add_left (by decide : 1 ≤ 64) _) hr.units
section
variable {X : Cx}
theorem pv (i : Nat) {x : Str} {pos : Pos} (hN : X.N[i]? = some x := by rfl) (hv : Vis X.env.scope x := by first | exact Or.inl rfl | exact Or.inr (Or.inl rfl) | exact Or.inr (Or.inr rfl)) (hd : (x == ("__debug__" : Str)) = false := by decide)
    (hcd : (x == ("__classdict__" : Str)) = false := by decide) : PE X (.Name x pos) (tVar i) := zjZ hN hv hd hcd
end
theorem iteF {A B : Prop} (h : B) : if false = true then A else B := by
  rw [if_neg Bool.false_ne_true]
  exact h
theorem iteT {A B : Prop} (h : A) : if true = true then A else B := by
  rw [if_pos rfl]
  exact h
noncomputable def Same (H H' : Hp) : Prop := ∀ b o, H b = some o → H' b = some o
theorem Same.refl (H : Hp) : Same H H := fun _ _ h => h
theorem Same.trans {H H1 H2 : Hp} (a : Same H H1) (b : Same H1 H2) : Same H H2 := fun c o h => b c o (a c o h)
theorem Same.free {H H' : Hp} (e : Same H H') {l : Addr} (h : H' l = Option.none) : H l = Option.none := by
  cases q : H l with
  | none => rfl
  | some o =>
    rw [e l o q] at h
    cases h
theorem Same.seq {K : PySem.W.Frag} {H H' : Hp} {a : Addr} {xs : List V} (e : Same H H') (h : SqL K H a xs) : SqL K H' a xs := by
  rcases h with (h | ⟨o, h⟩) | h
  · exact .inl (.inl (e _ _ h))
  · exact .inl (.inr ⟨o, e _ _ h⟩)
  · exact .inr h
end L2
namespace L2
open PySem PySem.Spec PyProof.Rows
section
variable {X : Cx}
theorem zfe : xA X (.builtin "len") (fun xs H Q => ∃ a kvs, xs = [V.ref a] ∧ H a = some (.dK kvs) ∧ Q (.int kvs.length) H) := by
  intro pins s σ H xs us Q I r h
  obtain ⟨a, kvs, rfl, ha, q⟩ := h
  obtain ⟨u, rfl, ru⟩ := vals1 r
  cases ru
  exact zkx I (.inl ha) fun t s' I' => ⟨.int kvs.length, H, I', ⟨t, rfl⟩, q⟩
end
section
variable {κ : Type} [DecidableEq κ]
end
end L2
namespace L2.Y
open PySem PySem.Spec PyProof.Rows
abbrev Frag := PySem.W.Frag
mutual
/-- the value v is worth d over the heap H -/
inductive Rep (K : Frag) (H : Hp) : D → V → Prop
  | non : Rep K H .none .non
  | bl (b : Bool) : Rep K H (.bool b) (.bl b)
  | int (i : Int) : Rep K H (.int i) (.int i)
  | str (x : Str) : Rep K H (.str x) (.str x)
  | tup {a : Addr} {xs : List V} {ds : List D} : H a = some (.tup xs) → Reps K H ds xs → Rep K H (.tuple ds) (.ref a)
  | lst {a : Addr} {xs : List V} {ds : List D} : Rd H a (.lst xs) → Reps K H ds xs → Rep K H (.list ds) (.ref a)
  | dK {a : Addr} {kvs : List (Key × V)} {ds : List D} : H a = some (.dK kvs) → Reps K H ds (kvs.map (·.2)) → Rep K H (.dict ((kvs.map fun p => keyD p.1).zip ds)) (.ref a)
  | dT {a : Addr} {kvs : List (List Key × V)} {ds : List D} : H a = some (.dT kvs) → Reps K H ds (kvs.map (·.2)) → Rep K H (.dict ((.none, .none) :: (kvs.map fun p => wX p.1).zip ds)) (.ref a)
  | dF {a : Addr} {o : Obj} {kvs : List (List Key × V)} {ds : List D} : H a = some (.frz o (.dT kvs)) → Reps K H ds (kvs.map (·.2)) → Rep K H (.dict ((.none, .int 0) :: (kvs.map fun p => wX p.1).zip ds)) (.ref a)
  | adr (a : Addr) : Rep K H (.dict [(.none, .str "e"), (.none, .int a)]) (.ref a)
  | scr {a : Addr} {xs : List V} {ds : List D} : SqL K H a xs → Reps K H ds xs → Rep K H (.dict ((.none, .bool true) :: ds.map fun d => (.none, d))) (.ref a)
inductive Reps (K : Frag) (H : Hp) : List D → List V → Prop
  | nil : Reps K H [] []
  | cons {d : D} {v : V} {ds : List D} {vs : List V} : Rep K H d v → Reps K H ds vs → Reps K H (d :: ds) (v :: vs)
end
section
variable {K : Frag} {H H' : Hp} {d : D} {v : V} {ds : List D} {vs : List V}
theorem Rd.same {a : Addr} {u : HO} (s : Same H H') (h : Rd H a u) : Rd H' a u := by
  rcases h with h | ⟨o, h⟩
  · exact .inl (s _ _ h)
  · exact .inr ⟨o, s _ _ h⟩
theorem SqT.same {a : Addr} {xs : List V} (s : Same H H') (h : SqT K H a xs) : SqT K H' a xs := by
  rcases h with h | h
  · exact .inl (Rd.same s h)
  · exact .inr h
theorem SqL.same {a : Addr} {xs : List V} (s : Same H H') (h : SqL K H a xs) : SqL K H' a xs := by
  rcases h with h | h
  · exact .inl (Rd.same s h)
  · exact .inr h
mutual
theorem Rep.same (s : Same H H') : ∀ {d : D} {v : V}, Rep K H d v → Rep K H' d v
  | _, _, .non => .non
  | _, _, .bl b => .bl b
  | _, _, .int i => .int i
  | _, _, .str x => .str x
  | _, _, .tup h r => .tup (s _ _ h) (Reps.same s r)
  | _, _, .lst h r => .lst (Rd.same s h) (Reps.same s r)
  | _, _, .dK h r => .dK (s _ _ h) (Reps.same s r)
  | _, _, .dT h r => .dT (s _ _ h) (Reps.same s r)
  | _, _, .dF h r => .dF (s _ _ h) (Reps.same s r)
  | _, _, .scr h r => .scr (SqL.same s h) (Reps.same s r)
  | _, _, .adr a => .adr a
theorem Reps.same (s : Same H H') : ∀ {ds : List D} {vs : List V}, Reps K H ds vs → Reps K H' ds vs
  | _, _, .nil => .nil
  | _, _, .cons h r => .cons (Rep.same s h) (Reps.same s r)
end
theorem Reps.length : ∀ {ds : List D} {vs : List V}, Reps K H ds vs → ds.length = vs.length
  | _, _, .nil => rfl
  | _, _, .cons _ r => by rw [List.length_cons, List.length_cons, Reps.length r]
theorem Reps.get : ∀ {ds : List D} {vs : List V} {i : Nat} {d : D}, Reps K H ds vs → ds[i]? = some d → ∃ v, vs[i]? = some v ∧ Rep K H d v
  | _, _, _, _, .nil, e => by simp at e
  | _, _, 0, _, .cons h _, e => by simp at e; subst e; exact ⟨_, rfl, h⟩
  | _, _, i + 1, d, .cons _ r, e => by
    obtain ⟨v, h1, h2⟩ := Reps.get (i := i) (d := d) r (by simpa using e)
    exact ⟨v, by simpa using h1, h2⟩
theorem Reps.getV : ∀ {ds : List D} {vs : List V} {i : Nat} {v : V}, Reps K H ds vs → vs[i]? = some v → ∃ d, ds[i]? = some d ∧ Rep K H d v
  | _, _, _, _, .nil, e => by simp at e
  | _, _, 0, _, .cons h _, e => by simp at e; subst e; exact ⟨_, rfl, h⟩
  | _, _, i + 1, v, .cons _ r, e => by
    obtain ⟨d, h1, h2⟩ := Reps.getV (i := i) (v := v) r (by simpa using e)
    exact ⟨d, by simpa using h1, h2⟩
theorem Reps.append : ∀ {ds es : List D} {vs ws : List V}, Reps K H ds vs → Reps K H es ws → Reps K H (ds ++ es) (vs ++ ws)
  | _, _, _, _, .nil, s => s
  | _, _, _, _, .cons r t, s => .cons r (Reps.append t s)
theorem Reps.take : ∀ {ds : List D} {vs : List V} (n : Nat), Reps K H ds vs → Reps K H (ds.take n) (vs.take n)
  | _, _, 0, _ => .nil
  | _, _, _ + 1, .nil => .nil
  | _, _, n + 1, .cons r t => .cons r (Reps.take n t)
theorem Reps.drop : ∀ {ds : List D} {vs : List V} (n : Nat), Reps K H ds vs → Reps K H (ds.drop n) (vs.drop n)
  | _, _, 0, r => r
  | _, _, _ + 1, .nil => .nil
  | _, _, n + 1, .cons _ t => Reps.drop n t
theorem Reps.set : ∀ {ds : List D} {vs : List V} (i : Nat) {d : D} {v : V}, Reps K H ds vs → Rep K H d v → Reps K H (ds.set i d) (vs.set i v)
  | _, _, _, _, _, .nil, _ => .nil
  | _, _, 0, _, _, .cons _ t, r => .cons r t
  | _, _, i + 1, _, _, .cons q t, r => .cons q (Reps.set i t r)
theorem Reps.one (h : Rep K H d v) : Reps K H [d] [v] := .cons h .nil
theorem Reps.inv1 (h : Reps K H [d] vs) : ∃ v, vs = [v] ∧ Rep K H d v := by
  cases h with
  | cons h r => cases r; exact ⟨_, rfl, h⟩
theorem Reps.ints : ∀ {is : List Int} {vs : List V}, Reps K H (is.map PyData.int) vs → vs = is.map V.int
  | [], _, h => by cases h; rfl
  | i :: is, _, h => by
    cases h with
    | cons h r => cases h; rw [Reps.ints r]; rfl
end
noncomputable def hide (O : List Addr) (H : Hp) : Hp := fun a => if a ∈ O then none else H a
section
variable {O O' : List Addr} {H H' : Hp} {a : Addr} {o : HO}
theorem qo (h : a ∉ O) : hide O H a = H a := if_neg h
theorem qc (h : hide O H a = some o) : a ∉ O ∧ H a = some o := by
  unfold hide at h
  split at h
  · cases h
  · exact ⟨by assumption, h⟩
theorem zZ (s : Same H H') : Same (hide O H) (hide O H') := fun b o e => by
  obtain ⟨h1, h2⟩ := qc e
  rw [qo h1]; exact s _ _ h2
theorem jY : Same (hide O H) H := fun _ _ e => (qc e).2
theorem qE (h : ∀ p ∈ O', p ∈ O) : Same (hide O H) (hide O' H) := fun b o e => by
  obtain ⟨h1, h2⟩ := qc e
  rw [qo fun z => h1 (h b z)]; exact h2
theorem zgr : hide [] H = H := by funext a; exact qo (by simp)
theorem zX (h : a ∈ O) : hide O (upd H a o) = hide O H := by
  funext b
  unfold hide
  split
  · rfl
  · rw [zv]; rintro rfl; contradiction
theorem jn (h : H a = none) : Same H (upd H a o) := fun b u e => by
  rw [zv (zE e h)]; exact e
end
inductive OwnAt (K : Frag) (O : List Addr) (H : Hp) : D → Addr → Prop
  | lst {p : Addr} {xs : List V} {ds : List D} : H p = some (.lst xs) → Reps K (hide O H) ds xs → OwnAt K O H (.list ds) p
  | dK {p : Addr} {kvs : List (Key × V)} {ds : List D} : H p = some (.dK kvs) → Reps K (hide O H) ds (kvs.map (·.2)) → OwnAt K O H (.dict ((kvs.map fun q => keyD q.1).zip ds)) p
  | dT {p : Addr} {kvs : List (List Key × V)} {ds : List D} : H p = some (.dT kvs) → Reps K (hide O H) ds (kvs.map (·.2)) → OwnAt K O H (.dict ((.none, .none) :: (kvs.map fun q => wX q.1).zip ds)) p
noncomputable def Dom (O : List Addr) (H : Hp) : Prop := ∀ p ∈ O, ∃ o, H p = some o ∧ ∀ xs, o ≠ .tup xs
theorem Dom.same {O : List Addr} {H H' : Hp} (h : Dom O H) (s : Same H H') : Dom O H' := fun p hp => let ⟨o, e, n⟩ := h p hp; ⟨o, s _ _ e, n⟩
theorem Dom.out {O : List Addr} {H : Hp} (h : Dom O H) {p : Addr} (e : H p = none) : p ∉ O := fun z => by
  obtain ⟨o, e', _⟩ := h p z
  rw [e] at e'; cases e'
theorem Dom.tup {O : List Addr} {H : Hp} (h : Dom O H) {p : Addr} {xs : List V} (e : H p = some (.tup xs)) : p ∉ O := fun z => by
  obtain ⟨o, e', n⟩ := h p z
  rw [e] at e'; cases e'
  exact n xs rfl
structure Fx where
  H0 : Hp
  Oc : List Addr
  V0 : Hp
structure SR (K : Frag) (F : Fx) (O : List Addr) (ρ : Env') (σ : St) (H : Hp) : Prop where
  hb : Same F.H0 H
  vb : Same F.V0 (hide O H)
  oc : ∀ p ∈ F.Oc, p ∈ O
  dom : Dom O H
  len : σ.length = ρ.length
  val : ∀ (i : Nat) d, ρ[i]? = some (some (.val d)) → ∃ v, σ[i]? = some (some v) ∧ Rep K (hide O H) d v
  own : ∀ (i : Nat) d, ρ[i]? = some (some (.own d)) → ∃ p, σ[i]? = some (some (.ref p)) ∧ p ∈ O ∧ (p ∉ F.Oc ∧ F.H0 p = none) ∧ OwnAt K O H d p
  sep : ∀ (i j : Nat) d d' p, ρ[i]? = some (some (.own d)) → ρ[j]? = some (some (.own d')) → σ[i]? = some (some (.ref p)) → σ[j]? = some (some (.ref p)) → i = j
theorem OwnAt.same {K : Frag} {O : List Addr} {H H' : Hp} {d : D} {p : Addr} (s : Same H H') (h : OwnAt K O H d p) : OwnAt K O H' d p := by
  cases h with
  | lst h r => exact .lst (s _ _ h) (r.same (zZ s))
  | dK h r => exact .dK (s _ _ h) (r.same (zZ s))
  | dT h r => exact .dT (s _ _ h) (r.same (zZ s))
section
variable {K : Frag} {F : Fx} {O : List Addr} {ρ : Env'} {σ : St} {H H' : Hp}
theorem SR.same (r : SR K F O ρ σ H) (s : Same H H') : SR K F O ρ σ H' where
  hb := r.hb.trans s
  vb := r.vb.trans (zZ s)
  oc := r.oc
  dom := r.dom.same s
  len := r.len
  val := fun i d e => let ⟨v, h1, h2⟩ := r.val i d e; ⟨v, h1, h2.same (zZ s)⟩
  own := fun i d e => let ⟨p, h1, h2, h3, h4⟩ := r.own i d e; ⟨p, h1, h2, h3, h4.same s⟩
  sep := r.sep
theorem SR.fresh (r : SR K F O ρ σ H) {p : Addr} (h : H p = none) : p ∉ O := r.dom.out h
end
inductive RepB (K : Frag) (O : List Addr) (H : Hp) : D → V → Prop
  | val {d : D} {v : V} : Rep K (hide O H) d v → RepB K O H d v
  | own {d : D} {p : Addr} : p ∈ O → OwnAt K O H d p → RepB K O H d (.ref p)
inductive RepBs (K : Frag) (O : List Addr) (H : Hp) : List D → List V → Prop
  | nil : RepBs K O H [] []
  | cons {d : D} {v : V} {ds : List D} {vs : List V} : RepB K O H d v → RepBs K O H ds vs → RepBs K O H (d :: ds) (v :: vs)
theorem RepB.same {K : Frag} {O : List Addr} {H H' : Hp} {d : D} {v : V} (s : Same H H') (h : RepB K O H d v) : RepB K O H' d v := by
  cases h with
  | val h => exact .val (h.same (zZ s))
  | own h h' => exact .own h (h'.same s)
section
variable {K : Frag} {O : List Addr} {H : Hp} {v : V}
theorem RepB.non (h : RepB K O H .none v) : v = .non := by
  cases h with
  | val h => cases h; rfl
  | own _ h => cases h
theorem RepB.bl {b : Bool} (h : RepB K O H (.bool b) v) : v = .bl b := by
  cases h with
  | val h => cases h; rfl
  | own _ h => cases h
theorem RepB.int {i : Int} (h : RepB K O H (.int i) v) : v = .int i := by
  cases h with
  | val h => cases h; rfl
  | own _ h => cases h
theorem RepB.str {x : Str} (h : RepB K O H (.str x) v) : v = .str x := by
  cases h with
  | val h => cases h; rfl
  | own _ h => cases h
theorem RepB.tup {ds : List D} (h : RepB K O H (.tuple ds) v) : ∃ a xs, v = .ref a ∧ SqT K H a xs ∧ Reps K (hide O H) ds xs := by
  cases h with
  | val h =>
    cases h with
    | tup h r => exact ⟨_, _, rfl, .inl (.inl (jY _ _ h)), r⟩
  | own _ h => cases h
theorem RepB.lstR {ds : List D} (h : RepB K O H (.list ds) v) : ∃ a xs, v = .ref a ∧ Rd H a (.lst xs) ∧ Reps K (hide O H) ds xs := by
  cases h with
  | val h =>
    cases h with
    | lst h r => exact ⟨_, _, rfl, Rd.same jY h, r⟩
  | own _ h =>
    cases h with
    | lst h r => exact ⟨_, _, rfl, .inl h, r⟩
theorem RepB.lst {ds : List D} (h : RepB K O H (.list ds) v) : ∃ a xs, v = .ref a ∧ SqL K H a xs ∧ Reps K (hide O H) ds xs := by
  obtain ⟨a, xs, e, h1, h2⟩ := h.lstR
  exact ⟨a, xs, e, .inl h1, h2⟩
end
noncomputable def tD (K : Frag) (g : Env' → Option D) : TE := fun σ H Q => ∃ F O ρ d, SR K F O ρ σ H ∧ g ρ = some d ∧ ∀ v H', Same H H' → Rep K (hide O H') d v → Q v H'
noncomputable def tBo (K : Frag) (g : Env' → Option D) : TE := fun σ H Q => ∃ F O ρ d, SR K F O ρ σ H ∧ g ρ = some d ∧ ∀ v H', Same H H' → RepB K O H' d v → Q v H'
noncomputable def tTd (K : Frag) (g : Env' → Option Bool) : TT := fun σ H Q => ∃ F O ρ b, SR K F O ρ σ H ∧ g ρ = some b ∧ ∀ H', Same H H' → Q b H'
noncomputable def tAd (K : Frag) (g : Env' → Option (List D)) : TA := fun σ H Q => ∃ F O ρ ds, SR K F O ρ σ H ∧ g ρ = some ds ∧ ∀ vs H', Same H H' → Reps K (hide O H') ds vs → Q vs H'
noncomputable def tAb (K : Frag) (g : Env' → Option (List D)) : TA := fun σ H Q => ∃ F O ρ ds, SR K F O ρ σ H ∧ g ρ = some ds ∧ ∀ vs H', Same H H' → RepBs K O H' ds vs → Q vs H'
noncomputable def PD (X : Cx) (e : Expr) (g : Env' → Option D) : Prop := PE X e (tD X.K g)
noncomputable def PB (X : Cx) (e : Expr) (g : Env' → Option D) : Prop := PE X e (tBo X.K g)
noncomputable def PTd (X : Cx) (e : Expr) (g : Env' → Option Bool) : Prop := PT X e (tTd X.K g)
noncomputable def PAd (X : Cx) (es : List Expr) (g : Env' → Option (List D)) : Prop := PA X es (tAd X.K g)
noncomputable def PAb (X : Cx) (es : List Expr) (g : Env' → Option (List D)) : Prop := PA X es (tAb X.K g)
theorem PE.imp {X : Cx} {e : Expr} {t t' : TE} (h : PE X e t) (k : ∀ σ H Q, t' σ H Q → t σ H Q) : PE X e t' := fun pins s σ H Q I h' => h pins s σ H Q I (k σ H Q h')
theorem PT.imp {X : Cx} {e : Expr} {t t' : TT} (h : PT X e t) (k : ∀ σ H Q, t' σ H Q → t σ H Q) : PT X e t' := fun pins s σ H Q I h' => h pins s σ H Q I (k σ H Q h')
theorem PA.imp {X : Cx} {es : List Expr} {t t' : TA} (h : PA X es t) (k : ∀ σ H Q, t' σ H Q → t σ H Q) : PA X es t' := fun pos pins s σ H Q I h' => h pos pins s σ H Q I (k σ H Q h')
theorem PS.imp {X : Cx} {e : Stmt} {t t' : TS} (h : PS X e t) (k : ∀ D σ H, t' D σ H → t D σ H) : PS X e t' := fun pins s σ H D I h' => h pins s σ H D I (k D σ H h')
theorem PSs.imp {X : Cx} {e : List Stmt} {t t' : TS} (h : PSs X e t) (k : ∀ D σ H, t' D σ H → t D σ H) : PSs X e t' := fun pins s σ H D I h' => h pins s σ H D I (k D σ H h')
theorem PD.b {X : Cx} {e : Expr} {g : Env' → Option D} (h : PD X e g) : PB X e g := PE.imp h fun _ _ _ ⟨F, O, ρ, d, r, e, k⟩ => ⟨F, O, ρ, d, r, e, fun v H' s q => k v H' s (.val q)⟩
section
variable {X : Cx} {e a b : Expr} {es : List Expr} {pos : Pos}
theorem za {i : Nat} {x : Str} (h : PE X (.Name x pos) (tVar i)) : PD X (.Name x pos) (gVar i) := PE.imp h fun σ H Q ⟨F, O, ρ, d, r, e, k⟩ => by
  unfold gVar at e
  split at e
  · rename_i d' q
    cases e
    obtain ⟨v, h1, h2⟩ := r.val i _ q
    exact ⟨v, h1, k v H (Same.refl _) h2⟩
  · cases e
theorem wm {i : Nat} {x : Str} (h : PE X (.Name x pos) (tVar i)) : PB X (.Name x pos) (qk i) := PE.imp h fun σ H Q ⟨F, O, ρ, d, r, e, k⟩ => by
  unfold qk at e
  split at e
  · rename_i d' q
    cases e
    obtain ⟨v, h1, h2⟩ := r.val i _ q
    exact ⟨v, h1, k v H (Same.refl _) (.val h2)⟩
  · rename_i d' q
    cases e
    obtain ⟨p, h1, h2, h3, h4⟩ := r.own i _ q
    exact ⟨_, h1, k _ H (Same.refl _) (.own h2 h4)⟩
  · cases e
theorem we {v : V} {d : D} (h : PE X e (tC v)) (r : ∀ H, Rep X.K H d v) : PD X e (fun _ => some d) := PE.imp h fun σ H Q ⟨F, O, ρ, d', _, e, k⟩ => by
  cases e
  exact k v H (Same.refl _) (r _)
theorem zjd {i j} : PD X (.Constant (.int i) j pos) (fun _ => some (.int i)) := we zi3 fun _ => .int i
theorem zj6 {i j} : PD X (.Constant (.bool i) j pos) (fun _ => some (.bool i)) := we zkd fun _ => .bl i
theorem zi4 {j} : PD X (.Constant .none j pos) (fun _ => some .none) := we zjr fun _ => .non
theorem zjn {x j} : PD X (.Constant (.str x) j pos) (fun _ => some (.str x)) := we zcG fun _ => .str x
noncomputable def OpD (X : Cx) (f : Value → Value → Sem Value) (h : D → D → Option D) : Prop :=
  ∀ (pins : List (Addr × Obj)) (s : Shared) (σ : St) (H : Hp) (O : List Addr) (x y : V) (v u : Value) (dx dy d : D) (Q : VK), Inv X pins σ H s → Dom O H → RelV x v → RelV y u → RepB X.K O H dx x → RepB X.K O H dy y → h dx dy = some d →
    (∀ z H', Same H H' → Rep X.K (hide O H') d z → Q z H') → wpAny (model X.prog X.w) X.A (f v u) (EP X pins σ Q) X.xe s
noncomputable def UnD (X : Cx) (f : Value → Sem Value) (h : D → Option D) : Prop :=
  ∀ (pins : List (Addr × Obj)) (s : Shared) (σ : St) (H : Hp) (O : List Addr) (x : V) (v : Value) (dx d : D) (Q : VK), Inv X pins σ H s → Dom O H → RelV x v → RepB X.K O H dx x → h dx = some d →
    (∀ z H', Same H H' → Rep X.K (hide O H') d z → Q z H') → wpAny (model X.prog X.w) X.A (f v) (EP X pins σ Q) X.xe s
noncomputable def yj (X : Cx) (f : Value) (h : List D → Option D) : Prop :=
  ∀ (pins : List (Addr × Obj)) (s : Shared) (σ : St) (H : Hp) (O : List Addr) (xs : List V) (us : List Value) (ds : List D) (d : D) (Q : VK), Inv X pins σ H s → Dom O H → Vals xs us → RepBs X.K O H ds xs → h ds = some d →
    (∀ z H', Same H H' → Rep X.K (hide O H') d z → Q z H') → wpAny (model X.prog X.w) X.A (call f us) (EP X pins σ Q) X.xe s
theorem yo {h : D → D → Option D} {ga gb : Env' → Option D} {ρ : Env'} {d : D} (e : g2 h ga gb ρ = some d) : ∃ x y, ga ρ = some x ∧ gb ρ = some y ∧ h x y = some d := by
  unfold g2 at e
  obtain ⟨x, h1, e⟩ := Option.bind_eq_some_iff.mp e
  obtain ⟨y, h2, e⟩ := Option.bind_eq_some_iff.mp e
  exact ⟨x, y, h1, h2, e⟩
theorem ziq {h : D → Option D} {ga : Env' → Option D} {ρ : Env'} {d : D} (e : g1 h ga ρ = some d) : ∃ x, ga ρ = some x ∧ h x = some d := Option.bind_eq_some_iff.mp e
theorem zaQ {h : List D → Option D} {ga : Env' → Option (List D)} {ρ : Env'} {d : D} (e : gA h ga ρ = some d) : ∃ x, ga ρ = some x ∧ h x = some d := Option.bind_eq_some_iff.mp e
theorem OpD.r {f : Value → Value → Sem Value} {h : D → D → Option D} (o : OpD X f h) : OpR X f (fun x y H Q => ∃ O dx dy d, Dom O H ∧ RepB X.K O H dx x ∧ RepB X.K O H dy y ∧ h dx dy = some d ∧ ∀ z H', Same H H' → Rep X.K (hide O H') d z → Q z H') :=
  fun pins s σ H x y v u Q I rx ry ⟨O, dx, dy, d, hO, bx, by', e, k⟩ => o pins s σ H O x y v u dx dy d Q I hO rx ry bx by' e k
theorem UnD.r {f : Value → Sem Value} {h : D → Option D} (o : UnD X f h) : UnR X f (fun x H Q => ∃ O dx d, Dom O H ∧ RepB X.K O H dx x ∧ h dx = some d ∧ ∀ z H', Same H H' → Rep X.K (hide O H') d z → Q z H') :=
  fun pins s σ H x v Q I rx ⟨O, dx, d, hO, bx, e, k⟩ => o pins s σ H O x v dx d Q I hO rx bx e k
theorem yj.r {f : Value} {h : List D → Option D} (o : yj X f h) : xA X f (fun xs H Q => ∃ O ds d, Dom O H ∧ RepBs X.K O H ds xs ∧ h ds = some d ∧ ∀ z H', Same H H' → Rep X.K (hide O H') d z → Q z H') :=
  fun pins s σ H xs us Q I rx ⟨O, ds, d, hO, bx, e, k⟩ => o pins s σ H O xs us ds d Q I hO rx bx e k
theorem zet {h : D → D → Option D} {ga gb : Env' → Option D} {σ : St} {H : Hp} {Q : VK} (q : tD X.K (g2 h ga gb) σ H Q) :
    tOp (fun x y H Q => ∃ O dx dy d, Dom O H ∧ RepB X.K O H dx x ∧ RepB X.K O H dy y ∧ h dx dy = some d ∧ ∀ z H', Same H H' → Rep X.K (hide O H') d z → Q z H') (tBo X.K ga) (tBo X.K gb) σ H Q := by
  obtain ⟨F, O, ρ, d, r, e, k⟩ := q
  obtain ⟨dx, dy, e1, e2, e3⟩ := yo e
  refine ⟨F, O, ρ, dx, r, e1, fun x H1 s1 b1 => ⟨F, O, ρ, dy, r.same s1, e2, fun y H2 s2 b2 => ?_⟩⟩
  exact ⟨O, dx, dy, d, (r.same (s1.trans s2)).dom, b1.same s2, b2, e3, fun z H' s3 b3 => k z H' (s1.trans (s2.trans s3)) b3⟩
theorem zt {op : Operator} {h : D → D → Option D} {ga gb : Env' → Option D} (ho : OpD X (binaryOp op) h) (ha : PB X a ga) (hb : PB X b gb) : PD X (.BinOp a op b pos) (g2 h ga gb) :=
  PE.imp (zj5 ho.r ha hb) fun _ _ _ q => zet q
theorem wk {op : CmpOp} {h : D → D → Option D} {ga gb : Env' → Option D} (ho : OpD X (compareOp op) h) (ha : PB X a ga) (hb : PB X b gb) (hm : behindInMarks op b = false) : PD X (.Compare a [op] [b] pos) (g2 h ga gb) :=
  PE.imp (zhO ho.r ha hb hm) fun _ _ _ q => zet q
noncomputable def zef : Expr → Bool
  | .Starred .. => false
  | _ => true
theorem jI {e : Expr} {es : List Expr} {env : Env} (h : zef e = true) : starEach (e :: es) env = (false, eval e env) :: starEach es env := by
  cases e <;> first | rfl | cases h
theorem kJ {ga : Env' → Option D} {gr : Env' → Option (List D)} {ρ : Env'} {ds : List D} (e : zb ga gr ρ = some ds) : ∃ x xs, ga ρ = some x ∧ gr ρ = some xs ∧ ds = x :: xs := by
  unfold zb at e
  obtain ⟨x, h1, e⟩ := Option.bind_eq_some_iff.mp e
  obtain ⟨y, h2, e⟩ := Option.bind_eq_some_iff.mp e
  exact ⟨x, y, h1, h2, (Option.some.inj e).symm⟩
theorem zh : PAd X [] gNil := PA.imp wr fun σ H Q ⟨F, O, ρ, ds, r, e, k⟩ => by
  cases e
  exact k [] H (Same.refl _) .nil
theorem zgE {ga : Env' → Option D} {gr : Env' → Option (List D)} (ha : PD X e ga) (hr : PAd X es gr) (hs : starEach (e :: es) X.env = (false, eval e X.env) :: starEach es X.env := by exact jI rfl) : PAd X (e :: es) (zb ga gr) :=
  PA.imp (qv ha hr hs) fun σ H Q ⟨F, O, ρ, ds, r, e, k⟩ => by
    obtain ⟨x, xs, e1, e2, rfl⟩ := kJ e
    exact ⟨F, O, ρ, x, r, e1, fun v H1 s1 b1 => ⟨F, O, ρ, xs, r.same s1, e2, fun vs H2 s2 b2 => k _ _ (s1.trans s2) (.cons (b1.same (zZ s2)) b2)⟩⟩
theorem zH : PAb X [] gNil := PA.imp wr fun σ H Q ⟨F, O, ρ, ds, r, e, k⟩ => by
  cases e
  exact k [] H (Same.refl _) .nil
theorem zgF {ga : Env' → Option D} {gr : Env' → Option (List D)} (ha : PB X e ga) (hr : PAb X es gr) (hs : starEach (e :: es) X.env = (false, eval e X.env) :: starEach es X.env := by exact jI rfl) : PAb X (e :: es) (zb ga gr) :=
  PA.imp (qv ha hr hs) fun σ H Q ⟨F, O, ρ, ds, r, e, k⟩ => by
    obtain ⟨x, xs, e1, e2, rfl⟩ := kJ e
    exact ⟨F, O, ρ, x, r, e1, fun v H1 s1 b1 => ⟨F, O, ρ, xs, r.same s1, e2, fun vs H2 s2 b2 => k _ _ (s1.trans s2) (.cons (b1.same s2) b2)⟩⟩
theorem yH {K : Frag} {O : List Addr} {H : Hp} {p : Addr} {o : HO} (hp : p ∉ O) : hide O (upd H p o) p = some o := by rw [qo hp, zS]
theorem wI {K : Frag} {O : List Addr} {H : Hp} {p : Addr} {ds : List D} {xs : List V} (hp : H p = none) (hO : p ∉ O) (r : Reps K (hide O H) ds xs) : Rep K (hide O (upd H p (.tup xs))) (.tuple ds) (.ref p) :=
  .tup (yH (K := K) hO) (r.same (zZ (jn hp)))
theorem vg {K : Frag} {O : List Addr} {H : Hp} {p : Addr} {ds : List D} {xs : List V} (hp : H p = none) (hO : p ∉ O) (r : Reps K (hide O H) ds xs) : Rep K (hide O (upd H p (.lst xs))) (.list ds) (.ref p) :=
  .lst (.inl (yH (K := K) hO)) (r.same (zZ (jn hp)))
theorem wx {x1} {g : Env' → Option (List D)} (h : PAd X es g) : PD X (.Tuple es x1 pos) (gA tupD g) := PE.imp (ziO h) fun σ H Q ⟨F, O, ρ, d, r, e, k⟩ => by
  obtain ⟨ds, e1, e2⟩ := zaQ e
  unfold tupD at e2
  split at e2
  · rename_i hl
    cases e2
    refine ⟨F, O, ρ, ds, r, e1, fun vs H1 s1 b1 => ⟨by rw [← b1.length]; exact hl, fun p hp => ?_⟩⟩
    exact k _ _ (s1.trans (jn hp)) (wI hp ((r.same s1).fresh hp) b1)
  · cases e2
noncomputable def tFr (K : Frag) (g : Env' → Option (List D)) : TE := fun σ H Q => ∃ F O ρ ds, SR K F O ρ σ H ∧ g ρ = some ds ∧ ∀ p xs H1, Same H H1 → H1 p = none → Reps K (hide O H1) ds xs → Q (.ref p) (upd H1 p (.lst xs))
noncomputable def PFr (X : Cx) (e : Expr) (g : Env' → Option (List D)) : Prop := PE X e (tFr X.K g)
theorem PFr.d {g : Env' → Option (List D)} (h : PFr X e g) : PD X e (fun ρ => (g ρ).map PyData.list) := PE.imp h fun σ H Q ⟨F, O, ρ, d, r, e, k⟩ => by
  obtain ⟨ds, e1, e2⟩ := Option.map_eq_some_iff.mp e
  subst e2
  exact ⟨F, O, ρ, ds, r, e1, fun p xs H1 s1 hp b1 => k _ _ (s1.trans (jn hp)) (vg hp ((r.same s1).fresh hp) b1)⟩
theorem wo {g : Env' → Option (List D)} (h : PAd X es g) : PFr X (.List es pos) (gLst g) := PE.imp (ziX h) fun σ H Q ⟨F, O, ρ, d, r, e, k⟩ => by
  obtain ⟨ds, e1, e2⟩ := Option.bind_eq_some_iff.mp e
  split at e2
  · rename_i hl
    cases e2
    exact ⟨F, O, ρ, _, r, e1, fun vs H1 s1 b1 => ⟨by rw [← b1.length]; exact hl, fun p hp => k _ _ _ s1 hp b1⟩⟩
  · cases e2
end
end L2.Y
namespace L2.Y
open PySem PySem.Spec PyProof.Rows
theorem get_set {α : Type} {l : List α} {i j : Nat} {a b : α} (h : (l.set i a)[j]? = some b) : (i = j ∧ b = a ∧ j < l.length) ∨ (i ≠ j ∧ l[j]? = some b) := by
  by_cases e : i = j
  · subst e
    left
    rw [List.getElem?_set_self'] at h
    cases q : l[i]? with
    | none => rw [q] at h; cases h
    | some c =>
      rw [q] at h
      exact ⟨rfl, (Option.some.inj h).symm, (List.getElem?_eq_some_iff.mp q).1⟩
  · right
    rw [List.getElem?_set_ne e] at h
    exact ⟨e, h⟩
theorem zco {α : Type} {l : List α} {i : Nat} {a : α} (h : i < l.length) : (l.set i a)[i]? = some a := List.getElem?_set_self h
section
variable {K : Frag} {F : Fx} {O : List Addr} {ρ : Env'} {σ : St} {H : Hp} {i : Nat} {d : D} {v : V} {p : Addr}
theorem SR.setVal (r : SR K F O ρ σ H) (h : Rep K (hide O H) d v) : SR K F O (ρ.set i (some (.val d))) (σ.set i (some v)) H where
  hb := r.hb
  vb := r.vb
  oc := r.oc
  dom := r.dom
  len := by rw [List.length_set, List.length_set]; exact r.len
  val := fun j d' e => by
    rcases get_set e with ⟨rfl, e2, hl⟩ | ⟨ne, e2⟩
    · cases e2
      exact ⟨v, zco (by rw [r.len]; exact hl), h⟩
    · rw [List.getElem?_set_ne ne]
      exact r.val j d' e2
  own := fun j d' e => by
    rcases get_set e with ⟨rfl, e2, hl⟩ | ⟨ne, e2⟩
    · cases e2
    · rw [List.getElem?_set_ne ne]
      exact r.own j d' e2
  sep := fun j k d1 d2 q e1 e2 f1 f2 => by
    rcases get_set e1 with ⟨rfl, e1, _⟩ | ⟨ne1, e1⟩
    · cases e1
    rcases get_set e2 with ⟨rfl, e2, _⟩ | ⟨ne2, e2⟩
    · cases e2
    rw [List.getElem?_set_ne ne1] at f1
    rw [List.getElem?_set_ne ne2] at f2
    exact r.sep j k d1 d2 q e1 e2 f1 f2
theorem qX (h : H p = none) : hide (p :: O) H = hide O H := by
  funext b
  unfold hide
  by_cases e : b = p
  · subst e; simp [h]
  · simp [e]
theorem OwnAt.mut {O : List Addr} (h : OwnAt K O H d p) : ∃ o, H p = some o ∧ ∀ xs, o ≠ .tup xs := by
  cases h with
  | lst h _ => exact ⟨_, h, fun _ z => nomatch z⟩
  | dK h _ => exact ⟨_, h, fun _ z => nomatch z⟩
  | dT h _ => exact ⟨_, h, fun _ z => nomatch z⟩
theorem SR.newOwn {o : HO} (r : SR K F O ρ σ H) (hp : H p = none) (ho : OwnAt K (p :: O) (upd H p o) d p) : SR K F (p :: O) (ρ.set i (some (.own d))) (σ.set i (some (.ref p))) (upd H p o) := by
  have hO : p ∉ O := r.fresh hp
  have eh : hide (p :: O) (upd H p o) = hide O H := by rw [zX List.mem_cons_self, qX hp]
  refine ⟨r.hb.trans (jn hp), by rw [eh]; exact r.vb, fun q hq => List.mem_cons_of_mem _ (r.oc q hq), fun q hq => ?_, by rw [List.length_set, List.length_set]; exact r.len, fun j d' e => ?_, fun j d' e => ?_, fun j k d1 d2 q e1 e2 f1 f2 => ?_⟩
  · by_cases e : q = p
    · subst e; exact ho.mut
    · rw [zv e]; exact r.dom q ((List.mem_cons.mp hq).resolve_left e)
  · rcases get_set e with ⟨rfl, e2, hl⟩ | ⟨ne, e2⟩
    · cases e2
    · rw [List.getElem?_set_ne ne, eh]
      exact r.val j d' e2
  · rcases get_set e with ⟨rfl, e2, hl⟩ | ⟨ne, e2⟩
    · cases e2
      refine ⟨p, zco (by rw [r.len]; exact hl), List.mem_cons_self, ?_, ho⟩
      exact ⟨fun z => hO (r.oc p z), r.hb.free hp⟩
    · obtain ⟨q, h1, h2, h3, h4⟩ := r.own j d' e2
      refine ⟨q, by rw [List.getElem?_set_ne ne]; exact h1, List.mem_cons_of_mem _ h2, h3, ?_⟩
      have hq : q ≠ p := fun z => hO (z ▸ h2)
      cases h4 with
      | lst h r => exact .lst (by rw [zv hq]; exact h) (by rw [eh]; exact r)
      | dK h r => exact .dK (by rw [zv hq]; exact h) (by rw [eh]; exact r)
      | dT h r => exact .dT (by rw [zv hq]; exact h) (by rw [eh]; exact r)
  · rcases get_set e1 with ⟨rfl, e1, _⟩ | ⟨ne1, e1⟩
    · rcases get_set e2 with ⟨rfl, e2, _⟩ | ⟨ne2, e2⟩
      · rfl
      · rw [List.getElem?_set_ne ne2] at f2
        rcases get_set f1 with ⟨_, f1, _⟩ | ⟨z, _⟩
        · cases f1
          obtain ⟨q, h1, h2, _⟩ := r.own k d2 e2
          rw [f2] at h1; cases h1
          exact absurd h2 hO
        · exact absurd rfl z
    · rcases get_set e2 with ⟨rfl, e2, _⟩ | ⟨ne2, e2⟩
      · rw [List.getElem?_set_ne ne1] at f1
        rcases get_set f2 with ⟨_, f2, _⟩ | ⟨z, _⟩
        · cases f2
          obtain ⟨q, h1, h2, _⟩ := r.own j d1 e1
          rw [f1] at h1; cases h1
          exact absurd h2 hO
        · exact absurd rfl z
      · rw [List.getElem?_set_ne ne1] at f1
        rw [List.getElem?_set_ne ne2] at f2
        exact r.sep j k d1 d2 q e1 e2 f1 f2
theorem SR.mut {o : HO} {d' : D} (r : SR K F O ρ σ H) (he : ρ[i]? = some (some (.own d))) (hs : σ[i]? = some (some (.ref p))) (ho : OwnAt K O (upd H p o) d' p) : SR K F O (ρ.set i (some (.own d'))) σ (upd H p o) := by
  obtain ⟨p', h1, hO, h0, _⟩ := r.own i d he
  rw [hs] at h1; cases h1
  have eh : hide O (upd H p o) = hide O H := zX hO
  have hil : i < ρ.length := (List.getElem?_eq_some_iff.mp he).1
  refine ⟨fun b u e => ?_, by rw [eh]; exact r.vb, r.oc, fun q hq => ?_, by rw [List.length_set]; exact r.len, fun j d' e => ?_, fun j d' e => ?_, fun j k d1 d2 q e1 e2 f1 f2 => ?_⟩
  · rw [zv (zE e h0.2)]; exact r.hb _ _ e
  · by_cases e : q = p
    · subst e; exact ho.mut
    · rw [zv e]; exact r.dom q hq
  · rcases get_set e with ⟨rfl, e2, hl⟩ | ⟨ne, e2⟩
    · cases e2
    · rw [eh]; exact r.val j d' e2
  · rcases get_set e with ⟨rfl, e2, hl⟩ | ⟨ne, e2⟩
    · cases e2
      exact ⟨p, hs, hO, h0, ho⟩
    · obtain ⟨q, h1, h2, h3, h4⟩ := r.own j d' e2
      have hq : q ≠ p := fun z => by subst z; exact ne (r.sep i j d d' q he e2 hs h1)
      refine ⟨q, h1, h2, h3, ?_⟩
      cases h4 with
      | lst h r => exact .lst (by rw [zv hq]; exact h) (by rw [eh]; exact r)
      | dK h r => exact .dK (by rw [zv hq]; exact h) (by rw [eh]; exact r)
      | dT h r => exact .dT (by rw [zv hq]; exact h) (by rw [eh]; exact r)
  · have back : ∀ {j : Nat} {dj : D}, (ρ.set i (some (.own d')))[j]? = some (some (.own dj)) → ∃ dj', ρ[j]? = some (some (.own dj')) := fun {j dj} e => by
      rcases get_set e with ⟨rfl, _, _⟩ | ⟨ne, e2⟩
      · exact ⟨d, he⟩
      · exact ⟨_, e2⟩
    obtain ⟨_, e1⟩ := back e1
    obtain ⟨_, e2⟩ := back e2
    exact r.sep j k _ _ q e1 e2 f1 f2
theorem OwnAt.rep {O' : List Addr} (h : OwnAt K O H d p) (hs : ∀ q ∈ O', q ∈ O) (hp : p ∉ O') : Rep K (hide O' H) d (.ref p) := by
  cases h with
  | lst h r => exact .lst (.inl (by rw [qo hp]; exact h)) (r.same (qE hs))
  | dK h r => exact .dK (by rw [qo hp]; exact h) (r.same (qE hs))
  | dT h r => exact .dT (by rw [qo hp]; exact h) (r.same (qE hs))
theorem OwnAt.sub {O' : List Addr} {q : Addr} (h : OwnAt K O H d q) (hs : ∀ q ∈ O', q ∈ O) : OwnAt K O' H d q := by
  cases h with
  | lst h r => exact .lst h (r.same (qE hs))
  | dK h r => exact .dK h (r.same (qE hs))
  | dT h r => exact .dT h (r.same (qE hs))
theorem SR.frz (r : SR K F O ρ σ H) (i : Nat) : ∃ O', SR K F O' (frz i ρ) σ H := by
  unfold Y.frz
  split
  · rename_i d he
    obtain ⟨p, hs, hO, h0, ho⟩ := r.own i d he
    have sub : ∀ q ∈ O.filter (· ≠ p), q ∈ O := fun q hq => (List.mem_filter.mp hq).1
    have np : p ∉ O.filter (· ≠ p) := fun z => by simpa using (List.mem_filter.mp z).2
    refine ⟨O.filter (· ≠ p), r.hb, r.vb.trans (qE sub), fun q hq => List.mem_filter.mpr ⟨r.oc q hq, ?_⟩, fun q hq => r.dom q (sub q hq), by rw [List.length_set]; exact r.len, fun j d' e => ?_, fun j d' e => ?_, fun j k d1 d2 q e1 e2 f1 f2 => ?_⟩
    · have : q ≠ p := fun z => h0.1 (z ▸ hq)
      simpa using this
    · rcases get_set e with ⟨rfl, e2, hl⟩ | ⟨ne, e2⟩
      · cases e2
        exact ⟨_, hs, ho.rep sub np⟩
      · obtain ⟨v, h1, h2⟩ := r.val j d' e2
        exact ⟨v, h1, h2.same (qE sub)⟩
    · rcases get_set e with ⟨rfl, e2, hl⟩ | ⟨ne, e2⟩
      · cases e2
      · obtain ⟨q, h1, h2, h3, h4⟩ := r.own j d' e2
        have hq : q ≠ p := fun z => by subst z; exact ne (r.sep i j d d' q he e2 hs h1)
        exact ⟨q, h1, List.mem_filter.mpr ⟨h2, by simpa using hq⟩, h3, h4.sub sub⟩
    · rcases get_set e1 with ⟨rfl, e1, _⟩ | ⟨ne1, e1⟩
      · cases e1
      rcases get_set e2 with ⟨rfl, e2, _⟩ | ⟨ne2, e2⟩
      · cases e2
      exact r.sep j k d1 d2 q e1 e2 f1 f2
  · exact ⟨O, r⟩
theorem SR.base (r : SR K F O ρ σ H) : SR K { F with V0 := hide O H } O ρ σ H := ⟨r.hb, Same.refl _, r.oc, r.dom, r.len, r.val, r.own, r.sep⟩
theorem SR.back {V : Hp} (r : SR K { F with V0 := V } O ρ σ H) (s : Same F.V0 V) : SR K F O ρ σ H := ⟨r.hb, s.trans r.vb, r.oc, r.dom, r.len, r.val, r.own, r.sep⟩
end
noncomputable def zkr (K : Frag) (F : Fx) (D : Ends) : Out → Prop
  | .nxt ρ => ∀ O σ H, SR K F O ρ σ H → D.nx σ H
  | .ret d => ∀ v H, Same F.H0 H → Rep K (hide F.Oc H) d v → D.rt v H
  | .brk ρ => ∀ O σ H, SR K F O ρ σ H → D.bk σ H
  | .cnt ρ => ∀ O σ H, SR K F O ρ σ H → D.ct σ H
noncomputable def tSd (K : Frag) (g : GS) : TS := fun D σ H => ∃ F O ρ out, SR K F O ρ σ H ∧ g ρ = some out ∧ zkr K F D out
noncomputable def PSd (X : Cx) (st : Stmt) (g : GS) : Prop := PS X st (tSd X.K g)
noncomputable def PSsd (X : Cx) (st : List Stmt) (g : GS) : Prop := PSs X st (tSd X.K g)
section
variable {X : Cx} {st : Stmt} {rest : List Stmt} {g h : GS} {e : Expr} {pos : Pos}
theorem zC : PSsd X [] sNil := PSs.imp zis fun D σ H ⟨F, O, ρ, out, r, e, k⟩ => by
  cases e
  exact k O σ H r
theorem ze (h1 : PSd X st g) (h2 : PSsd X rest h) : PSsd X (st :: rest) (sSeq g h) := PSs.imp (zcw h1 h2) fun D σ H ⟨F, O, ρ, out, r, e, k⟩ => by
  obtain ⟨o1, e1, e2⟩ := Option.bind_eq_some_iff.mp e
  refine ⟨F, O, ρ, o1, r, e1, ?_⟩
  cases o1 with
  | nxt ρ' => exact fun O' σ' H' r' => ⟨F, O', ρ', out, r', e2, k⟩
  | ret d => cases e2; exact k
  | brk ρ' => cases e2; exact k
  | cnt ρ' => cases e2; exact k
theorem zi (h1 : PSd X st g) : PSsd X [st] g := PSs.imp (zik h1) fun _ _ _ q => q
theorem ziM {ge : Env' → Option D} (he : PD X e ge) : PSd X (.Return (some e) pos) (fun ρ => (ge ρ).map Out.ret) := PS.imp (zhe he) fun D σ H ⟨F, O, ρ, out, r, e, k⟩ => by
  obtain ⟨d, e1, e2⟩ := Option.map_eq_some_iff.mp e
  subst e2
  exact ⟨F, O, ρ, d, r, e1, fun v H' s b => k v H' (r.hb.trans s) (b.same (qE fun p hp => r.oc p hp))⟩
noncomputable def tGd (K : Frag) (h : GT) : TG := fun v σ H Q => ∃ F O ρ d ρ', SR K F O ρ σ H ∧ Rep K (hide O H) d v ∧ h d ρ = some ρ' ∧ ∀ σ', SR K F O ρ' σ' H → Q σ' H
noncomputable def tGds (K : Frag) (h : List D → Env' → Option Env') : TGs := fun vs σ H Q => ∃ F O ρ ds ρ', SR K F O ρ σ H ∧ Reps K (hide O H) ds vs ∧ h ds ρ = some ρ' ∧ ∀ σ', SR K F O ρ' σ' H → Q σ' H
noncomputable def PGd (X : Cx) (tg : Expr) (h : GT) : Prop := PG X tg (tGd X.K h)
noncomputable def PGds (X : Cx) (tgs : List Expr) (h : List D → Env' → Option Env') : Prop := PGs X tgs (tGds X.K h)
theorem PG.imp {tg : Expr} {t t' : TG} (h : PG X tg t) (k : ∀ v σ H Q, t' v σ H Q → t v σ H Q) : PG X tg t' := fun pins s σ H v u Q I r q => h pins s σ H v u Q I r (k v σ H Q q)
theorem PGs.imp {tg : List Expr} {t t' : TGs} (h : PGs X tg t) (k : ∀ v σ H Q, t' v σ H Q → t v σ H Q) : PGs X tg t' := fun pins s σ H v u Q I r q => h pins s σ H v u Q I r (k v σ H Q q)
theorem zf {i : Nat} {x : Str} (h : PG X (.Name x pos) (zaq i)) : PGd X (.Name x pos) (hName i) := PG.imp h fun v σ H Q ⟨F, O, ρ, d, ρ', r, b, e, k⟩ => by
  cases e
  exact k _ (r.setVal b)
theorem xS : PGds X [] hNil := PGs.imp zhC fun vs σ H Q ⟨F, O, ρ, ds, ρ', r, b, e, k⟩ => by
  unfold hNil at e
  split at e
  · cases e; cases b; exact ⟨rfl, k _ r⟩
  · cases e
theorem ji {tg : Expr} {tgs : List Expr} {h : GT} {hk : List D → Env' → Option Env'} (h1 : PGd X tg h) (h2 : PGds X tgs hk) (hs : (assignEach (tg :: tgs) X.env).map (·.2) = assign tg X.env :: (assignEach tgs X.env).map (·.2) := by rfl) : PGds X (tg :: tgs) (jG h hk) :=
  PGs.imp (zgj h1 h2 hs) fun vs σ H Q ⟨F, O, ρ, ds, ρ', r, b, e, k⟩ => by
    unfold jG at e
    split at e
    · rename_i d rest
      obtain ⟨ρ1, e1, e2⟩ := Option.bind_eq_some_iff.mp e
      cases b with
      | cons b bs =>
        refine ⟨_, _, rfl, F, O, ρ, _, ρ1, r, b, e1, fun σ1 r1 => ?_⟩
        exact ⟨F, O, ρ1, _, ρ', r1, bs, e2, k⟩
    · cases e
theorem yq {tgs : List Expr} {kk : Nat} {n : Nat} {hk : List D → Env' → Option Env'} (hc : X.calm = true) (h : PGds X tgs hk) (hn : (assignEach tgs X.env).length = n := by rfl) (hst : (assignEach tgs X.env).findIdx? (·.1) = none := by rfl) :
    PGd X (.Tuple tgs kk pos) (hTup n hk) := PG.imp (zjk hc h hn hst) fun v σ H Q ⟨F, O, ρ, d, ρ', r, b, e, k⟩ => by
  unfold hTup at e
  split at e
  · split at e
    · rename_i ds hl
      obtain ⟨a, xs, rfl, sq, rs⟩ := (RepB.val b).tup
      exact ⟨a, xs, rfl, sq, by rw [← rs.length]; exact hl, F, O, ρ, ds, ρ', r, rs, e, k⟩
    · cases e
  · cases e
theorem zii {h : GT} {ge : Env' → Option D} {D : Ends} {σ : St} {H : Hp} (q : tSd X.K (sAsg h ge) D σ H) : tAsg (tD X.K ge) (tGd X.K h) D σ H := by
  obtain ⟨F, O, ρ, out, r, e, k⟩ := q
  obtain ⟨d, e1, e2⟩ := Option.bind_eq_some_iff.mp e
  obtain ⟨ρ', e3, e4⟩ := Option.map_eq_some_iff.mp e2
  subst e4
  exact ⟨F, O, ρ, d, r, e1, fun v H' s b => ⟨F, O, ρ, d, ρ', r.same s, b, e3, fun σ' r' => k O σ' H' r'⟩⟩
theorem zhE {tg : Expr} {h : GT} {ge : Env' → Option D} (hg : PGd X tg h) (he : PD X e ge) (hs : swapsWithSole [tg] e pos.line X.env = pure false := by rfl) (hw : swappedStores [tg] e X.env = pure none := by rfl)
    (h1 : (assignEach [tg] X.env).map (·.2) = [assign tg X.env] := by rfl) : PSd X (.Assign [tg] e pos) (sAsg h ge) := PS.imp (zbm he hg hs hw h1) fun _ _ _ q => zii q
theorem zhQ {i : Nat} {ge : Env' → Option (List D)} {D : Ends} {σ : St} {H : Hp} (q : tSd X.K (sOwn i ge) D σ H) : tAsg (tFr X.K ge) (zaq i) D σ H := by
  obtain ⟨F, O, ρ, out, r, e, k⟩ := q
  obtain ⟨ds, e1, e2⟩ := Option.map_eq_some_iff.mp e
  subst e2
  refine ⟨F, O, ρ, ds, r, e1, fun p xs H1 s hp b => ?_⟩
  refine k (p :: O) _ _ ((r.same s).newOwn hp (.lst zS ?_))
  rw [zX List.mem_cons_self, qX hp]
  exact b
theorem zim {tg : Expr} {i : Nat} {ge : Env' → Option (List D)} (hg : PG X tg (zaq i)) (he : PFr X e ge) (hs : swapsWithSole [tg] e pos.line X.env = pure false := by rfl) (hw : swappedStores [tg] e X.env = pure none := by rfl)
    (h1 : (assignEach [tg] X.env).map (·.2) = [assign tg X.env] := by rfl) : PSd X (.Assign [tg] e pos) (sOwn i ge) := PS.imp (zbm he hg hs hw h1) fun _ _ _ q => zhQ q
theorem zcJ {K : Frag} {H : Hp} {ds : List D} {xs : List V} (r : Reps K H ds xs) : (!ds.isEmpty) = !xs.isEmpty := by cases r <;> rfl
theorem ziZ {K : Frag} {O : List Addr} {H : Hp} {d : D} {v : V} {b : Bool} (r : RepB K O H d v) (e : jO d = some b) : TruV K v H b := by
  cases d with
  | none => cases r.non; cases e; rfl
  | bool c => cases r.bl; cases e; rfl
  | int i => cases r.int; cases e; rfl
  | str y =>
    cases r.str
    have e : (if y.length ≤ sizeLine then some ((y.length : Int) != 0) else none) = some b := e
    split at e
    · cases e; exact ⟨by assumption, rfl⟩
    · cases e
  | list ds =>
    obtain ⟨a, xs, rfl, sq, rs⟩ := r.lst
    cases e
    exact .inl ⟨xs, sq, zcJ rs⟩
  | tuple ds =>
    obtain ⟨a, xs, rfl, sq, rs⟩ := r.tup
    cases e
    exact .inr (.inl ⟨xs, sq, zcJ rs⟩)
  | dict _ => cases e
theorem jR {g : Env' → Option D} (h : PB X e g) (he : ∀ whole, isTrue e X.env whole = (do let v ← whole; standAt e.pos; holding [v] (truthy v)) := by intro _; rfl) : PTd X e (gTr g) :=
  PT.imp (zgH h he) fun σ H Q ⟨F, O, ρ, b, r, e, k⟩ => by
    obtain ⟨d, e1, e2⟩ := Option.bind_eq_some_iff.mp e
    exact ⟨F, O, ρ, d, r, e1, fun v H' s rb => ⟨b, ziZ rb e2, k H' s⟩⟩
theorem xR {d : D} {b : Bool} (h : jT d = some b) : d = .bool b := by
  cases d <;> first | (cases h; rfl) | cases h
theorem xX {K : Frag} {H : Hp} {b : Bool} {v : V} (h : Rep K H (.bool b) v) : v = .bl b := by cases h; rfl
theorem zK {a b : Expr} {op : CmpOp} {h : D → D → Option D} {ga gb : Env' → Option D} (ho : OpD X (compareOp op) h) (ha : PB X a ga) (hb : PB X b gb) (hm : behindInMarks op b = false) : PTd X (.Compare a [op] [b] pos) (gBo (g2 h ga gb)) :=
  PT.imp (ziL ho.r ha hb hm) fun σ H Q ⟨F, O, ρ, b, r, e, k⟩ => by
    obtain ⟨d, e1, e2⟩ := Option.bind_eq_some_iff.mp e
    cases xR e2
    exact zet (Q := fun x H' => ∃ k, x = .bl k ∧ Q k H') ⟨F, O, ρ, _, r, e1, fun v H' s rb => ⟨b, xX rb, k H' s⟩⟩
noncomputable def PWd (X : Cx) (e : Expr) (g : Env' → Option Bool) : Prop := PW X e (tTd X.K g)
theorem PW.imp {e : Expr} {t t' : TT} (h : PW X e t) (k : ∀ σ H Q, t' σ H Q → t σ H Q) : PW X e t' := fun wh pins s σ H Q I q => h wh pins s σ H Q I (k σ H Q q)
theorem PWd.t {g : Env' → Option Bool} (h : PWd X e g) : PTd X e g := h.pt
section
variable {a b : Expr} {rest : List Expr} {gt ht : Env' → Option Bool}
theorem zcC (ha : PTd X a gt) : PWd X (.BoolOp .And [a] pos) gt := zhx ha
theorem xq (ha : PTd X a gt) : PWd X (.BoolOp .Or [a] pos) gt := zi5 ha
theorem zfv (ha : PTd X a gt) (hb : PWd X (.BoolOp .And (b :: rest) pos) ht) : PWd X (.BoolOp .And (a :: b :: rest) pos) (zfF gt ht) := PW.imp (ziP ha hb) fun σ H Q ⟨F, O, ρ, c, r, e, k⟩ => by
  obtain ⟨b1, e1, e2⟩ := Option.bind_eq_some_iff.mp e
  refine ⟨F, O, ρ, b1, r, e1, fun H1 s1 => ?_⟩
  cases b1 with
  | true => exact iteT ⟨F, O, ρ, c, r.same s1, e2, fun H2 s2 => k H2 (s1.trans s2)⟩
  | false => cases e2; exact iteF (k H1 s1)
theorem ww (ha : PTd X a gt) (hb : PWd X (.BoolOp .Or (b :: rest) pos) ht) : PWd X (.BoolOp .Or (a :: b :: rest) pos) (gOrT gt ht) := PW.imp (zkf ha hb) fun σ H Q ⟨F, O, ρ, c, r, e, k⟩ => by
  obtain ⟨b1, e1, e2⟩ := Option.bind_eq_some_iff.mp e
  refine ⟨F, O, ρ, b1, r, e1, fun H1 s1 => ?_⟩
  cases b1 with
  | false => exact iteF ⟨F, O, ρ, c, r.same s1, e2, fun H2 s2 => k H2 (s1.trans s2)⟩
  | true => cases e2; exact iteT (k H1 s1)
theorem jS (ha : PTd X a gt) : PTd X (.UnaryOp .Not a pos) (jr gt) := PT.imp (zjg ha) fun σ H Q ⟨F, O, ρ, c, r, e, k⟩ => by
  obtain ⟨b1, e1, e2⟩ := Option.map_eq_some_iff.mp e
  subst e2
  exact ⟨F, O, ρ, b1, r, e1, fun H1 s1 => k H1 s1⟩
theorem zaW {g : Env' → Option D} {ρ : Env'} {b : Bool} (e : gBo g ρ = some b) : g ρ = some (.bool b) := by
  obtain ⟨d, e1, e2⟩ := Option.bind_eq_some_iff.mp e
  rw [xR e2] at e1
  exact e1
variable {ga gb : Env' → Option D}
theorem xM {op} (ha : PD X a ga) : PD X (.BoolOp op [a] pos) ga := zjU ha
theorem xw (ha : PD X a ga) (hb : PD X (.BoolOp .And (b :: rest) pos) gb) : PD X (.BoolOp .And (a :: b :: rest) pos) (qP ga gb) := PE.imp (zjv ha hb) fun σ H Q ⟨F, O, ρ, c, r, e, k⟩ => by
  obtain ⟨b1, e1, e2⟩ := Option.bind_eq_some_iff.mp e
  refine ⟨F, O, ρ, _, r, zaW e1, fun v H1 s1 rb => ⟨b1, xX rb, ?_⟩⟩
  cases b1 with
  | true => exact iteT ⟨F, O, ρ, c, r.same s1, e2, fun v H2 s2 => k v H2 (s1.trans s2)⟩
  | false => cases e2; exact iteF (k _ H1 s1 (.bl false))
theorem zkB (ha : PD X a ga) (hb : PD X (.BoolOp .Or (b :: rest) pos) gb) : PD X (.BoolOp .Or (a :: b :: rest) pos) (gOrV ga gb) := PE.imp (zkl ha hb) fun σ H Q ⟨F, O, ρ, c, r, e, k⟩ => by
  obtain ⟨b1, e1, e2⟩ := Option.bind_eq_some_iff.mp e
  refine ⟨F, O, ρ, _, r, zaW e1, fun v H1 s1 rb => ⟨b1, xX rb, ?_⟩⟩
  cases b1 with
  | false => exact iteF ⟨F, O, ρ, c, r.same s1, e2, fun v H2 s2 => k v H2 (s1.trans s2)⟩
  | true => cases e2; exact iteT (k _ H1 s1 (.bl true))
theorem zdW (ha : PD X a ga) : PD X (.UnaryOp .Not a pos) (zcb ga) := PE.imp (ziR ha) fun σ H Q ⟨F, O, ρ, c, r, e, k⟩ => by
  obtain ⟨b1, e1, e2⟩ := Option.map_eq_some_iff.mp e
  subst e2
  exact ⟨F, O, ρ, _, r, zaW e1, fun v H1 s1 rb => ⟨b1, xX rb, k _ H1 s1 (.bl _)⟩⟩
end
theorem jp {c : Expr} {a b : List Stmt} {gt : Env' → Option Bool} (hc : PTd X c gt) (ha : PSsd X a g) (hb : PSsd X b h) : PSd X (.If c a b pos) (sIf gt g h) := PS.imp (zjA hc ha hb) fun D σ H ⟨F, O, ρ, out, r, e, k⟩ => by
  obtain ⟨b1, e1, e2⟩ := Option.bind_eq_some_iff.mp e
  refine ⟨F, O, ρ, b1, r, e1, fun H1 s1 => ?_⟩
  cases b1 with
  | true => exact iteT ⟨F, O, ρ, out, r.same s1, e2, k⟩
  | false => exact iteF ⟨F, O, ρ, out, r.same s1, e2, k⟩
end
end L2.Y
namespace L2.Y
open PySem PySem.Spec PyProof.Rows
inductive Yield (K : Frag) (B : Hp) (H : Hp) : D → V → Hp → Prop
  | old {d : D} {x : V} : (∀ O, Same B (hide O H) → Dom O H → Rep K (hide O H) d x) → Yield K B H d x H
  | new {ds : List D} {ys : List V} {p : Addr} : H p = none → Reps K B ds ys → Yield K B H (.tuple ds) (.ref p) (upd H p (.tup ys))
structure ItD (K : Frag) (B : Hp) (J : It) (ds : List D) : Prop where
  go : ∀ i H, Same B H → i < ds.length → J.go i H
  yld : ∀ i H x H' d, Same B H → ds[i]? = some d → J.yld i H x H' → Yield K B H d x H'
  stop : ∀ H, Same B H → J.stop ds.length H
noncomputable def tId (K : Frag) (g : Env' → Option (List D)) : TI := fun σ H R => ∃ F O ρ ds, SR K F O ρ σ H ∧ g ρ = some ds ∧ ∀ J H', Same H H' → ItD K (hide O H') J ds → R J H'
noncomputable def PId (X : Cx) (tg iter : Expr) (g : Env' → Option (List D)) : Prop := PI X tg iter (tId X.K g)
theorem PI.imp {X : Cx} {tg iter : Expr} {t t' : TI} (h : PI X tg iter t) (k : ∀ σ H R, t' σ H R → t σ H R) : PI X tg iter t' := fun pins s σ H R I q => h pins s σ H R I (k σ H R q)
section
variable {K : Frag} {B H : Hp}
theorem zh1 {a : Addr} {xs : List V} {ds : List D} (sq : SqT K B a xs) (rs : Reps K B ds xs) : ItD K B (Itt K a) ds where
  go := fun i H s hi => by
    obtain ⟨v, hv, _⟩ := rs.get (i := i) (d := ds[i]) (by simp [hi])
    exact ⟨xs, v, SqT.same s sq, hv⟩
  yld := fun i H x H' d s hd y => by
    obtain ⟨rfl, y⟩ := y
    have hx := y xs (SqT.same s sq)
    obtain ⟨d', h1, h2⟩ := rs.getV hx
    rw [hd] at h1; cases h1
    exact .old fun O sm _ => h2.same sm
  stop := fun H s => ⟨xs, SqT.same s sq, by rw [rs.length]; exact Nat.le_refl _⟩
theorem zio {a : Addr} {xs : List V} {ds : List D} (sq : SqL K B a xs) (rs : Reps K B ds xs) : ItD K B (Itl K a) ds where
  go := fun i H s hi => by
    obtain ⟨v, hv, _⟩ := rs.get (i := i) (d := ds[i]) (by simp [hi])
    exact ⟨xs, v, SqL.same s sq, hv⟩
  yld := fun i H x H' d s hd y => by
    obtain ⟨rfl, y⟩ := y
    have hx := y xs (SqL.same s sq)
    obtain ⟨d', h1, h2⟩ := rs.getV hx
    rw [hd] at h1; cases h1
    exact .old fun O sm _ => h2.same sm
  stop := fun H s => ⟨xs, SqL.same s sq, by rw [rs.length]; exact Nat.le_refl _⟩
theorem xp (lo : Int) (n : Nat) : (zF lo n).length = n := by simp [zF]
theorem zd7 (lo : Int) (n : Nat) : ItD K B (Itr lo n) (zF lo n) where
  go := fun i H s hi => by rw [xp] at hi; exact hi
  yld := fun i H x H' d s hd y => by
    obtain ⟨rfl, rfl⟩ := y
    have hi : i < n := by
      have := (List.getElem?_eq_some_iff.mp hd).1
      rw [xp] at this
      exact this
    have e : (zF lo n)[i]? = some (.int (lo + i)) := by simp [zF, hi]
    rw [hd] at e; cases e
    exact .old fun _ _ _ => .int _
  stop := fun H s => by rw [xp]; exact Nat.le_refl _
end
section
variable {X : Cx} {tg e : Expr} {pos p : Pos} {ge : Env' → Option D}
theorem qW (h : PD X e ge) : PId X tg e (gIt seqD ge) := by
  intro pins s σ H R I ⟨F, O, ρ, ds, r, e, k⟩
  obtain ⟨d, e1, e2⟩ := Option.bind_eq_some_iff.mp e
  refine thn (h pins s σ H (fun v H1 => Same H H1 ∧ Rep X.K (hide O H1) d v) I ⟨F, O, ρ, d, r, e1, fun v H1 s1 rb => ⟨s1, rb⟩⟩) fun v s1 ⟨x, H1, I1, r1, sm, rb⟩ => ?_
  cases d with
  | tuple es =>
    cases e2
    cases rb with
    | tup sq rs =>
      rename_i a xs
      obtain rfl : v = Value.ref a := r1
      have sq' : SqT X.K (hide O H1) a xs := .inl (.inl sq)
      obtain ⟨its, rv, p, hz⟩ := I1.tuple (SqT.same jY sq')
      refine wpAny_pyIter_tuple (show s1.heap.IsTuple a its.toArray from p) ?_
      refine ⟨s1.heap.objs.size, [s1.heap.objs.size], _, _, H1, rfl, I1.kept (t' := s1.toks) fun b o e => Heap.get?_push_of_some _ e, zdH a _, ⟨_, Heap.get?_push_size _ rfl, rfl, rfl⟩, fun b hb => ?_, k _ H1 sm (zh1 sq' rs)⟩
      have e : b = s1.heap.objs.size := by simpa using hb
      subst e
      exact I1.fpOk (Nat.le_refl _) (I1.hok.fresh (Nat.le_refl _))
  | list es =>
    cases e2
    cases rb with
    | lst sq rs =>
      rename_i a xs
      obtain rfl : v = Value.ref a := r1
      obtain ⟨its, rv, p, hz⟩ := I1.list (SqL.same jY (.inl sq))
      refine wpAny_pyIter_list p.isList ?_
      refine ⟨s1.heap.objs.size, [s1.heap.objs.size], _, _, H1, rfl, I1.kept (t' := s1.toks) fun b o e => Heap.get?_push_of_some _ e, zfU a _, ⟨_, Heap.get?_push_size _ rfl, rfl, rfl⟩, fun b hb => ?_, k _ H1 sm (zio (.inl sq) rs)⟩
      have e : b = s1.heap.objs.size := by simpa using hb
      subst e
      exact I1.fpOk (Nat.le_refl _) (I1.hok.fresh (Nat.le_refl _))
  | _ => cases e2
theorem yV {a : Expr} {ga : Env' → Option (List D)} (hg : Gl X "range") (hm : X.mg "range" = none) (ha : PAd X [a] ga) (hs : starEach [a] X.env = [(false, eval a X.env)] := by rfl) :
    PId X tg (.Call (.Name "range" p) [a] [] pos) (gItA kt ga) := PI.imp (zdU (tg := tg) hg hm ha hs) fun σ H R ⟨F, O, ρ, ds, r, e, k⟩ => by
  obtain ⟨as, e1, e2⟩ := Option.bind_eq_some_iff.mp e
  refine ⟨F, O, ρ, as, r, e1, fun vs H1 s1 rb => ?_⟩
  unfold kt at e2
  split at e2
  · split at e2
    · rename_i j hj
      cases e2
      obtain ⟨v, rfl, rv⟩ := rb.inv1
      cases rv
      exact ⟨j, rfl, hj.1, hj.2, k _ H1 s1 (zd7 0 _)⟩
    · cases e2
  · cases e2
theorem zag {a b : Expr} {ga : Env' → Option (List D)} (hg : Gl X "range") (hm : X.mg "range" = none) (ha : PAd X [a, b] ga) (hs : starEach [a, b] X.env = [(false, eval a X.env), (false, eval b X.env)] := by rfl) (hs2 : starEach [b] X.env = [(false, eval b X.env)] := by rfl) :
    PId X tg (.Call (.Name "range" p) [a, b] [] pos) (gItA kc ga) := PI.imp (zei (tg := tg) hg hm ha hs hs2) fun σ H R ⟨F, O, ρ, ds, r, e, k⟩ => by
  obtain ⟨as, e1, e2⟩ := Option.bind_eq_some_iff.mp e
  refine ⟨F, O, ρ, as, r, e1, fun vs H1 s1 rb => ?_⟩
  unfold kc at e2
  split at e2
  · split at e2
    · rename_i i j hj
      cases e2
      cases rb with
      | cons r1 rb =>
        obtain ⟨v, rfl, rv⟩ := rb.inv1
        cases r1
        cases rv
        exact ⟨i, j, rfl, hj, k _ H1 s1 (zd7 i _)⟩
    · cases e2
  · cases e2
theorem zay {K : Frag} {F : Fx} {O : List Addr} {ρ : Env'} {σ : St} {H H' : Hp} {d : D} {x : V} (r : SR K F O ρ σ H) (y : Yield K F.V0 H d x H') : Same H H' ∧ SR K F O ρ σ H' ∧ Rep K (hide O H') d x := by
  cases y with
  | old h => exact ⟨Same.refl _, r, h O r.vb r.dom⟩
  | new hp rs => exact ⟨jn hp, r.same (jn hp), wI hp (r.fresh hp) (rs.same r.vb)⟩
theorem zh3 {K : Frag} {g : Env' → Option (List D)} {h : GT} {gb : GS} {D : Ends} {σ : St} {H : Hp} (q : tSd K (sFor g h gb) D σ H) : tFor (tId K g) (tGd K h) (tSd K gb) D σ H := by
  obtain ⟨F, O, ρ, out, r, e, k⟩ := q
  obtain ⟨ds, e1, e2⟩ := Option.bind_eq_some_iff.mp e
  refine ⟨F, O, ρ, ds, r, e1, fun J H1 s1 it => ?_⟩
  have r1 := r.same s1
  have sb : Same F.V0 (hide O H1) := r1.vb
  refine ⟨fun i m σ H => m = ds.length - i ∧ i ≤ ds.length ∧ ∃ O' ρ', SR K { F with V0 := hide O H1 } O' ρ' σ H ∧ forF h gb (ds.drop i) ρ' = some out, ⟨ds.length, rfl, Nat.zero_le _, O, ρ, r1.base, e2⟩, ?_⟩
  rintro i m σ2 H2 ⟨rfl, hi, O', ρ', r2, e3⟩
  have sB : Same (hide O H1) H2 := r2.vb.trans jY
  by_cases hlt : i < ds.length
  · refine .inr ⟨it.go i H2 sB hlt, ?_⟩
    rw [List.drop_eq_getElem_cons hlt] at e3
    obtain ⟨ρ3, e4, e5⟩ := Option.bind_eq_some_iff.mp e3
    obtain ⟨o1, e6, e7⟩ := Option.bind_eq_some_iff.mp e5
    refine ⟨fun σ' H' => ∃ O' ρ', SR K { F with V0 := hide O H1 } O' ρ' σ' H' ∧ forF h gb (ds.drop (i + 1)) ρ' = some out, fun σ' H' ⟨O4, ρ4, r4, e8⟩ => ⟨ds.length - (i + 1), by omega, rfl, hlt, O4, ρ4, r4, e8⟩, fun x H' y => ?_⟩
    obtain ⟨s5, r5, b5⟩ := zay r2 (it.yld i H2 x H' ds[i] sB (by simp [hlt]) y)
    refine ⟨_, O', ρ', ds[i], ρ3, r5, b5, e4, fun σ' r6 => ⟨_, O', ρ3, o1, r6, e6, ?_⟩⟩
    cases o1 with
    | nxt ρ7 => exact fun O8 σ8 H8 r8 => ⟨O8, ρ7, r8, e7⟩
    | cnt ρ7 => exact fun O8 σ8 H8 r8 => ⟨O8, ρ7, r8, e7⟩
    | brk ρ7 => cases e7; exact fun O8 σ8 H8 r8 => k O8 σ8 H8 (r8.back sb)
    | ret d => cases e7; exact k
  · have ei : i = ds.length := by omega
    subst ei
    rw [List.drop_length] at e3
    cases e3
    exact .inl ⟨it.stop H2 sB, k O' σ2 H2 (r2.back sb)⟩
theorem qJ {iter : Expr} {body : List Stmt} {g : Env' → Option (List D)} {h : GT} {gb : GS} (hp : PassesOwn (model X.prog X.w) X.A X.env X.xe) (hc : X.calm = true) (hi : PId X tg iter g) (hg : PGd X tg h) (hb : PSsd X body gb)
    (hs : ∀ x, foldedSetIterable iter X.env x = pure x := by intro _; rfl) : PSd X (.For tg iter body [] pos) (sFor g h gb) := PS.imp (zi0 hp hc hi hg hb hs) fun _ _ _ q => zh3 q
theorem zfd {i : Nat} {ρ : Env'} {ds : List D} (h : ownL i ρ = some ds) : ρ[i]? = some (some (.own (.list ds))) := by
  unfold ownL at h
  split at h
  · cases h; assumption
  · cases h
end
end L2.Y
namespace L2.Y
open PySem PySem.Spec PyProof.Rows
section
variable {X : Cx} {pins : List (Addr × Obj)} {σ : St} {H : Hp} {s : Shared}
mutual
theorem Rep.reads (I : Inv X pins σ H s) : ∀ {d : D} {v : V} {u : Value}, Rep X.K H d v → RelV v u → d.canLay0 = true → ∃ as, Reads s.heap u d as
  | _, _, _, .non, r, _ => by cases r; exact ⟨_, .none⟩
  | _, _, _, .bl b, r, _ => by cases r; exact ⟨_, .bool b⟩
  | _, _, _, .int i, r, _ => by obtain ⟨t, rfl⟩ := r; exact ⟨_, .int i t⟩
  | _, _, _, .str x, r, _ => by obtain ⟨t, rfl⟩ := r; exact ⟨_, .str x t⟩
  | _, _, _, .tup h rs, r, hc => by
    cases r
    obtain ⟨its, rv, ⟨o, e, c, n, dd⟩, _⟩ := I.tuple (.inl (.inl h))
    obtain ⟨as, q⟩ := Reps.reads I rs rv (by simpa [PyData.canLay0] using hc)
    exact ⟨_, .tuple e c dd (by simpa using q)⟩
  | _, _, _, .lst h rs, r, hc => by
    cases r
    obtain ⟨its, rv, ⟨o, n, e, c, _, dd⟩, _⟩ := I.list (SqL.same (Same.refl _) (.inl h))
    obtain ⟨as, q⟩ := Reps.reads I rs rv (by simpa [PyData.canLay0] using hc)
    exact ⟨_, .list e c dd (by simpa using q)⟩
  | _, _, _, .dK _ _, _, hc => by simp [PyData.canLay0] at hc
  | _, _, _, .dT _ _, _, hc => by simp [PyData.canLay0] at hc
  | _, _, _, .dF _ _, _, hc => by simp [PyData.canLay0] at hc
  | _, _, _, .scr _ _, _, hc => by simp [PyData.canLay0] at hc
theorem Reps.reads (I : Inv X pins σ H s) : ∀ {ds : List D} {vs : List V} {us : List Value}, Reps X.K H ds vs → Vals vs us → PyData.canLayAll0 ds = true → ∃ as, ReadsAll s.heap us ds as
  | _, _, _, .nil, r, _ => by cases r; exact ⟨_, .nil⟩
  | _, _, _, .cons h rs, r, hc => by
    cases r with
    | cons r rr =>
      simp only [PyData.canLayAll0, Bool.and_eq_true] at hc
      have hc' := hc
      obtain ⟨as, q⟩ := Rep.reads I h r hc'.1
      obtain ⟨bs, q'⟩ := Reps.reads I rs rr hc'.2
      exact ⟨_, .cons q q'⟩
end
theorem RepB.full {K : Frag} {O : List Addr} {d : D} {v : V} (h : RepB K O H d v) : Rep K H d v := by
  cases h with
  | val h => exact h.same jY
  | own _ h =>
    cases h with
    | lst h r => exact .lst (.inl h) (r.same jY)
    | dK h r => exact .dK h (r.same jY)
    | dT h r => exact .dT h (r.same jY)
theorem RepB.reads {O : List Addr} {d : D} {v : V} {u : Value} (I : Inv X pins σ H s) (h : RepB X.K O H d v) (r : RelV v u) (hc : d.canLay0 = true) : ∃ as, Reads s.heap u d as := h.full.reads I r hc
end
section
variable {X : Cx}
theorem qU {pins : List (Addr × Obj)} {σ : St} {H : Hp} {s : Shared} {O : List Addr} {b : Bool} {Q : VK} (I : Inv X pins σ H s) (k : ∀ z H', Same H H' → Rep X.K (hide O H') (.bool b) z → Q z H') : EP X pins σ Q (.bool b) s :=
  ⟨.bl b, H, I, rfl, k _ H (Same.refl _) (.bl b)⟩
theorem wv (hu : X.A.units + 64 < cLine) : OpD X (compareOp .Eq) eqD := by
  intro pins s σ H O x y v u dx dy d Q I hO rx ry bx by' e k
  unfold eqD at e
  split at e
  · rename_i hs
    obtain ⟨h1, h2⟩ := Bool.and_eq_true_iff.mp hs
    cases e
    obtain ⟨as, ra⟩ := bx.reads I rx (SeqAt.canLay_of_shaped h1)
    obtain ⟨bs, rb⟩ := by'.reads I ry (SeqAt.canLay_of_shaped h2)
    exact SeqAt.compareEq_shaped ra rb h1 h2 hu (qU I k)
  · cases e
theorem xy (hu : X.A.units + 64 < cLine) : OpD X (compareOp .NotEq) neD := by
  intro pins s σ H O x y v u dx dy d Q I hO rx ry bx by' e k
  unfold neD at e
  split at e
  · rename_i hs
    obtain ⟨h1, h2⟩ := Bool.and_eq_true_iff.mp hs
    cases e
    obtain ⟨as, ra⟩ := bx.reads I rx (SeqAt.canLay_of_shaped h1)
    obtain ⟨bs, rb⟩ := by'.reads I ry (SeqAt.canLay_of_shaped h2)
    exact SeqAt.compareNe_shaped ra rb h1 h2 hu (qU I k)
  · cases e
theorem yf {d : D} {k : Key} (h : keyQ d = some k) : d = keyD k := by
  cases d <;> first | (cases h; rfl) | cases h
theorem zbX : ∀ {ds : List D} {ks : List Key}, ds.mapM keyQ = some ks → ds = ks.map keyD
  | [], ks, h => by cases h; rfl
  | d :: ds, ks, h => by
    rw [List.mapM_cons] at h
    obtain ⟨k, h1, h⟩ := Option.bind_eq_some_iff.mp h
    obtain ⟨r, h2, h⟩ := Option.bind_eq_some_iff.mp h
    cases h
    rw [yf h1, zbX h2]; rfl
theorem kF {d : D} {ks : List Key} (h : zhy d = some ks) : d = wX ks := by
  cases d with
  | tuple ds => rw [zbX (show ds.mapM keyQ = some ks from h)]; rfl
  | _ => cases h
theorem zah (a b : Key) : PyData.eqv (keyD a) (keyD b) = decide (a = b) := by
  cases a <;> cases b
  · rename_i i j
    by_cases e : i = j
    · subst e; simp [keyD, PyData.eqv]
    · simp [keyD, PyData.eqv, e]
  · simp [keyD, PyData.eqv]
  · simp [keyD, PyData.eqv]
  · rename_i i j
    by_cases e : i = j
    · subst e; simp [keyD, PyData.eqv]
    · simp [keyD, PyData.eqv, e]
theorem vz : ∀ (a b : List Key), PyData.eqvAll (a.map keyD) (b.map keyD) = decide (a = b)
  | [], [] => by simp [PyData.eqvAll]
  | [], _ :: _ => by simp [PyData.eqvAll]
  | _ :: _, [] => by simp [PyData.eqvAll]
  | x :: xs, y :: ys => by
    simp only [List.map_cons, PyData.eqvAll, zah, vz xs ys]
    by_cases e : x = y <;> by_cases e' : xs = ys <;> simp [e, e']
theorem zbb (a b : List Key) : PyData.eqv (wX a) (wX b) = decide (a = b) := by
  unfold wX
  rw [show PyData.eqv (.tuple (a.map keyD)) (.tuple (b.map keyD)) = PyData.eqvAll (a.map keyD) (b.map keyD) from by simp only [PyData.eqv], vz]
section
variable {κ : Type} [DecidableEq κ] {f : κ → D} {K : Frag} {H : Hp}
theorem zai (hf : ∀ a b, PyData.eqv (f a) (f b) = decide (a = b)) (k : κ) : ∀ {kvs : List (κ × V)} {ds : List D}, Reps K H ds (kvs.map (·.2)) →
    (∀ d, yi ((kvs.map fun p => f p.1).zip ds) (f k) = some d → ∃ v, valV kvs k = some v ∧ Rep K H d v) ∧ (yi ((kvs.map fun p => f p.1).zip ds) (f k) = none → valV kvs k = none)
  | [], _, r => by cases r; exact ⟨fun d h => (nomatch h), fun _ => rfl⟩
  | (k', v) :: kvs, _, r => by
    cases r with
    | cons r rr =>
      rename_i d ds
      have ih := zai hf k rr
      have e1 : yi (((k', v) :: kvs).map (fun p => f p.1) |>.zip (d :: ds)) (f k) = if k' = k then some d else yi ((kvs.map fun p => f p.1).zip ds) (f k) := by
        simp only [List.map_cons, List.zip_cons_cons, yi, List.find?_cons, hf]
        by_cases e : k' = k <;> simp [e]
      rw [e1]
      by_cases e : k' = k
      · rw [if_pos e]
        exact ⟨fun d' h => by cases h; exact ⟨v, vh (p := (k', v)) e, r⟩, fun h => (nomatch h)⟩
      · rw [if_neg e, vi (p := (k', v)) e]
        exact ih
theorem zey (hf : ∀ a b, PyData.eqv (f a) (f b) = decide (a = b)) (k : κ) : ∀ {kvs : List (κ × V)} {ds : List D}, Reps K H ds (kvs.map (·.2)) →
    (((kvs.map fun p => f p.1).zip ds).any fun p => PyData.eqv p.1 (f k)) = kvs.any fun kv => decide (kv.1 = k)
  | [], _, r => by cases r; rfl
  | (k', v) :: kvs, _, r => by
    cases r with
    | cons r rr => simp only [List.map_cons, List.zip_cons_cons, List.any_cons, hf, zey hf k rr]
theorem zeX (hf : ∀ a b, PyData.eqv (f a) (f b) = decide (a = b)) (k : κ) {y : D} {w : V} (ry : Rep K H y w) {kvs : List (κ × V)} {ds : List D} (r : Reps K H ds (kvs.map (·.2))) :
    ∃ ds', putD ((kvs.map fun p => f p.1).zip ds) (f k) y = ((putK kvs k w).map fun p => f p.1).zip ds' ∧ Reps K H ds' ((putK kvs k w).map (·.2)) := by
  have ha := zey (f := f) hf k r
  unfold putD putK
  rw [ha]
  by_cases e : (kvs.any fun kv => decide (kv.1 = k)) = true
  · rw [if_pos e, if_pos e]
    clear ha e
    have go : ∀ {kvs : List (κ × V)} {ds : List D}, Reps K H ds (kvs.map (·.2)) → ∃ ds', (((kvs.map fun p => f p.1).zip ds).map fun p => if PyData.eqv p.1 (f k) = true then (p.1, y) else p) =
        ((kvs.map fun kv => if kv.1 = k then (kv.1, w) else kv).map fun p => f p.1).zip ds' ∧ Reps K H ds' ((kvs.map fun kv => if kv.1 = k then (kv.1, w) else kv).map (·.2)) := by
      intro kvs
      induction kvs with
      | nil => intro ds r; cases r; exact ⟨[], rfl, .nil⟩
      | cons p kvs ih =>
        intro ds r
        obtain ⟨k', v⟩ := p
        cases r with
        | cons r rr =>
          rename_i d1 ds1
          obtain ⟨ds', e1, e2⟩ := ih rr
          by_cases e : k' = k
          · refine ⟨y :: ds', ?_, ?_⟩
            · simp only [List.map_cons, List.zip_cons_cons, e1, hf, e, decide_true, if_true]
            · simp only [List.map_cons, e, if_true]; exact .cons ry e2
          · refine ⟨d1 :: ds', ?_, ?_⟩
            · simp only [List.map_cons, List.zip_cons_cons, e1, hf, e, decide_false, Bool.false_eq_true, if_false]
            · simp only [List.map_cons, e, if_false]; exact .cons r e2
    exact go r
  · rw [if_neg e, if_neg e]
    refine ⟨ds ++ [y], ?_, ?_⟩
    · rw [List.map_append, List.zip_append (by rw [List.length_map, r.length, List.length_map])]; rfl
    · rw [List.map_append]; exact r.append (.cons ry .nil)
end
end
end L2.Y
namespace L2.Y
open PySem PySem.Spec PyProof.Rows
section
variable {X : Cx}
theorem wJ {ds : List D} (h : ds.all SeqAt.shaped = true) : PyData.canLayAll0 ds = true ∧ PyData.depthAll ds ≤ 64 := by
  induction ds with
  | nil => exact ⟨rfl, Nat.zero_le _⟩
  | cons d ds ih =>
    simp only [List.all_cons, Bool.and_eq_true] at h
    obtain ⟨h1, h2⟩ := ih h.2
    have a := SeqAt.canLay_of_shaped h.1
    have b := SeqAt.depth_of_shaped h.1
    refine ⟨by simp only [PyData.canLayAll0, a, h1, Bool.and_self], ?_⟩
    simp only [PyData.depthAll]
    omega
theorem room_in {A : Around} {ds : List D} {x : D} (hu : A.units + 66 < cLine) (h : PyData.depthAll ds ≤ 64) : A.units + 1 + min (PyData.depthAll ds) x.depth < cLine := by
  have : min (PyData.depthAll ds) x.depth ≤ PyData.depthAll ds := Nat.min_le_left _ _
  omega
theorem zg9 (hu : X.A.units + 66 < cLine) : OpD X (compareOp .In) inD := by
  intro pins s σ H O x y v u dx dy d Q I hO rx ry bx by' e k
  obtain ⟨b, e1, rfl⟩ := Option.map_eq_some_iff.mp e
  cases dy with
  | list ds =>
    have e1 : (if (ds.all SeqAt.shaped && SeqAt.shaped dx) = true then some (ds.any fun y => PyData.eqv y dx) else none) = some b := e1
    split at e1
    · rename_i hs
      obtain ⟨h1, h2⟩ := Bool.and_eq_true_iff.mp hs
      obtain ⟨c1, c2⟩ := wJ h1
      cases e1
      obtain ⟨as, ra⟩ := bx.reads I rx (SeqAt.canLay_of_shaped h2)
      obtain ⟨bs, rb⟩ := by'.reads I ry (by simpa only [PyData.canLay0] using c1)
      exact SeqAt.in_list_reads rb ra c1 (SeqAt.canLay_of_shaped h2) (room_in hu c2) (qU I k)
    · cases e1
  | tuple ds =>
    have e1 : (if (ds.all SeqAt.shaped && SeqAt.shaped dx) = true then some (ds.any fun y => PyData.eqv y dx) else none) = some b := e1
    split at e1
    · rename_i hs
      obtain ⟨h1, h2⟩ := Bool.and_eq_true_iff.mp hs
      obtain ⟨c1, c2⟩ := wJ h1
      cases e1
      obtain ⟨as, ra⟩ := bx.reads I rx (SeqAt.canLay_of_shaped h2)
      obtain ⟨bs, rb⟩ := by'.reads I ry (by simpa only [PyData.canLay0] using c1)
      exact SeqAt.in_tuple_reads rb ra c1 (SeqAt.canLay_of_shaped h2) (room_in hu c2) (qU I k)
    · cases e1
  | _ => cases e1
theorem zbc (hu : X.A.units + 66 < cLine) : OpD X (compareOp .NotIn) yF := by
  intro pins s σ H O x y v u dx dy d Q I hO rx ry bx by' e k
  obtain ⟨b, e1, rfl⟩ := Option.map_eq_some_iff.mp e
  cases dy with
  | list ds =>
    have e1 : (if (ds.all SeqAt.shaped && SeqAt.shaped dx) = true then some (ds.any fun y => PyData.eqv y dx) else none) = some b := e1
    split at e1
    · rename_i hs
      obtain ⟨h1, h2⟩ := Bool.and_eq_true_iff.mp hs
      obtain ⟨c1, c2⟩ := wJ h1
      cases e1
      obtain ⟨as, ra⟩ := bx.reads I rx (SeqAt.canLay_of_shaped h2)
      obtain ⟨bs, rb⟩ := by'.reads I ry (by simpa only [PyData.canLay0] using c1)
      exact SeqAt.notIn_list_reads rb ra c1 (SeqAt.canLay_of_shaped h2) (room_in hu c2) (qU I k)
    · cases e1
  | tuple ds =>
    have e1 : (if (ds.all SeqAt.shaped && SeqAt.shaped dx) = true then some (ds.any fun y => PyData.eqv y dx) else none) = some b := e1
    split at e1
    · rename_i hs
      obtain ⟨h1, h2⟩ := Bool.and_eq_true_iff.mp hs
      obtain ⟨c1, c2⟩ := wJ h1
      cases e1
      obtain ⟨as, ra⟩ := bx.reads I rx (SeqAt.canLay_of_shaped h2)
      obtain ⟨bs, rb⟩ := by'.reads I ry (by simpa only [PyData.canLay0] using c1)
      exact SeqAt.notIn_tuple_reads rb ra c1 (SeqAt.canLay_of_shaped h2) (room_in hu c2) (qU I k)
    · cases e1
  | _ => cases e1
theorem zaF {f : Value → Value → Sem Value} {C : Int → Int → Prop} {g : Int → Int → V} {h : D → D → Option D} (ho : OpR X f (rI C g)) (hd : ∀ dx dy d, h dx dy = some d → ∃ i j, dx = .int i ∧ dy = .int j ∧ C i j ∧ ∀ K H, Rep K H d (g i j)) : OpD X f h := by
  intro pins s σ H O x y v u dx dy d Q I hO rx ry bx by' e k
  obtain ⟨i, j, rfl, rfl, hc, r⟩ := hd dx dy d e
  cases bx.int
  cases by'.int
  exact ho pins s σ H _ _ v u Q I rx ry ⟨i, j, rfl, rfl, hc, k _ H (Same.refl _) (r _ _)⟩
theorem zhj {f : Value → Value → Sem Value} {g : Int → Int → V} (h : OpR X f (rI0 g)) : OpR X f (rI (fun _ _ => True) g) := fun pins s σ H x y v u Q I rx ry ⟨i, j, e1, e2, _, q⟩ => h pins s σ H x y v u Q I rx ry ⟨i, j, e1, e2, q⟩
theorem xr {f : Int → Int → Option D} {a b d : D} (h : kZ f a b = some d) : ∃ i j, a = .int i ∧ b = .int j ∧ f i j = some d := by
  unfold kZ at h
  split at h
  · exact ⟨_, _, rfl, rfl, h⟩
  · cases h
theorem zeo : OpD X (binaryOp .Sub) subD := zaF (zhj zj1) fun dx dy d h => by
  obtain ⟨i, j, rfl, rfl, e⟩ := xr h
  cases e
  exact ⟨i, j, rfl, rfl, trivial, fun _ _ => .int _⟩
theorem xW : OpD X (binaryOp .FloorDiv) vo := zaF ziB fun dx dy d h => by
  obtain ⟨i, j, rfl, rfl, e⟩ := xr h
  split at e
  · cases e; exact ⟨i, j, rfl, rfl, by assumption, fun _ _ => .int _⟩
  · cases e
theorem je : OpD X (binaryOp .Mod) modD := zaF zjc fun dx dy d h => by
  obtain ⟨i, j, rfl, rfl, e⟩ := xr h
  split at e
  · cases e; exact ⟨i, j, rfl, rfl, by assumption, fun _ _ => .int _⟩
  · cases e
theorem zfA {pins : List (Addr × Obj)} {σ : St} {H : Hp} {s : Shared} {a : Addr} {xs : List V} (I : Inv X pins σ H s) (h : Rd H a (.lst xs)) : xs.length ≤ sizeLine ∧ ∃ its n, Vals xs its ∧ s.heap.get? a = some { cls := .type "list", data := .seq its.toArray n } := by
  obtain ⟨z, its, n, r, e⟩ := h.ok I.hok
  exact ⟨z, its, n, r, e⟩
end
end L2.Y
namespace L2.Y
open PySem PySem.Spec PyProof.Rows
section
variable {X : Cx}
theorem Inv.newL {pins : List (Addr × Obj)} {σ : St} {H : Hp} {s : Shared} {xs : List V} {its : List Value} (I : Inv X pins σ H s) (r : Vals xs its) (hz : xs.length ≤ sizeLine) (t' : Nat) :
    Inv X pins σ (upd H s.heap.objs.size (.lst xs)) { s with heap := s.heap.push { cls := .type "list", data := .seq its.toArray }, toks := t' } :=
  I.laid (t' := t') (fun b u e => Heap.get?_push_of_some _ e) (Nat.le_refl _) ⟨hz, its, 0, r, Heap.get?_push_size _ rfl⟩
theorem Inv.newT {pins : List (Addr × Obj)} {σ : St} {H : Hp} {s : Shared} {xs : List V} {its : List Value} (I : Inv X pins σ H s) (r : Vals xs its) (hz : xs.length ≤ sizeLine) (t' : Nat) :
    Inv X pins σ (upd H s.heap.objs.size (.tup xs)) { s with heap := s.heap.push { cls := .type "tuple", data := .seq its.toArray }, toks := t' } :=
  I.laid (t' := t') (fun b u e => Heap.get?_push_of_some _ e) (Nat.le_refl _) ⟨hz, its, r, IsTup.new _ _⟩
theorem zeu {pins : List (Addr × Obj)} {σ : St} {H : Hp} {s : Shared} {O : List Addr} {xs : List V} {its : List Value} {ds : List D} {Q : VK} {t' : Nat} (I : Inv X pins σ H s) (hO : Dom O H) (r : Vals xs its) (hz : xs.length ≤ sizeLine) (rs : Reps X.K (hide O H) ds xs)
    (k : ∀ z H', Same H H' → Rep X.K (hide O H') (.list ds) z → Q z H') : EP X pins σ Q (.ref s.heap.objs.size) { s with heap := s.heap.push { cls := .type "list", data := .seq its.toArray }, toks := t' } := by
  have hf : H s.heap.objs.size = none := I.hok.fresh (Nat.le_refl _)
  exact ⟨.ref s.heap.objs.size, _, Inv.newL I r hz t', rfl, k _ _ (jn hf) (vg hf (hO.out hf) rs)⟩
theorem zeU {pins : List (Addr × Obj)} {σ : St} {H : Hp} {s : Shared} {O : List Addr} {xs : List V} {its : List Value} {ds : List D} {Q : VK} {t' : Nat} (I : Inv X pins σ H s) (hO : Dom O H) (r : Vals xs its) (hz : xs.length ≤ sizeLine) (rs : Reps X.K (hide O H) ds xs)
    (k : ∀ z H', Same H H' → Rep X.K (hide O H') (.tuple ds) z → Q z H') : EP X pins σ Q (.ref s.heap.objs.size) { s with heap := s.heap.push { cls := .type "tuple", data := .seq its.toArray }, toks := t' } := by
  have hf : H s.heap.objs.size = none := I.hok.fresh (Nat.le_refl _)
  exact ⟨.ref s.heap.objs.size, _, Inv.newT I r hz t', rfl, k _ _ (jn hf) (wI hf (hO.out hf) rs)⟩
theorem wN {O : List Addr} {H : Hp} {ds : List D} {v : V} (h : RepB X.K O H (.tuple ds) v) : Rep X.K (hide O H) (.tuple ds) v := by
  cases h with
  | val h => exact h
  | own _ h => cases h
theorem zn : OpD X (binaryOp .Add) addD := by
  intro pins s σ H O x y v u dx dy d Q I hO rx ry bx by' e k
  unfold addD at e
  split at e
  · rename_i i j
    cases e
    cases bx.int
    cases by'.int
    exact zjB pins s σ H _ _ v u Q I rx ry ⟨i, j, rfl, rfl, k _ H (Same.refl _) (.int _)⟩
  · rename_i i j
    split at e
    · rename_i hl
      cases e
      cases bx.str
      cases by'.str
      exact zdQ pins s σ H _ _ v u Q I rx ry ⟨i, j, rfl, rfl, hl, k _ H (Same.refl _) (.str _)⟩
    · cases e
  · rename_i xs ys
    split at e
    · rename_i hl
      cases e
      obtain ⟨a, vx, rfl, sa, ra⟩ := bx.tup
      obtain ⟨b, vy, rfl, sb, rb⟩ := by'.tup
      obtain rfl : v = Value.ref a := rx
      obtain rfl : u = Value.ref b := ry
      obtain ⟨its, r1, p1, _⟩ := I.tuple sa
      obtain ⟨its2, r2, p2, _⟩ := I.tuple sb
      by_cases he : its = []
      · have : vx = [] := (r1.nil_iff).mp he
        subst this
        cases ra
        obtain ⟨⟨cls, dd, data, sl⟩, ho, hc, n, hd⟩ := id p1
        obtain ⟨⟨cls2, dd2, data2, sl2⟩, ho2, hc2, n2, hd2⟩ := id p2
        simp only at hc hd hc2 hd2
        subst hc hd hc2 hd2
        refine concat_meets ⟨_, ho, rfl⟩ ⟨_, ho2, rfl⟩ noFill_tuple_add seq_tuple_add PySem.F.slot_tuple_add PySem.F.entry_tuple_add (PySem.F.args_tuple_add_2 _ _)
          (tuple_addW0 a b its.toArray its2.toArray n n2 dd dd2 sl sl2 (by simp [he])) ⟨ho, ho2, ?_⟩
        exact ⟨.ref b, H, I, rfl, k _ H (Same.refl _) (wN by')⟩
      · refine HT.cat_tup p1 p2 he (fun z => ?_) (fun z => ?_) (by rw [← r1.length, ← r2.length, ← ra.length, ← rb.length]; exact hl)
        · have : vy = [] := (r2.nil_iff).mp z
          subst this
          cases rb
          rw [List.append_nil] at k
          exact ⟨.ref a, H, I, rfl, k _ H (Same.refl _) (wN bx)⟩
        · exact zeU (t' := s.toks) I hO (r1.append r2) (by rw [List.length_append, ← ra.length, ← rb.length]; exact hl) (ra.append rb) k
    · cases e
  · rename_i xs ys
    split at e
    · rename_i hl
      cases e
      obtain ⟨a, vx, rfl, sa, ra⟩ := bx.lstR
      obtain ⟨b, vy, rfl, sb, rb⟩ := by'.lstR
      obtain rfl : v = Value.ref a := rx
      obtain rfl : u = Value.ref b := ry
      obtain ⟨_, its, n, r1, e1⟩ := zfA I sa
      obtain ⟨_, its2, n2, r2, e2⟩ := zfA I sb
      refine PySem.P.add_list e1 e2 ?_ (by rw [List.size_toArray, List.size_toArray, ← r1.length, ← r2.length, ← ra.length, ← rb.length]; exact hl)
      have ea : its.toArray ++ its2.toArray = (its ++ its2).toArray := by simp
      rw [ea]
      exact zeu (t' := s.toks) I hO (r1.append r2) (by rw [List.length_append, ← ra.length, ← rb.length]; exact hl) (ra.append rb) k
    · cases e
  · cases e
theorem qH : ∀ {ds : List D} {is : List Int}, zfq ds = some is → ds = is.map PyData.int
  | [], _, h => by cases h; rfl
  | d :: ds, _, h => by
    unfold zfq at h
    rw [List.mapM_cons] at h
    obtain ⟨i, h1, h⟩ := Option.bind_eq_some_iff.mp h
    obtain ⟨r, h2, h⟩ := Option.bind_eq_some_iff.mp h
    cases h
    cases d <;> first | (cases h1; rw [qH (ds := ds) h2]; rfl) | cases h1
theorem zcX : OpD X (compareOp .LtE) leD := zaF (zhj zki) fun dx dy d h => by
  obtain ⟨i, j, rfl, rfl, e⟩ := xr h
  cases e
  exact ⟨i, j, rfl, rfl, trivial, fun _ _ => .bl _⟩
theorem zae (hu : X.A.units < cLine) : OpD X (compareOp .Lt) ltD := by
  intro pins s σ H O x y v u dx dy d Q I hO rx ry bx by' e k
  unfold ltD cmpD at e
  split at e
  · rename_i i j
    cases e
    cases bx.int
    cases by'.int
    exact zkh pins s σ H _ _ v u Q I rx ry ⟨i, j, rfl, rfl, k _ H (Same.refl _) (.bl _)⟩
  · obtain ⟨is, e1, e⟩ := Option.bind_eq_some_iff.mp e
    obtain ⟨js, e2, e⟩ := Option.bind_eq_some_iff.mp e
    cases e
    cases qH e1
    cases qH e2
    obtain ⟨a, vx, rfl, sa, ra⟩ := bx.tup
    obtain ⟨b, vy, rfl, sb, rb⟩ := by'.tup
    cases ra.ints
    cases rb.ints
    exact zjV hu pins s σ H _ _ v u Q I rx ry ⟨a, b, is, js, rfl, rfl, sa, sb, k _ H (Same.refl _) (.bl _)⟩
  · cases e
end
end L2.Y
namespace L2.Y
open PySem PySem.Spec PyProof.Rows
section
open PySem.SeqAt
open PySem.AutoSeq1 (wpAny_loadPart')
open PySem.MeetsSeq PySem.MeetsSeq2 PySem.MeetsSeq3
theorem zgN (A : Around) (s : Shared) (a : Int) (t : Tok) (c : Int) (u : Tok) (prog : Program) (w : World) (E : Value → Shared → Prop) (Q : Value → Shared → Prop) (h : Q (.bool (decide (c ≤ a))) s) :
    wpAny (model prog w) A (richCompare .GtE (.int a t) (.int c u)) Q E s :=
  (PyProof.Rows.ge_int h : wpAny (model prog w) A (compareOp .GtE (.int a t) (.int c u)) Q E s)
theorem zaR (l b : Addr) (items items2 : Array Value) (n n2 : Nat) (dd dd2 : Option Addr) (sl sl2 : Array (Option Value)) (ns ms : List Int) (hi : IntsAre items.toList ns) (hj : IntsAre items2.toList ms) :
    Meets (Builtin.«tuple.__ge__» ⟨[.ref l, .ref b], []⟩)
      (fun _ R s => s.heap.get? l = some { cls := .type "tuple", dict := dd, data := .seq items n, slots := sl } ∧ s.heap.get? b = some { cls := .type "tuple", dict := dd2, data := .seq items2 n2, slots := sl2 } ∧
        R (.ok (.ret (.bool (!HT.lexLt ns ms)))) s) :=
  .of_wp fun prog w A R s h => by
    obtain ⟨hp, g, d, tk, os⟩ := s; obtain ⟨hl, hb, h⟩ := h
    have f2 := AutoSeq1.sub_tuple_tuple
    have z1 : items.size = ns.length := by rw [← hi.length]; simp
    have z2 : items2.size = ms.length := by rw [← hj.length]; simp
    wp_walk using wpAny_loadPart' hl, wpAny_loadPart' hb, wpAny_forIn_list _ (fun rest b s' => b.1 = none ∧ s' = ⟨hp, g, d, tk, os⟩ ∧ ∃ (vs ws : List Value) (ns' ms' : List Int), rest = vs.zip ws ∧
      IntsAre vs ns' ∧ IntsAre ws ms' ∧ ns'.length + items2.size = ms'.length + items.size ∧ R (.ok (.ret (.bool (!HT.lexLt ns' ms')))) ⟨hp, g, d, tk, os⟩) _
    case turn =>
      rintro ⟨y, x⟩ rest b s' ⟨hb', rfl, vs, ws, ns', ms', hz, hvi, hwi, hlen, hR⟩
      cases hvi with
      | nil => rw [List.zip_nil_left] at hz; cases hz
      | cons a t hvi' =>
        cases hwi with
        | nil => rw [List.zip_nil_right] at hz; cases hz
        | cons c u hwi' =>
          rw [List.zip_cons_cons] at hz
          injection hz with hyx hrest
          injection hyx with hy hx
          subst hy hx
          rw [HT.lexLt_cons] at hR
          simp only [List.length_cons] at hlen
          obtain ⟨e, he, hiff⟩ := HT.eqAt_int A.in1 ⟨hp, g, d, tk, os⟩ a t c u
          refine wpAny_bind (he prog w _ _ ?_)
          cases e with
          | true =>
            rw [if_pos (hiff.mp rfl)] at hR
            wp_walk
            exact ⟨rfl, rfl, _, _, _, _, hrest, hvi', hwi', by omega, hR⟩
          | false =>
            rw [if_neg (fun q => absurd (hiff.mpr q) Bool.false_ne_true)] at hR
            have e' : (!decide (a < c)) = decide (c ≤ a) := by
              by_cases q : a < c
              · rw [decide_eq_true q, decide_eq_false (by omega)]; rfl
              · rw [decide_eq_false q, decide_eq_true (by omega)]; rfl
            rw [e'] at hR
            have hri := zgN A.in1 ⟨hp, g, d, tk, os⟩ a t c u prog w
            wp_walk using hri
            exact ⟨_, rfl, by simpa using hR⟩
    case fin =>
      rintro ⟨b1, b2⟩ s' ⟨hb', rfl, vs, ws, ns', ms', hz, hvi, hwi, hlen, hR⟩
      simp only at hb'
      subst hb'
      have hv : (!HT.lexLt ns' ms') = decide (items2.size ≤ items.size) := by
        cases hvi with
        | nil =>
          cases hwi with
          | nil =>
            simp only [List.length_nil] at hlen
            rw [HT.lexLt_nil_nil]
            exact (decide_eq_true (by omega)).symm
          | cons c u hw =>
            simp only [List.length_nil, List.length_cons] at hlen
            rw [HT.lexLt_nil_cons]
            exact (decide_eq_false (by omega)).symm
        | cons a t hv =>
          cases hwi with
          | nil =>
            simp only [List.length_nil, List.length_cons] at hlen
            rw [HT.lexLt_cons_nil]
            exact (decide_eq_true (by omega)).symm
          | cons c u hw =>
            rw [List.zip_cons_cons] at hz
            cases hz
      rw [hv] at hR
      wp_walk
      exact ⟨_, rfl, by simpa [Builtin.Tuple.tupleCompareSizes] using hR⟩
    case h =>
      exact ⟨rfl, rfl, items.toList, items2.toList, ns, ms, rfl, hi, hj, by omega, h⟩
end
section
variable {X : Cx}
theorem zjG (hu : X.A.units < cLine) : OpD X (compareOp .GtE) geD := by
  intro pins s σ H O x y v u dx dy d Q I hO rx ry bx by' e k
  unfold geD cmpD at e
  split at e
  · rename_i i j
    cases e
    cases bx.int
    cases by'.int
    exact zkv pins s σ H _ _ v u Q I rx ry ⟨i, j, rfl, rfl, k _ H (Same.refl _) (.bl _)⟩
  · obtain ⟨is, e1, e⟩ := Option.bind_eq_some_iff.mp e
    obtain ⟨js, e2, e⟩ := Option.bind_eq_some_iff.mp e
    cases e
    cases qH e1
    cases qH e2
    obtain ⟨a, vx, rfl, sa, ra⟩ := bx.tup
    obtain ⟨b, vy, rfl, sb, rb⟩ := by'.tup
    cases ra.ints
    cases rb.ints
    obtain rfl : v = Value.ref a := rx
    obtain rfl : u = Value.ref b := ry
    obtain ⟨its, r1, p1, _⟩ := I.tuple sa
    obtain ⟨its2, r2, p2, _⟩ := I.tuple sb
    obtain ⟨⟨cls, dd, data, sl⟩, ho, hc, n, hd⟩ := id p1
    obtain ⟨⟨cls2, dd2, data2, sl2⟩, ho2, hc2, n2, hd2⟩ := id p2
    simp only at hc hd hc2 hd2
    subst hc hd hc2 hd2
    exact richCompare_meets_room (op := .GtE) ⟨_, ho, rfl⟩ ⟨_, ho2, rfl⟩ PySem.F.slot_tuple_ge PySem.F.entry_tuple_ge (PySem.F.args_tuple_ge_2 _ _) (zaR a b its.toArray its2.toArray n n2 dd dd2 sl sl2 is js (intsAre_of r1) (intsAre_of r2))
      ⟨ho, ho2, (fun x => nomatch x), qU I k⟩ hu
  · cases e
theorem wC {K : Frag} {H : Hp} {ds : List D} {xs : List V} {i : Int} {d : D} (r : Reps K H ds xs) (e : atI ds i = some d) : ∃ v, atI xs i = some v ∧ Rep K H d v := by
  unfold atI at e ⊢
  rw [← r.length]
  obtain ⟨j, e1, e2⟩ := Option.bind_eq_some_iff.mp e
  obtain ⟨v, h1, h2⟩ := r.get e2
  exact ⟨v, by rw [e1]; exact h1, h2⟩
theorem qm {a b : Expr} {pos : Pos} {ga gb : Env' → Option D} (ha : PB X a ga) (hb : PB X b gb) (hs : zaO b) : PD X (.Subscript a b pos) (g2 ixD ga gb) :=
  PE.imp (zia zju ha hb hs) fun σ H Q ⟨F, O, ρ, d, r, e, k⟩ => by
    obtain ⟨dx, dy, e1, e2, e3⟩ := yo e
    refine ⟨F, O, ρ, dx, r, e1, fun x H1 s1 b1 => ⟨F, O, ρ, dy, r.same s1, e2, fun y H2 s2 b2 => ?_⟩⟩
    have b1' := b1.same s2
    unfold ixD at e3
    split at e3
    · rename_i ds i
      obtain ⟨p, xs, rfl, sq, rs⟩ := b1'.tup
      cases b2.int
      obtain ⟨v, h1, h2⟩ := wC rs e3
      exact .inr (.inl ⟨p, xs, i, v, rfl, rfl, sq, h1, k v H2 (s1.trans s2) h2⟩)
    · rename_i ds i
      obtain ⟨p, xs, rfl, sq, rs⟩ := b1'.lst
      cases b2.int
      obtain ⟨v, h1, h2⟩ := wC rs e3
      exact .inl ⟨p, xs, i, v, rfl, rfl, sq, h1, k v H2 (s1.trans s2) h2⟩
    · rename_i z i
      split at e3
      · rename_i hl
        obtain ⟨c, h1, rfl⟩ := Option.map_eq_some_iff.mp e3
        cases b1'.str
        cases b2.int
        exact .inr (.inr ⟨z, i, c, rfl, rfl, hl, h1, k _ H2 (s1.trans s2) (.str _)⟩)
      · cases e3
    · cases e3
theorem zO {x : Str} {p pos : Pos} {e : Expr} {es : List Expr} {id : String} {h : List D → Option D} {g : Env' → Option (List D)} (hc : yj X (.builtin id) h) (hg : Gl X x) (hm : X.mg x = none) (hv : bootBuiltins x = some (.builtin id)) (ha : PAb X (e :: es) g) (hn : x ≠ "__name__" := by decide) (hdb : (x == ("__debug__" : Str)) = false := by decide)
    (he : starEach (e :: es) X.env = (false, eval e X.env) :: starEach es X.env := by exact jI rfl) (hpl : (backTo pos (starEach es X.env)).any (·.1) = false := by rfl) : PD X (.Call (.Name x p) (e :: es) [] pos) (gA h g) :=
  PE.imp (yW hc.r hg hm hv ha hn hdb he hpl) fun σ H Q ⟨F, O, ρ, d, r, e, k⟩ => by
    obtain ⟨ds, e1, e2⟩ := zaQ e
    exact ⟨F, O, ρ, ds, r, e1, fun vs H1 s1 b1 => ⟨O, ds, d, (r.same s1).dom, b1, e2, fun z H' s2 b2 => k z H' (s1.trans s2) b2⟩⟩
theorem qq {x : Str} {p pos : Pos} {e : Expr} {es : List Expr} {T : String} {h : List D → Option D} {g : Env' → Option (List D)} (hc : yj X (.type T) h) (hg : Gl X x) (hm : X.mg x = none) (hv : bootBuiltins x = some (.type T)) (ha : PAb X (e :: es) g) (hn : x ≠ "__name__" := by decide) (hdb : (x == ("__debug__" : Str)) = false := by decide)
    (he : starEach (e :: es) X.env = (false, eval e X.env) :: starEach es X.env := by exact jI rfl) (hpl : (backTo pos (starEach es X.env)).any (·.1) = false := by rfl) : PD X (.Call (.Name x p) (e :: es) [] pos) (gA h g) :=
  PE.imp (zbN hc.r hg hm hv ha hn hdb he hpl) fun σ H Q ⟨F, O, ρ, d, r, e, k⟩ => by
    obtain ⟨ds, e1, e2⟩ := zaQ e
    exact ⟨F, O, ρ, ds, r, e1, fun vs H1 s1 b1 => ⟨O, ds, d, (r.same s1).dom, b1, e2, fun z H' s2 b2 => k z H' (s1.trans s2) b2⟩⟩
theorem RepBs.inv1 {O : List Addr} {H : Hp} {d : D} {vs : List V} (h : RepBs X.K O H [d] vs) : ∃ v, vs = [v] ∧ RepB X.K O H d v := by
  cases h with
  | cons h r => cases r; exact ⟨_, rfl, h⟩
theorem RepBs.inv2 {O : List Addr} {H : Hp} {d e : D} {vs : List V} (h : RepBs X.K O H [d, e] vs) : ∃ v w, vs = [v, w] ∧ RepB X.K O H d v ∧ RepB X.K O H e w := by
  cases h with
  | cons h r =>
    obtain ⟨w, rfl, hw⟩ := r.inv1
    exact ⟨_, w, rfl, h, hw⟩
theorem jb : yj X (.builtin "len") lenD := by
  intro pins s σ H O xs us ds d Q I hO rv bs e k
  unfold lenD at e
  split at e
  · cases e
    obtain ⟨v, rfl, b⟩ := bs.inv1
    obtain ⟨a, ys, rfl, sq, rs⟩ := b.tup
    exact xI pins s σ H _ us Q I rv ⟨a, ys, rfl, .inr sq, by rw [← rs.length]; exact k _ H (Same.refl _) (.int _)⟩
  · cases e
    obtain ⟨v, rfl, b⟩ := bs.inv1
    obtain ⟨a, ys, rfl, sq, rs⟩ := b.lst
    exact xI pins s σ H _ us Q I rv ⟨a, ys, rfl, .inl sq, by rw [← rs.length]; exact k _ H (Same.refl _) (.int _)⟩
  · rename_i z
    split at e
    · cases e
      obtain ⟨v, rfl, b⟩ := bs.inv1
      cases b.str
      exact zbF pins s σ H _ us Q I rv ⟨z, rfl, by assumption, k _ H (Same.refl _) (.int _)⟩
    · cases e
  · cases e
theorem zfQ (hc : X.calm = true) : yj X (.builtin "min") minD := by
  intro pins s σ H O xs us ds d Q I hO rv bs e k
  unfold minD at e
  split at e
  · rename_i i j
    cases e
    obtain ⟨v, w, rfl, b1, b2⟩ := bs.inv2
    cases b1.int
    cases b2.int
    exact zfJ hc pins s σ H _ us Q I rv ⟨i, j, rfl, k _ H (Same.refl _) (.int _)⟩
  · cases e
theorem zfx (hc : X.calm = true) : yj X (.builtin "max") maxD := by
  intro pins s σ H O xs us ds d Q I hO rv bs e k
  unfold maxD at e
  split at e
  · rename_i i j
    cases e
    obtain ⟨v, w, rfl, b1, b2⟩ := bs.inv2
    cases b1.int
    cases b2.int
    exact zfy hc pins s σ H _ us Q I rv ⟨i, j, rfl, k _ H (Same.refl _) (.int _)⟩
  · cases e
theorem xt : yj X (.type "tuple") ym := by
  intro pins s σ H O xs us ds d Q I hO rv bs e k
  unfold ym at e
  split at e
  · cases e
    obtain ⟨v, rfl, b⟩ := bs.inv1
    obtain ⟨a, ys, rfl, sq, rs⟩ := b.tup
    exact yl pins s σ H _ us Q I rv ⟨a, ys, rfl, .inr ⟨sq, k _ H (Same.refl _) (wN b)⟩⟩
  · cases e
    obtain ⟨v, rfl, b⟩ := bs.inv1
    obtain ⟨a, ys, rfl, sq, rs⟩ := b.lst
    exact yl pins s σ H _ us Q I rv ⟨a, ys, rfl, .inl ⟨sq, fun l hl => k _ _ (jn hl) (wI hl (hO.out hl) rs)⟩⟩
  · cases e
theorem zbt : yj X (.type "str") strOfD := by
  intro pins s σ H O xs us ds d Q I hO rv bs e k
  unfold strOfD at e
  split at e
  · rename_i i
    split at e
    · cases e
      obtain ⟨v, rfl, b⟩ := bs.inv1
      cases b.int
      exact zbR pins s σ H _ us Q I rv ⟨i, rfl, by assumption, k _ H (Same.refl _) (.str _)⟩
    · cases e
  · cases e
end
end L2.Y
namespace L2.Y
open PySem PySem.Spec PyProof.Rows
theorem yG {env : Env} : ∀ {names : List (Str × NameKind)} {x : Str}, names.lookup x = some .free →
    ((names.map fun (n, k) => if (k == NameKind.free && env.scope.kind == .function && env.kindOf n == some .cell) then (n, NameKind.cell) else (n, k)).lookup x = some .cell ∨
     (names.map fun (n, k) => if (k == NameKind.free && env.scope.kind == .function && env.kindOf n == some .cell) then (n, NameKind.cell) else (n, k)).lookup x = some .free)
  | [], _, h => by simp at h
  | (n, k) :: r, x, h => by
    have ih := @yG env r x
    rw [List.map_cons]
    cases hx : x == n with
    | true =>
      simp only [List.lookup_cons, hx] at h
      cases h
      by_cases hc : (NameKind.free == NameKind.free && env.scope.kind == .function && env.kindOf n == some .cell) = true
      · left; simp only [hc, if_true, List.lookup_cons, hx]
      · right; simp only [hc, Bool.false_eq_true, if_false, List.lookup_cons, hx]
    | false =>
      simp only [List.lookup_cons, hx] at h
      by_cases hc : (k == NameKind.free && env.scope.kind == .function && env.kindOf n == some .cell) = true
      · simp only [hc, if_true, List.lookup_cons, hx]; exact ih h
      · simp only [hc, Bool.false_eq_true, if_false, List.lookup_cons, hx]; exact ih h
theorem yM {env : Env} : ∀ {names : List (Str × NameKind)} {x : Str}, (∀ y ∈ names, y.2 ≠ .cell) →
    ((names.map fun (n, k) => if (k == NameKind.free && env.scope.kind == .function && env.kindOf n == some .cell) then (n, NameKind.cell) else (n, k)).lookup x = some .cell ∨
     (names.map fun (n, k) => if (k == NameKind.free && env.scope.kind == .function && env.kindOf n == some .cell) then (n, NameKind.cell) else (n, k)).lookup x = some .free) → names.lookup x = some .free
  | [], _, _, h => by simp at h
  | (n, k) :: r, x, hn, h => by
    have ih := @yM env r x fun y hy => hn y (List.mem_cons_of_mem _ hy)
    rw [List.map_cons] at h
    cases hx : x == n with
    | true =>
      simp only [List.lookup_cons, hx]
      by_cases hc : (k == NameKind.free && env.scope.kind == .function && env.kindOf n == some .cell) = true
      · simp only [Bool.and_eq_true, beq_iff_eq] at hc
        rw [hc.1.1]
      · simp only [hc, Bool.false_eq_true, if_false, List.lookup_cons, hx] at h
        rcases h with h | h
        · cases h; exact absurd rfl (hn (n, .cell) List.mem_cons_self)
        · exact h
    | false =>
      simp only [List.lookup_cons, hx]
      by_cases hc : (k == NameKind.free && env.scope.kind == .function && env.kindOf n == some .cell) = true
      · simp only [hc, if_true, List.lookup_cons, hx] at h; exact ih h
      · simp only [hc, Bool.false_eq_true, if_false, List.lookup_cons, hx] at h; exact ih h
theorem yn {env : Env} : ∀ (names : List (Str × NameKind)) (acc : List (Str × Addr)), (∀ y ∈ names, y.2 = .free → ∃ c, env.cells.lookup y.1 = some c) → (∀ x c, acc.lookup x = some c → env.cells.lookup x = some c) →
    ∃ cl, (forIn names acc fun (x : Str × NameKind) (cs : List (Str × Addr)) => if (x.2 == NameKind.free) = true then (do let c ← cellOf env x.1; pure (ForInStep.yield ((x.1, c) :: cs)) : Sem (ForInStep (List (Str × Addr)))) else pure (ForInStep.yield cs)) = pure cl ∧
      (∀ x c, cl.lookup x = some c → env.cells.lookup x = some c) ∧ (∀ x, (acc.lookup x).isSome = true → (cl.lookup x).isSome = true) ∧ ∀ x, names.lookup x = some .free → (cl.lookup x).isSome = true
  | [], acc, _, ha => ⟨acc, rfl, ha, fun _ h => h, fun x h => by simp at h⟩
  | (n, k) :: r, acc, hn, ha => by
    have hr : ∀ y ∈ r, y.2 = .free → ∃ c, env.cells.lookup y.1 = some c := fun y hy => hn y (List.mem_cons_of_mem _ hy)
    by_cases hk : k = .free
    · subst hk
      obtain ⟨c, hc⟩ := hn (n, .free) List.mem_cons_self rfl
      have ha' : ∀ x d, ((n, c) :: acc).lookup x = some d → env.cells.lookup x = some d := fun x d h => by
        cases hx : x == n with
        | true =>
          simp only [List.lookup_cons, hx] at h
          cases h
          rw [eq_of_beq hx]; exact hc
        | false =>
          simp only [List.lookup_cons, hx] at h
          exact ha x d h
      obtain ⟨cl, e, h1, h2, h3⟩ := yn r ((n, c) :: acc) hr ha'
      refine ⟨cl, ?_, h1, fun x h => h2 x ?_, fun x h => ?_⟩
      · rw [List.forIn_cons]
        have ec : cellOf env n = pure c := by unfold cellOf; rw [hc]
        simp only [beq_self_eq_true, if_true, ec, pure_bind]
        exact e
      · cases hx : x == n with
        | true => simp only [List.lookup_cons, hx, Option.isSome_some]
        | false => simp only [List.lookup_cons, hx]; exact h
      · cases hx : x == n with
        | true => exact h2 x (by simp only [List.lookup_cons, hx, Option.isSome_some])
        | false => simp only [List.lookup_cons, hx] at h; exact h3 x h
    · obtain ⟨cl, e, h1, h2, h3⟩ := yn r acc hr ha
      refine ⟨cl, ?_, h1, h2, fun x h => ?_⟩
      · rw [List.forIn_cons]
        have : (k == NameKind.free) = false := by simpa using hk
        simp only [this, Bool.false_eq_true, if_false, pure_bind]
        exact e
      · cases hx : x == n with
        | true => simp only [List.lookup_cons, hx] at h; cases h; exact absurd rfl hk
        | false => simp only [List.lookup_cons, hx] at h; exact h3 x h
theorem xl {env : Env} {scope : Scope} (h : ∀ y ∈ scope.names, y.2 = .free → ∃ c, env.cells.lookup y.1 = some c) :
    ∃ cl, closureFor scope env = pure cl ∧ (∀ x c, cl.lookup x = some c → env.cells.lookup x = some c) ∧ ∀ x, scope.names.lookup x = some .free → (cl.lookup x).isSome = true := by
  obtain ⟨cl, e, h1, _, h3⟩ := yn scope.names [] h (fun x c h => by simp at h)
  refine ⟨cl, ?_, h1, h3⟩
  unfold closureFor
  simp only [bind_pure]
  exact e
structure CompOk (X : Cx) (scope : Scope) (own : List Str) (caps : List Nat) (N : List Str) : Prop where
  kind : scope.kind = .function
  nocell : ∀ y ∈ scope.names, y.2 ≠ .cell
  names : ∀ y ∈ scope.names, y.2 = .local → scope.names.lookup y.1 = some .local
  free : ∀ y ∈ scope.names, y.2 = .free → X.env.kindOf y.1 = some .cell ∨ X.env.kindOf y.1 = some .free
  nd : N.Nodup
  len : N.length = own.length + caps.length
  cap : ∀ (k j : Nat), caps[k]? = some j → ∃ x, X.N[j]? = some x ∧ N[own.length + k]? = some x ∧ scope.names.lookup x = some .free
noncomputable def cxC (X : Cx) (N : List Str) (scope : Scope) (cl : List (Str × Addr)) (C : Addr) (s : Shared) (H : Hp) (fp : List Addr) : Cx where
  prog := X.prog
  w := X.w
  K := X.K
  mg := X.mg
  base := X.base
  A := X.A
  N := N
  s₀ := s
  H₀ := H
  env := compEnvC scope cl C X.env
  outer := X.stack
  stack := X.stack
  ex := fp
  fn := fun _ => false
  calm := X.calm
  pn := []
  xe := fun _ _ => False
section
variable {X : Cx} {pins : List (Addr × Obj)} {σ : St} {H : Hp} {s s1 : Shared} {scope : Scope} {own N : List Str} {caps : List Nat} {cl : List (Str × Addr)} {fp : List Addr}
theorem qD {α : Type} {n : Nat} {σ : List (Option α)} {i : Nat} {v : α} (h : (capS n caps σ)[i]? = some (some v)) : ∃ k j, i = n + k ∧ caps[k]? = some j ∧ σ[j]? = some (some v) := by
  unfold capS at h
  by_cases hi : i < n
  · rw [List.getElem?_append_left (by simpa using hi), List.getElem?_replicate, if_pos hi] at h
    cases h
  · rw [List.getElem?_append_right (by simpa using hi), List.length_replicate, List.getElem?_map] at h
    obtain ⟨j, h1, h2⟩ := Option.map_eq_some_iff.mp h
    refine ⟨i - n, j, by omega, h1, ?_⟩
    cases e : σ[j]? with
    | none => rw [e] at h2; cases h2
    | some o => rw [e] at h2; exact congrArg some h2
theorem zcN (S : CompOk X scope own caps N) (I : Inv X pins σ H s) (hcl1 : ∀ x c, cl.lookup x = some c → X.env.cells.lookup x = some c) (hcl2 : ∀ x, scope.names.lookup x = some .free → (cl.lookup x).isSome = true)
    (hfp : ∀ b ∈ fp, FpOk X pins H b) (hlt : ∀ b ∈ fp, b < s.heap.objs.size) {h1 : Heap} {m : Str → Option Value} {tk : Nat} (hn : h1.Ns s.heap.objs.size m) (hk : ∀ b o, s.heap.get? b = some o → h1.get? b = some o) :
    Inv (cxC X N scope cl s.heap.objs.size s H fp) [] (capS own.length caps σ) H { s with heap := h1, toks := tk } := by
  have cellEq : ∀ {x : Str} {c c' : Addr}, cl.lookup x = some c → X.env.cells.lookup x = some c' → c = c' := fun h1 h2 => by rw [hcl1 _ _ h1] at h2; exact Option.some.inj h2
  refine ⟨⟨I.ok.mod, S.kind, I.ok.glob, I.ok.blt, Nat.le_refl _, fun x y c e1 e2 => I.ok.inj x y c (hcl1 _ _ e1) (hcl1 _ _ e2), fun x hx => ?_, fun x c h _ => absurd (show false = true from h) (by decide), I.ok.hd, I.ok.frames, .inl rfl, fun b hb => ⟨Nat.ne_of_lt (hlt b hb), fun x c e => (hfp b hb).2.2.2.2.1 x c (hcl1 _ _ e)⟩,
    I.bs, Nat.le_trans I.ok.bsz I.sz, fun b o e hb => ?_, fun b hb hb' => ?_, I.stack, I.stkFree⟩, rfl, I.bare, Un.kept hk, ⟨m, hn, fun i x v e1 e2 e3 => ?_⟩, fun x c e => ?_, I.hok.fresh (Nat.le_refl _), fun x c e => I.freeC x c (hcl1 _ _ e), fun p hp => absurd (show p ∈ ([] : List (Addr × Obj)) from hp) (by simp), I.hok.kept hk, ?_⟩
  · have hx' : (relabel scope X.env).names.lookup x = some .cell ∨ (relabel scope X.env).names.lookup x = some .free := hx
    have hf := yM S.nocell hx'
    exact Option.isSome_iff_exists.mp (hcl2 x hf)
  · obtain ⟨_, _, _, f3, _, _⟩ := hfp b hb
    rcases f3 with z | z
    · exact I.ok.noex b o e z
    · exact absurd (Nat.lt_of_lt_of_le (Heap.lt_size e) (Nat.le_trans I.ok.bsz z)) (Nat.lt_irrefl _)
  · obtain ⟨_, f1, f2, _⟩ := hfp b hb
    rcases List.mem_cons.mp (I.stkSub b hb') with z | z
    · exact f1 z
    · exact f2 z
  · obtain ⟨k, j, rfl, hj, hv⟩ := qD e2
    obtain ⟨y, hy, hy2, hfree⟩ := S.cap k j hj
    have e1 : N[own.length + k]? = some x := e1
    have hxy : y = x := Option.some.inj (hy2.symm.trans e1)
    subst hxy
    have hkind := S.free (y, .free) (PySem.mem_of_lookup hfree) rfl
    obtain ⟨m0, _, hl⟩ := I.loc
    have hvis : Vis X.env.scope y := Or.inr hkind
    obtain ⟨u, ru, lk⟩ := hl j y v hy hv hvis
    refine ⟨u, ru, ?_⟩
    rcases lk with ⟨kk, _⟩ | ⟨_, c, hc, hcell⟩
    · rcases hkind with z | z <;> (rw [z] at kk; cases kk)
    · refine .inr ⟨yG hfree, ?_⟩
      obtain ⟨c', hc'⟩ := Option.isSome_iff_exists.mp (hcl2 y hfree)
      have := cellEq hc' hc
      subst this
      obtain ⟨o, ho, hd⟩ := hcell
      exact ⟨c', hc', o, hk _ _ ho, hd⟩
  · obtain ⟨v, o, ho, hd⟩ := I.cell x c (hcl1 _ _ e)
    exact ⟨v, o, hk _ _ ho, hd⟩
  · show (capS own.length caps σ).length = N.length
    rw [S.len]
    unfold capS
    simp
theorem yw {H' : Hp} {σ' : St} (I : Inv X pins σ H s) (hfp : ∀ b ∈ fp, FpOk X pins H b) (J : Inv (cxC X N scope cl s.heap.objs.size s H fp) [] σ' H' s1) : Inv X pins σ H' s1 :=
  I.call' (ch := fp) J.os J.base J.hok J.bare fun b hb => let ⟨_, f1, _, f3, f4, f5⟩ := hfp b hb; ⟨f3, f1, f4, f5⟩
end
noncomputable def PIf (X : Cx) (ifs : List Expr) (t : TT) : Prop :=
  ∀ (pins : List (Addr × Obj)) (s : Shared) (σ : St) (H : Hp) (Q : Bool → Hp → Prop), Inv X pins σ H s → t σ H Q →
    wpAny (model X.prog X.w) X.A (forIn ifs true fun c r => if r = true then do let ok ← isTrue c X.env (eval c X.env); pure (ForInStep.yield ok) else pure (ForInStep.yield r)) (TP X pins σ Q) X.xe s
theorem zit {X : Cx} : PIf X [] (fun _ H Q => Q true H) := fun pins s σ H Q I h => wpAny_tests_nil ⟨H, I, h⟩
theorem zhT {X : Cx} {c : Expr} {t : TT} (hc : PT X c t) : PIf X [c] t := fun pins s σ H Q I h => wpAny_tests_one (hc pins s σ H Q I h)
noncomputable def kN (g : TG) (tt : TT) (te : TE) (J : It) (D : Addr) (σ : St) (H : Hp) (Q : Hp → Prop) : Prop :=
  ∃ W : Nat → Nat → St → Hp → Prop, (∃ m, W 0 m σ H) ∧ ∀ i m σ H, W i m σ H →
    (J.stop i H ∧ Q H) ∨ (J.go i H ∧ ∃ Nx : St → Hp → Prop, (∀ σ' H', Nx σ' H' → ∃ m', m' < m ∧ W (i + 1) m' σ' H') ∧ ∀ x H', J.yld i H x H' → g x σ H' fun σ2 H2 => tt σ2 H2 fun b H3 =>
      if b = true then te σ2 H3 fun y H4 => ∃ ys, H4 D = some (.lst ys) ∧ ys.length < sizeLine ∧ Nx σ2 (upd H4 D (.lst (ys ++ [y]))) else Nx σ2 H3)
section
variable {X : Cx} {pins : List (Addr × Obj)} {σ : St} {H : Hp} {s : Shared} {scope : Scope} {own N : List Str} {caps : List Nat} {cl : List (Str × Addr)} {fp : List Addr}
variable {tg iter elt : Expr} {ifs : List Expr} {pos : Pos} {g : TG} {tt : TT} {te : TE} {J : It} {it : Addr} {tn : Nat → Heap → Prop}
theorem zeP {D C : Addr} {R : Result → Shared → Prop} (hc : X.calm = true) (T : Turn X.prog X.w X.K tg J fp it tn)
    (hg : PG (cxC X N scope cl C s H fp) tg g) (ht : PIf (cxC X N scope cl C s H fp) ifs tt) (he : PE (cxC X N scope cl C s H fp) elt te) {Q : Hp → Prop} {σ0 : St} {H0 : Hp} {s1 : Shared} (I0 : Inv (cxC X N scope cl C s H fp) [] σ0 H0 s1) (t0 : tn 0 s1.heap)
    (f0 : ∀ b ∈ fp, H0 b = none) (hfp : ∀ b ∈ fp, b ≠ C ∧ b ∉ frs X.stack ∧ ∀ x c, cl.lookup x = some c → c ≠ b) (hw : kN g tt te J D σ0 H0 Q)
    (hR : ∀ σ' H' s', Inv (cxC X N scope cl C s H fp) [] σ' H' s' → Q H' → R (.ok .next) s') :
    codeAny (model X.prog X.w) X.A (.compLoop (.ListComp elt [⟨tg, iter, ifs, 0⟩] scope pos) 0 (.ref it) (.ref D) (compEnvC scope cl C X.env)) R s1 := by
  obtain ⟨W, ⟨m0, w0⟩, turn⟩ := hw
  have stat : ∀ {H' : Hp}, (∀ b ∈ fp, H' b = none) → ∀ b ∈ fp, FpOk (cxC X N scope cl C s H fp) [] H' b := fun hn b hb => ⟨hn b hb, (hfp b hb).1, (hfp b hb).2.1, .inl hb, (hfp b hb).2.2, fun p hp => absurd (show p ∈ ([] : List (Addr × Obj)) from hp) (by simp)⟩
  have nox : ∀ {α : Type} {t : Sem α} {Q : α → Shared → Prop} {E : Value → Shared → Prop} {s : Shared}, wpAny (model X.prog X.w) X.A t Q (fun _ _ => False) s → wpAny (model X.prog X.w) X.A t Q E s := fun h => wpAny_mono h (fun _ _ q => q) fun _ _ q => q.elim
  refine codeAny_loop rfl (fun n s' => ∃ i σ' H', Inv (cxC X N scope cl C s H fp) [] σ' H' s' ∧ tn i s'.heap ∧ (∀ b ∈ fp, H' b = none) ∧ W i n σ' H') (fun n s3 hI => ?_) m0 ⟨0, σ0, H0, I0, t0, f0, w0⟩
  obtain ⟨i, σ3, H3, I3, st3, fr3, w3⟩ := hI
  show wpAny _ X.A ((compTurn (.ListComp elt [⟨tg, iter, ifs, 0⟩] scope pos) 0 (.ref it) (.ref D) (compEnvC scope cl C X.env)).onRaise (fun x => do noteFrame x (compEnvC scope cl C X.env); theTreesLotGoes x)) _ _ s3
  refine wpAny_noted ?_
  rw [compTurn_list]
  refine wpAny_bind (wpAny_standAt (wpAny_bind ?_))
  rcases turn i n σ3 H3 w3 with ⟨stop, qn⟩ | ⟨go, Nx, hN, step⟩
  · refine nox (thn (T.done (cxC X N scope cl C s H fp) rfl rfl rfl hc i [] s3 σ3 H3 _ I3 (stat fr3) st3 stop) fun r s4 ⟨hr, I4⟩ => ?_)
    subst hr
    exact wpAny_pure (hR _ _ _ I4 qn)
  · refine nox (thn (T.item (cxC X N scope cl C s H fp) rfl rfl rfl hc i [] s3 σ3 H3 _ I3 (stat fr3) st3 go) fun r s4 ⟨u, hr, h4⟩ => ?_)
    subst hr
    refine wpAny_bind (nox (thn h4 fun _ s5 ⟨x, H5, I5, r5, y5, st5, fr5⟩ => ?_))
    have I5' := I5.pinned (stat fr5) (T.obj _ _ st5)
    refine wpAny_bind (nox (thn (hg _ s5 σ3 H5 x u _ I5' r5 (step x H5 y5)) fun _ s6 ⟨σ6, H6, I6, q6⟩ => ?_))
    refine wpAny_bind (nox (thn (ht _ s6 σ6 H6 _ I6 q6) fun ok s7 ⟨H7, I7, q7⟩ => ?_))
    have again : ∀ {σ7 : St} {H7 : Hp} {s7 : Shared}, Inv (cxC X N scope cl C s H fp) ([] ++ zab fp s5.heap) σ7 H7 s7 → Nx σ7 H7 → ∃ m, m < n ∧ ∃ i σ' H', Inv (cxC X N scope cl C s H fp) [] σ' H' s7 ∧ tn i s7.heap ∧ (∀ b ∈ fp, H' b = none) ∧ W i m σ' H' := fun {σ7 H7 s7} I7 n7 => by
      obtain ⟨m', hm, w7⟩ := hN σ7 H7 n7
      refine ⟨m', hm, i + 1, σ7, H7, I7.unpinned, T.keep _ _ _ st5 fun b hb o e => (I7.pin (b, o) (List.mem_append_right _ (List.mem_append_right _ (qG hb e)))).1, fun b hb => ?_, w7⟩
      obtain ⟨o, e, d⟩ := T.obj _ _ st5 b hb
      exact (I7.pin (b, o) (List.mem_append_right _ (List.mem_append_right _ (qG hb e)))).2.1
    cases ok with
    | false =>
      simp only [Bool.false_eq_true, if_false] at q7 ⊢
      exact wpAny_pure ⟨rfl, again I7 q7⟩
    | true =>
      simp only [if_true] at q7 ⊢
      refine wpAny_bind (wpAny_bind (nox (thn (he _ s7 σ6 H7 _ I7 q7) fun v s8 ⟨y, H8, I8, r8, ys, e8, z8, n8⟩ => ?_)))
      refine wpAny_bind (nox (thn (vZ (X := cxC X N scope cl C s H fp) _ s8 σ6 H8 (.ref D) [y] (.ref D) [v] (fun _ H' => Nx σ6 H') I8 rfl (.cons r8 .nil) ⟨D, ys, y, rfl, rfl, e8, z8, n8⟩) fun _ s9 ⟨_, H9, I9, _, n9⟩ => ?_))
      exact wpAny_pure (wpAny_pure ⟨rfl, again I9 n9⟩)
noncomputable def zhW (n : Nat) (caps : List Nat) (wi : TI) (g : TG) (tt : TT) (te : TE) : TE := fun σ H Q => wi σ H fun J H1 => ∀ D, H1 D = none → kN g tt te J D (capS n caps σ) (upd H1 D (.lst [])) fun H' => Q (.ref D) H'
noncomputable def jt (X : Cx) (N : List Str) (scope : Scope) (P : Cx → Prop) : Prop := ∀ cl C s H fp, P (cxC X N scope cl C s H fp)
theorem zbl {Q : VK} {use : Option (Value → Sem Unit)} {Qu : Value → Shared → Prop} {E : Value → Shared → Prop} {itv : Value} {s2 : Shared} (S : CompOk X scope own caps N) (hc : X.calm = true)
    (hg : jt X N scope fun Y => PG Y tg g) (ht : jt X N scope fun Y => PIf Y ifs tt) (he : jt X N scope fun Y => PE Y elt te)
    (hcl1 : ∀ x c, cl.lookup x = some c → X.env.cells.lookup x = some c) (hcl2 : ∀ x, scope.names.lookup x = some .free → (cl.lookup x).isSome = true)
    (h : PIE X pins σ tg (fun J H1 => ∀ D, H1 D = none → kN g tt te J D (capS own.length caps σ) (upd H1 D (.lst [])) fun H' => Q (.ref D) H') itv s2)
    (fin : ∀ D C s' H', Inv X pins σ H' s' → Q (.ref D) H' → (∃ m, s'.heap.Ns C m) → FpOk X pins H' C → compPost (model X.prog X.w) X.A E use Qu (.ref D) C (.ok .next) s') :
    wpAny (model X.prog X.w) X.A (newList []) (fun acc s₃ => wpAny (model X.prog X.w) X.A (newFunctionEnv scope X.env.globals cl [] X.env.qual none .none (some X.env)) (fun cenv s₄ =>
      codeAny (model X.prog X.w) X.A (.compStart (.ListComp elt [⟨tg, iter, ifs, 0⟩] scope pos) 0 itv acc { cenv with scope := relabel scope X.env }) (compPost (model X.prog X.w) X.A E use Qu acc cenv.locals) s₄) E s₃) E s2 := by
  obtain ⟨it, fp, tn, J, H2, rfl, I2, T, st2, f2, rr⟩ := h
  have hD : H2 s2.heap.objs.size = none := I2.hok.fresh (Nat.le_refl _)
  have ltf : ∀ b ∈ fp, b < s2.heap.objs.size := fun b hb => by
    obtain ⟨o, e, _⟩ := T.obj _ _ st2 b hb
    exact Heap.lt_size e
  refine wpAny_newObj_type (wpAny_newFunctionEnv S.nocell (by intro y hy; simp at hy) (fun h₁ hns₁ hsb₁ => ?_) S.kind)
  dsimp only at hns₁ hsb₁ ⊢
  have I3 : Inv X pins σ (upd H2 s2.heap.objs.size (.lst [])) { s2 with heap := s2.heap.push { cls := .type "list", dict := none, data := .seq ([] : List Value).toArray } } := Inv.newL (its := []) I2 .nil (Nat.zero_le _) s2.toks
  generalize hs3 : ({ s2 with heap := s2.heap.push { cls := .type "list", dict := none, data := .seq ([] : List Value).toArray } } : Shared) = s3 at I3
  have e3 : s3.heap = s2.heap.push { cls := .type "list", dict := none, data := .seq ([] : List Value).toArray } := by rw [← hs3]
  rw [← e3] at hns₁ hsb₁ ⊢
  have fp3 : ∀ b ∈ fp, FpOk X pins (upd H2 s2.heap.objs.size (.lst [])) b := fun b hb => ⟨by rw [zv (Nat.ne_of_lt (ltf b hb))]; exact (f2 b hb).1, (f2 b hb).2⟩
  have old3 : ∀ b o, s2.heap.get? b = some o → s3.heap.get? b = some o := fun b o e => by rw [e3]; exact Heap.get?_push_of_some _ e
  have lt3 : ∀ b ∈ fp, b < s3.heap.objs.size := fun b hb => by rw [e3, Heap.size_push]; exact Nat.lt_succ_of_lt (ltf b hb)
  have hk : ∀ b o, s3.heap.get? b = some o → h₁.get? b = some o := fun b o e => hsb₁.extBut b o (Nat.ne_of_lt (Heap.lt_size e)) (Heap.get?_push_of_some _ e)
  have I4 : Inv (cxC X N scope cl s3.heap.objs.size s3 (upd H2 s2.heap.objs.size (.lst [])) fp) [] (capS own.length caps σ) (upd H2 s2.heap.objs.size (.lst [])) { s3 with heap := h₁, toks := s3.toks + ([] : List (Str × Value)).length } := zcN S I3 hcl1 hcl2 fp3 lt3 hns₁ hk
  have st4 : tn 0 h₁ := T.keep _ _ _ st2 fun b hb o e => hk b o (old3 b o e)
  have loop : codeAny (model X.prog X.w) X.A (.compLoop (.ListComp elt [⟨tg, iter, ifs, 0⟩] scope pos) 0 (.ref it) (.ref s2.heap.objs.size) (compEnvC scope cl s3.heap.objs.size X.env)) (compPost (model X.prog X.w) X.A E use Qu (.ref s2.heap.objs.size) s3.heap.objs.size) { s3 with heap := h₁, toks := s3.toks + ([] : List (Str × Value)).length } := by
    refine zeP (D := s2.heap.objs.size) hc T (hg _ _ _ _ _) (ht _ _ _ _ _) (he _ _ _ _ _) I4 st4 (fun b hb => (fp3 b hb).1) (fun b hb => ⟨Nat.ne_of_lt (lt3 b hb), fun hb' => ?_, fun x c e => (fp3 b hb).2.2.2.2.1 x c (hcl1 _ _ e)⟩) (rr _ hD) fun σ' H' s' J q => ?_
    · obtain ⟨_, f1, f2, _⟩ := fp3 b hb
      rcases List.mem_cons.mp (I3.stkSub b hb') with z | z
      · exact f1 z
      · exact f2 z
    · obtain ⟨m, hm, _⟩ := J.loc
      exact fin _ _ s' H' (yw I3 fp3 J) q ⟨m, hm⟩ (I3.fpOk (Nat.le_refl _) J.free)
  have es : ({ s2 with heap := h₁, toks := s2.toks + ([] : List (Str × Value)).length } : Shared) = { s3 with heap := h₁, toks := s3.toks + ([] : List (Str × Value)).length } := by rw [← hs3]
  rw [es]
  exact codeAny_compStart_list loop (T.self X.A 0 _ _ _ st4 loop)
theorem zhM {wi : TI} (S : CompOk X scope own caps N) (hc : X.calm = true) (hi : PI X tg iter wi) (hg : jt X N scope fun Y => PG Y tg g) (ht : jt X N scope fun Y => PIf Y ifs tt) (he : jt X N scope fun Y => PE Y elt te)
    (hs : ∀ x, foldedSetIterable iter X.env x = pure x := by intro _; rfl) : PE X (.ListComp elt [⟨tg, iter, ifs, 0⟩] scope pos) (zhW own.length caps wi g tt te) := by
  intro pins s σ H Q I h
  obtain ⟨cl, hcl, hcl1, hcl2⟩ := xl (env := X.env) (scope := scope) fun y hy hf => I.ok.has y.1 (S.free y hy hf)
  rw [eval_ListComp]
  refine wpAny_comprehension_free (use := none) rfl hs hcl S.kind S.names (thn (hi pins s σ H _ I h) fun xv s1 h1 => thn h1 fun itv s2 h2 => ?_)
  refine zbl (Q := Q) S hc hg ht he hcl1 hcl2 h2 fun D C s' H' I' q hm f => ?_
  obtain ⟨m, hm⟩ := hm
  refine ⟨m, hm, fun h' sb => ⟨.ref D, H', ?_, rfl, q⟩⟩
  obtain ⟨f0, f1, f2, f3, f4, f5⟩ := f
  exact I'.turned (t' := s'.toks) (fun b o hb e => (sb.2 b hb).trans e) f0 f1 f3 f4 f5
theorem zgk {wi : TI} {i : Nat} {x : Str} {px spos : Pos} (S : CompOk X scope own caps N) (hc : X.calm = true) (hi : PI X tg iter wi) (hg : jt X N scope fun Y => PG Y tg g) (ht : jt X N scope fun Y => PIf Y ifs tt) (he : jt X N scope fun Y => PE Y elt te)
    (hN : X.N.Nodup) (hx : X.N[i]? = some x) (hl : X.env.scope.names.lookup x = some .local) (hsw : swapsWith (.ListComp elt [⟨tg, iter, ifs, 0⟩] scope pos) (some (.Name x px)) spos.line X.env = pure true)
    (hs : ∀ x, foldedSetIterable iter X.env x = pure x := by intro _; rfl) : PS X (.Assign [.Name x px] (.ListComp elt [⟨tg, iter, ifs, 0⟩] scope pos) spos) (tAsg (zhW own.length caps wi g tt te) (zaq i)) := by
  intro pins s σ H D I h
  obtain ⟨cl, hcl, hcl1, hcl2⟩ := xl (env := X.env) (scope := scope) fun y hy hf => I.ok.has y.1 (S.free y hy hf)
  rw [exec_Assign_Name_used _ _ _ _ hsw]
  refine wpAny_bind (wpAny_standAt (wpAny_bind ?_))
  show wpAny _ X.A (do let _ ← comprehension (.ListComp elt [⟨tg, iter, ifs, 0⟩] scope pos) scope X.env _ (newList []) false (eval iter X.env) (some (assign (.Name x px) X.env))) _ _ s
  refine wpAny_bind (wpAny_mono (wpAny_comprehension_free (use := some (assign (.Name x px) X.env)) (Q := fun _ s' => SP X pins D .next s') rfl hs hcl S.kind S.names
    (thn (hi pins s σ H _ I h) fun xv s1 h1 => thn h1 fun itv s2 h2 => ?_)) (fun _ s' hq => wpAny_pure (wpAny_pure hq)) fun _ _ e => e)
  refine zbl (Q := fun v H' => D.nx (σ.set i (some v)) H') S hc hg ht he hcl1 hcl2 h2 fun D' C s' H' I' q hm f => ?_
  obtain ⟨m, hm⟩ := hm
  obtain ⟨f0, f1, f2, f3, f4, f5⟩ := f
  refine wpAny_assign_Name (zbW (v := .ref D') I' hN hx (.inl hl) rfl (fun s'' I'' ⟨a, sb, ha⟩ => ?_) (.inr hl))
  have hCa : C ≠ a := by
    rcases ha with z | z
    · rw [z]; exact f1
    · exact Ne.symm (f4 _ _ z)
  refine ⟨m, hm.sameBut sb hCa, fun h' sb' => ⟨_, H', ?_, q⟩⟩
  exact I''.turned (t' := s''.toks) (fun b o hb e => (sb'.2 b hb).trans e) f0 f1 f3 f4 f5
end
end L2.Y
namespace L2.Y
open PySem PySem.Spec PyProof.Rows
noncomputable def Over (n : Nat) (h : GT) : Prop := ∀ d ρ ρ1, h d ρ = some ρ1 → ρ1.length = ρ.length ∧ ∀ i, n ≤ i → ρ1[i]? = ρ[i]?
noncomputable def zgz (n : Nat) (h : List D → Env' → Option Env') : Prop := ∀ d ρ ρ1, h d ρ = some ρ1 → ρ1.length = ρ.length ∧ ∀ i, n ≤ i → ρ1[i]? = ρ[i]?
theorem jv {n i : Nat} (hi : i < n) : Over n (hName i) := fun d ρ ρ1 e => by
  cases e
  exact ⟨List.length_set .., fun j hj => List.getElem?_set_ne (by omega)⟩
theorem zg0 {n : Nat} : zgz n hNil := fun d ρ ρ1 e => by
  unfold hNil at e
  split at e
  · cases e; exact ⟨rfl, fun _ _ => rfl⟩
  · cases e
theorem zbG {n : Nat} {h : GT} {k : List D → Env' → Option Env'} (h1 : Over n h) (h2 : zgz n k) : zgz n (jG h k) := fun d ρ ρ1 e => by
  unfold jG at e
  split at e
  · obtain ⟨ρ2, e1, e2⟩ := Option.bind_eq_some_iff.mp e
    obtain ⟨a1, a2⟩ := h1 _ _ _ e1
    obtain ⟨b1, b2⟩ := h2 _ _ _ e2
    exact ⟨b1.trans a1, fun i hi => (b2 i hi).trans (a2 i hi)⟩
  · cases e
theorem zgM {n m : Nat} {k : List D → Env' → Option Env'} (h2 : zgz n k) : Over n (hTup m k) := fun d ρ ρ1 e => by
  unfold hTup at e
  split at e
  · split at e
    · exact h2 _ _ _ e
    · cases e
  · cases e
section
variable {K : Frag} {F : Fx} {O : List Addr} {ρ ρ0 : Env'} {σ : St} {H : Hp}
theorem SR.forget (r : SR K F O ρ σ H) (hl : ρ0.length = ρ.length) (h : ∀ (i : Nat) e, ρ0[i]? = some (some e) → ρ[i]? = some (some e)) : SR K F O ρ0 σ H :=
  ⟨r.hb, r.vb, r.oc, r.dom, r.len.trans hl.symm, fun i d e => r.val i d (h i _ e), fun i d e => r.own i d (h i _ e), fun i j d d' p e1 e2 => r.sep i j d d' p (h i _ e1) (h j _ e2)⟩
theorem zcv {α : Type} {n : Nat} {caps : List Nat} {l : List (Option α)} : (capS n caps l).length = n + caps.length := by unfold capS; simp
theorem zeG {α : Type} {n : Nat} {caps : List Nat} {l : List (Option α)} {k j : Nat} {o : Option α} (h : caps[k]? = some j) (e : l[j]? = some o) : (capS n caps l)[n + k]? = some o := by
  unfold capS
  rw [List.getElem?_append_right (by simp), List.length_replicate, Nat.add_sub_cancel_left, List.getElem?_map, h]
  simp [e]
theorem SR.comp {D : Addr} {n : Nat} {caps : List Nat} (nd : caps.Nodup) (r : SR K F O ρ σ H) (hD : H D = none) : SR K { H0 := F.H0, Oc := D :: F.Oc, V0 := hide O H } (D :: O) (capS n caps ρ) (capS n caps σ) (upd H D (.lst [])) := by
  have eh : hide (D :: O) (upd H D (.lst [])) = hide O H := by rw [zX List.mem_cons_self, qX hD]
  have hO : D ∉ O := r.fresh hD
  refine ⟨r.hb.trans (jn hD), by rw [eh]; exact Same.refl _, fun q hq => ?_, fun q hq => ?_, by rw [zcv, zcv], fun i d e => ?_, fun i d e => ?_, fun i j d d' p e1 e2 f1 f2 => ?_⟩
  · rcases List.mem_cons.mp hq with z | z
    · rw [z]; exact List.mem_cons_self
    · exact List.mem_cons_of_mem _ (r.oc q z)
  · by_cases e : q = D
    · subst e; exact ⟨_, zS, fun _ z => nomatch z⟩
    · rw [zv e]; exact r.dom q ((List.mem_cons.mp hq).resolve_left e)
  · obtain ⟨k, j, rfl, hj, hv⟩ := qD e
    obtain ⟨v, h1, h2⟩ := r.val j d hv
    exact ⟨v, zeG hj h1, by rw [eh]; exact h2⟩
  · obtain ⟨k, j, rfl, hj, hv⟩ := qD e
    obtain ⟨p, h1, h2, h3, h4⟩ := r.own j d hv
    have hp : p ≠ D := fun z => hO (z ▸ h2)
    refine ⟨p, zeG hj h1, List.mem_cons_of_mem _ h2, ⟨fun z => (List.mem_cons.mp z).elim hp h3.1, h3.2⟩, ?_⟩
    cases h4 with
    | lst h r => exact .lst (by rw [zv hp]; exact h) (by rw [eh]; exact r)
    | dK h r => exact .dK (by rw [zv hp]; exact h) (by rw [eh]; exact r)
    | dT h r => exact .dT (by rw [zv hp]; exact h) (by rw [eh]; exact r)
  · obtain ⟨k, a, rfl, ha, hva⟩ := qD e1
    obtain ⟨l, b, rfl, hb, hvb⟩ := qD e2
    obtain ⟨k', a', ek, ha', ga⟩ := qD f1
    obtain ⟨l', b', el, hb', gb⟩ := qD f2
    have : k' = k := by omega
    subst this
    have : l' = l := by omega
    subst this
    rw [ha] at ha'; cases ha'
    rw [hb] at hb'; cases hb'
    have := r.sep a b d d' p hva hvb ga gb
    subst this
    have h1 := (List.getElem?_eq_some_iff.mp ha)
    have h2 := (List.getElem?_eq_some_iff.mp hb)
    have := (List.getElem_inj (h₀ := h1.1) (h₁ := h2.1) nd).mp (h1.2.trans h2.2.symm)
    omega
theorem SR.accUpd {D : Addr} {o : HO} (r : SR K F (D :: O) ρ σ H) (h0 : F.H0 D = none) (hc : D ∈ F.Oc) (ho : ∀ xs, o ≠ .tup xs) : SR K F (D :: O) ρ σ (upd H D o) := by
  have eh : hide (D :: O) (upd H D o) = hide (D :: O) H := zX List.mem_cons_self
  refine ⟨fun b u e => ?_, by rw [eh]; exact r.vb, r.oc, fun q hq => ?_, r.len, fun i d e => ?_, fun i d e => ?_, r.sep⟩
  · rw [zv (zE e h0)]; exact r.hb _ _ e
  · by_cases e : q = D
    · subst e; exact ⟨_, zS, ho⟩
    · rw [zv e]; exact r.dom q hq
  · rw [eh]; exact r.val i d e
  · obtain ⟨p, h1, h2, h3, h4⟩ := r.own i d e
    have hp : p ≠ D := fun z => h3.1 (z ▸ hc)
    refine ⟨p, h1, h2, h3, ?_⟩
    cases h4 with
    | lst h r => exact .lst (by rw [zv hp]; exact h) (by rw [eh]; exact r)
    | dK h r => exact .dK (by rw [zv hp]; exact h) (by rw [eh]; exact r)
    | dT h r => exact .dT (by rw [zv hp]; exact h) (by rw [eh]; exact r)
end
theorem zcR {K : Frag} {n : Nat} {caps : List Nat} {gi : Env' → Option (List D)} {h : GT} {gt : Env' → Option Bool} {ge : Env' → Option D} {σ : St} {H : Hp} {Q : VK} (nd : caps.Nodup) (ov : Over n h) (q : tFr K (qh n caps gi h gt ge) σ H Q) :
    zhW n caps (tId K gi) (tGd K h) (tTd K gt) (tD K ge) σ H Q := by
  obtain ⟨F, O, ρ, out, r, e, k⟩ := q
  obtain ⟨ds, e1, e2⟩ := Option.bind_eq_some_iff.mp e
  split at e2
  · rename_i hz
    refine ⟨F, O, ρ, ds, r, e1, fun J H1 s1 it D hD => ?_⟩
    have r1 := r.same s1
    have hHD : H D = none := s1.free hD
    have h0D : F.H0 D = none := r1.hb.free hD
    have hDO : D ∉ O := r1.fresh hD
    refine ⟨fun i m σ' H' => m = ds.length - i ∧ i ≤ ds.length ∧ Same H1 H' ∧ ∃ dn vs, H' D = some (.lst vs) ∧ Reps K (hide (D :: O) H') dn vs ∧ dn.length ≤ i ∧ SR K { H0 := F.H0, Oc := D :: F.Oc, V0 := hide O H1 } (D :: O) (capS n caps ρ) σ' H' ∧ ∃ rest, qr h gt ge (capS n caps ρ) (ds.drop i) = some rest ∧ out = dn ++ rest,
      ⟨ds.length, rfl, Nat.zero_le _, jn hD, [], [], zS, .nil, Nat.le_refl _, SR.comp nd r1 hD, out, e2, rfl⟩, ?_⟩
    rintro i m σ2 H2 ⟨rfl, hi, sm, dn, vs, hD2, rd, hdn, r2, rest, e3, ho⟩
    have sB : Same (hide O H1) H2 := r2.vb.trans jY
    by_cases hlt : i < ds.length
    · refine .inr ⟨it.go i H2 sB hlt, ?_⟩
      rw [List.drop_eq_getElem_cons hlt] at e3
      obtain ⟨ρ3, e4, e5⟩ := Option.bind_eq_some_iff.mp e3
      obtain ⟨b, e6, e7⟩ := Option.bind_eq_some_iff.mp e5
      obtain ⟨ol, oo⟩ := ov _ _ _ e4
      have back : ∀ {σ' H'}, SR K { H0 := F.H0, Oc := D :: F.Oc, V0 := hide O H1 } (D :: O) ρ3 σ' H' → SR K { H0 := F.H0, Oc := D :: F.Oc, V0 := hide O H1 } (D :: O) (capS n caps ρ) σ' H' := fun {σ' H'} r' => r'.forget ol.symm fun j en ej => by
        obtain ⟨kk, jj, rfl, hj, hv⟩ := qD ej
        rw [oo _ (Nat.le_add_right _ _)]; exact ej
      refine ⟨fun σ' H' => Same H1 H' ∧ ∃ dn vs, H' D = some (.lst vs) ∧ Reps K (hide (D :: O) H') dn vs ∧ dn.length ≤ i + 1 ∧ SR K { H0 := F.H0, Oc := D :: F.Oc, V0 := hide O H1 } (D :: O) (capS n caps ρ) σ' H' ∧ ∃ rest', qr h gt ge (capS n caps ρ) (ds.drop (i + 1)) = some rest' ∧ out = dn ++ rest',
        fun σ' H' hh => ⟨ds.length - (i + 1), by omega, rfl, hlt, hh⟩, fun x H' y => ?_⟩
      obtain ⟨s5, r5, b5⟩ := zay r2 (it.yld i H2 x H' ds[i] sB (by simp [hlt]) y)
      refine ⟨_, _, _, ds[i], ρ3, r5, b5, e4, fun σ6 r6 => ⟨_, _, ρ3, b, r6, e6, fun H7 s7 => ?_⟩⟩
      have s27 : Same H2 H7 := s5.trans s7
      cases b with
      | false =>
        refine iteF ⟨sm.trans s27, dn, vs, s27 _ _ hD2, rd.same (zZ s27), Nat.le_succ_of_le hdn, back (r6.same s7), rest, e7, ho⟩
      | true =>
        obtain ⟨yd, e8, e9⟩ := Option.bind_eq_some_iff.mp e7
        obtain ⟨rest', e10, e11⟩ := Option.map_eq_some_iff.mp e9
        refine iteT ⟨_, _, ρ3, yd, r6.same s7, e8, fun v H8 s8 b8 => ⟨vs, s8 _ _ (s27 _ _ hD2), ?_, ?_⟩⟩
        · rw [← rd.length]; omega
        · have s28 : Same H2 H8 := s27.trans s8
          have eh : hide (D :: O) (upd H8 D (.lst (vs ++ [v]))) = hide (D :: O) H8 := zX List.mem_cons_self
          refine ⟨fun bb u eb => ?_, dn ++ [yd], vs ++ [v], zS, ?_, ?_, ?_, rest', e10, ?_⟩
          · rw [zv (zE eb hD)]; exact s28 _ _ (sm _ _ eb)
          · rw [eh]; exact (rd.same (zZ s28)).append (.cons b8 .nil)
          · rw [List.length_append, List.length_singleton]; omega
          · exact SR.accUpd (back ((r6.same s7).same s8)) h0D List.mem_cons_self fun _ z => nomatch z
          · rw [ho, ← e11, List.append_assoc]; rfl
    · have ei : i = ds.length := by omega
      subst ei
      rw [List.drop_length] at e3
      cases e3
      refine .inl ⟨it.stop H2 sB, ?_⟩
      rw [List.append_nil] at ho
      subst ho
      have hH : upd (fun b => if b = D then none else H2 b) D (.lst vs) = H2 := by
        funext b
        by_cases e : b = D
        · subst e; rw [zS]; exact hD2.symm
        · rw [zv e]; exact if_neg e
      have hh : hide O (fun b => if b = D then none else H2 b) = hide (D :: O) H2 := by
        funext b
        unfold hide
        by_cases e : b = D
        · subst e; simp
        · simp [e]
      have q := k D vs (fun b => if b = D then none else H2 b) (fun b o eb => by
        have : b ≠ D := zE eb hHD
        show (if b = D then none else H2 b) = some o
        rw [if_neg this]; exact sm _ _ (s1 _ _ eb)) (if_pos rfl) (by rw [hh]; exact rd)
      rw [hH] at q
      exact q
  · cases e2
section
variable {X : Cx} {scope : Scope} {own N : List Str} {caps : List Nat} {tg iter elt : Expr} {pos : Pos} {gi : Env' → Option (List D)} {h : GT} {gt : Env' → Option Bool} {ge : Env' → Option D}
noncomputable def PIfd (X : Cx) (ifs : List Expr) (g : Env' → Option Bool) : Prop := PIf X ifs (tTd X.K g)
theorem zgS : PIfd X [] (fun _ => some true) := fun pins s σ H Q I ⟨F, O, ρ, b, r, e, k⟩ => by
  cases e
  exact zit pins s σ H Q I (k H (Same.refl _))
theorem zdd {c : Expr} {g : Env' → Option Bool} (hc : PTd X c g) : PIfd X [c] g := zhT hc
theorem xP {ifs : List Expr} (S : CompOk X scope own caps N) (nd : caps.Nodup) (ov : Over own.length h) (hc : X.calm = true) (hi : PId X tg iter gi) (hg : jt X N scope fun Y => PGd Y tg h) (ht : jt X N scope fun Y => PIfd Y ifs gt) (he : jt X N scope fun Y => PD Y elt ge)
    (hs : ∀ x, foldedSetIterable iter X.env x = pure x := by intro _; rfl) : PFr X (.ListComp elt [⟨tg, iter, ifs, 0⟩] scope pos) (qh own.length caps gi h gt ge) :=
  PE.imp (zhM (g := tGd X.K h) (tt := tTd X.K gt) (te := tD X.K ge) S hc hi (fun cl C s H fp => hg cl C s H fp) (fun cl C s H fp => ht cl C s H fp) (fun cl C s H fp => he cl C s H fp) hs) fun _ _ _ q => zcR nd ov q
end
end L2.Y
namespace L2.Y
open PySem PySem.Spec PyProof.Rows
section
variable {X : Cx}
theorem zcp {i : Nat} {x : Str} {e : Expr} {p apos cpos pos : Pos} {ge : Env' → Option D} (hv : PE X (.Name x p) (tVar i)) (he : PD X e ge)
    (hbase : attributeBase (.Name x p) "append" X.env (eval (.Name x p) X.env) = eval (.Name x p) X.env := by rfl)
    (hfew : ((backTo cpos (starEach [e] X.env)).all (fun x => !x.1) && (backToKw cpos (keywordEach [] X.env)).all (fun x => x.1.isSome)
      && decide (([e] : List Expr).length + ([] : List Keyword).length + (if ([] : List Keyword).isEmpty then 0 else 1) < 30)) = true := by rfl)
    (hline : (apos.endLine == cpos.line) = true := by rfl) (hs : starEach [e] X.env = [(false, eval e X.env)] := by rfl)
    (hsw : swapsWith (.Call (.Attribute (.Name x p) "append" apos) [e] [] cpos) none pos.line X.env = pure false := by rfl) :
    PSd X (.Expr (.Call (.Attribute (.Name x p) "append" apos) [e] [] cpos) pos) (sApp i ge) :=
  PS.imp (zh8 (zf9 PySem.F.plainAttrs_list PySem.F.slot_list_append PySem.F.type_list_append vZ hv (qv he wr hs) hbase hfew hline hs (by rfl)) hsw) fun D σ H ⟨F, O, ρ, out, r, e, k⟩ => by
    obtain ⟨d, e1, e2⟩ := Option.bind_eq_some_iff.mp e
    obtain ⟨ds, e3, e4⟩ := Option.bind_eq_some_iff.mp e2
    split at e4
    · rename_i hl
      cases e4
      have ho := zfd e3
      obtain ⟨q, h1, h2, h3, h4⟩ := r.own i _ ho
      cases h4 with
      | lst hq rq =>
        rename_i xs
        refine ⟨_, h1, .inl ⟨rfl, xs, SqL.of hq⟩, F, O, ρ, d, r, e1, fun v H1 s1 b1 => ?_⟩
        refine ⟨q, xs, v, rfl, rfl, s1 _ _ hq, by rw [← rq.length]; exact hl, ?_⟩
        refine k O σ _ ((r.same s1).mut ho h1 (.lst zS ?_))
        rw [zX h2]
        exact (rq.same (zZ s1)).append (.cons b1 .nil)
    · cases e4
end
noncomputable def spD (K : Frag) (n : Nat) (f : List D → Option D) : Sp := fun vs H Q _ => ∃ O ds d, Dom O H ∧ Reps K (hide O H) ds vs ∧ ds.length = n ∧ f ds = some d ∧ ∀ v H', Same H H' → Rep K (hide O H') d v → Q v H'
theorem zcu {K : Frag} {O : List Addr} {H : Hp} {N : List Str} {ds : List D} {vs : List V} (hO : Dom O H) (r : Reps K (hide O H) ds vs) (hl : ds.length ≤ N.length) : SR K ⟨H, O, hide O H⟩ O (jm N.length ds) (start N vs) H := by
  have elen := r.length
  have split : ∀ {i : Nat} {e : En}, (jm N.length ds)[i]? = some (some e) → ∃ d, ds[i]? = some d ∧ e = .val d := fun {i e} h => by
    unfold jm at h
    by_cases hi : i < ds.length
    · rw [List.getElem?_append_left (by simpa using hi), List.getElem?_map] at h
      obtain ⟨d, h1, h2⟩ := Option.map_eq_some_iff.mp h
      exact ⟨d, h1, (Option.some.inj h2).symm⟩
    · rw [List.getElem?_append_right (by simpa using hi), List.getElem?_replicate] at h
      split at h <;> cases h
  refine ⟨Same.refl _, Same.refl _, fun _ h => h, hO, ?_, fun i d h => ?_, fun i d h => ?_, fun i j d d' p h => ?_⟩
  · unfold start jm
    rw [List.length_append, List.length_append, List.length_map, List.length_map, List.length_replicate, List.length_replicate]
    omega
  · obtain ⟨d', h1, h2⟩ := split h
    cases h2
    obtain ⟨v, g1, g2⟩ := r.get h1
    refine ⟨v, ?_, g2⟩
    unfold start
    have hi : i < vs.length := (List.getElem?_eq_some_iff.mp g1).1
    rw [List.getElem?_append_left (by simpa using hi), List.getElem?_map, g1]
    rfl
  · obtain ⟨d', h1, h2⟩ := split h
    cases h2
  · obtain ⟨d', h1, h2⟩ := split h
    cases h2
abbrev cxD (P : Program) (w : World) (K : Frag) (mg : Str → Option Value) (base : Heap) (N : List Str) (qual : Str) (st : Stmt) (f : Addr) (cdv : Value) (A : Around) (outer : List Env) (s : Shared) (H : Hp) (E : XK) : Cx :=
  (cxOf CX0 P w K mg base N qual (zc st) f cdv A outer s H E).nox
section
variable {P : Program} {w : World} {K : Frag} {mg : Str → Option Value} {base : Heap}
theorem qY {x qual : Str} {st : Stmt} {f : Addr} {fd : FuncData} {N ps : List Str} {k : Nat} {g : GS} (F : Fun K x qual st f fd) (S : FnScope N ps (zc st))
    (hb : ∀ (cdv : Value) (A : Around) (outer : List Env) (s : Shared) (H : Hp) (E : XK), Room k (A.deeper (envOfC qual (zc st) s.heap.objs.size f cdv)) → PSsd (cxD P w K mg base N qual st f cdv A outer s H E) (zj st) g) :
    FnOk P w K mg base CX0 (k + 1) f fd ps (spD K ps.length (jc N.length g)) := by
  have hpl : ps.length ≤ N.length := by have := congrArg List.length S.pre; rw [List.length_take] at this; omega
  refine F.ok S (fun vs H Q E h => ?_) (fun cdv A outer s H vs Q E hr h => ?_)
  · obtain ⟨O, ds, d, _, r, hl, _⟩ := h
    rw [← r.length]; exact hl
  · obtain ⟨O, ds, d, hO, r, hl, e, k⟩ := h
    obtain ⟨o, e1, e2⟩ := Option.bind_eq_some_iff.mp e
    refine ⟨_, hb cdv A outer s H E hr, ⟨H, O, hide O H⟩, O, jm N.length ds, o, zcu hO r (by omega), e1, ?_⟩
    cases o with
    | ret d' => cases e2; exact fun v H' s b => k v H' s b
    | nxt ρ' =>
      cases e2
      exact fun O' σ' H' r' => k .non H' r'.hb .non
    | brk _ => cases e2
    | cnt _ => cases e2
end
section
variable {X : Cx}
theorem zx {k n : Nat} {f : Addr} {fd : FuncData} {ps : List Str} {fn : List D → Option D} {x : Str} {p pos : Pos} {e : Expr} {es : List Expr} {g : Env' → Option (List D)} (F : FnOk X.prog X.w X.K X.mg X.base CX0 k f fd ps (spD X.K n fn)) (hr : Room k X.A) (hg : Gl X x) (hm : X.mg x = some (.ref f)) (hk : PySem.W.keepIn X.K (.ref f) = true) (hb : Binds X.K fd ps [])
    (ha : PAd X (e :: es) g) (hdb : (x == ("__debug__" : Str)) = false := by decide) (he : starEach (e :: es) X.env = (false, eval e X.env) :: starEach es X.env := by exact jI rfl) (hpl : (backTo pos (starEach es X.env)).any (·.1) = false := by rfl) :
    PD X (.Call (.Name x p) (e :: es) [] pos) (gA (zA n fn) g) :=
  PE.imp (ziv F hr hg hm hk hb .nil zkn ha hdb he hpl) fun σ H Q ⟨F', O, ρ, d, r, e, k⟩ => by
    obtain ⟨ds, e1, e2⟩ := zaQ e
    unfold zA at e2
    split at e2
    · rename_i hl
      refine ⟨F', O, ρ, ds, r, e1, fun vs H1 s1 b1 => ?_⟩
      show spD X.K n fn (vs ++ []) H1 Q E0
      rw [List.append_nil]
      exact ⟨O, ds, d, (r.same s1).dom, b1, hl, e2, fun v H' s2 b2 => k v H' (s1.trans s2) b2⟩
    · cases e2
noncomputable def tyN : D → String
  | .none => "NoneType"
  | .bool _ => "bool"
  | .int _ => "int"
  | .str _ => "str"
  | .list _ => "list"
  | .tuple _ => "tuple"
  | .dict _ => "dict"
theorem zep (K : Frag) (d : D) : PySem.W.kitOne K (.type (tyN d)) (.type "int") = some (zbT d) := by cases d <;> rfl
theorem zcL (K : Frag) (d : D) : PySem.W.kitOne K (.type (tyN d)) (.type "bool") = some (kg d) := by cases d <;> rfl
theorem kit_tuple (K : Frag) (d : D) : PySem.W.kitOne K (.type (tyN d)) (.type "tuple") = some (jx d) := by cases d <;> rfl
theorem zdy {pins : List (Addr × Obj)} {σ : St} {H : Hp} {s : Shared} {d : D} {x : V} {u c : Value} {b : Bool} {Q : Value → Shared → Prop} {E : Value → Shared → Prop} (I : Inv X pins σ H s) (r : Rep X.K H d x) (nd : ∀ z, d ≠ .dict z) (rx : RelV x u) (e : PySem.W.kitOne X.K (.type (tyN d)) c = some b) (h : ∀ tk, Q (.bool b) { s with toks := tk }) :
    wpAny (model X.prog X.w) X.A (call (.builtin "isinstance") [u, c]) Q E s := by
  cases r with
  | non => exact xc I rx .non e h
  | bl y => exact xc I rx (.bl y) e h
  | int i => exact xc I rx (.int i) e h
  | str y => exact xc I rx (.str y) e h
  | @tup a xs ds sq _ =>
    obtain rfl : u = Value.ref a := rx
    obtain ⟨its, _, ⟨o, h1, h2, _⟩, _⟩ := I.tuple (.inl (.inl sq))
    exact PySem.W.kia_one PySem.W.kitx_tuple I.kIn ⟨o, h1, h2⟩ e (fun z => nomatch z) h
  | lst rd _ =>
    rcases rd with rd | ⟨o, rd⟩
    · exact xc I rx (.lst rd) e h
    · exact xc I rx (.frz rd) e h
  | dK hd _ => exact absurd rfl (nd _)
  | dT hd _ => exact absurd rfl (nd _)
  | dF hd _ => exact absurd rfl (nd _)
  | scr hd _ => exact absurd rfl (nd _)
  | adr _ => exact absurd rfl (nd _)
theorem zgL {f : D → Bool} {d r : D} (h : isI f d = some r) : r = .bool (f d) ∧ ∀ z, d ≠ .dict z := by
  cases d <;> first | (cases h; exact ⟨rfl, fun z e => nomatch e⟩) | cases h
theorem qi {T : String} {x : Str} {f : D → Bool} {a : Expr} {p q pos : Pos} {ga : Env' → Option D} (hk : ∀ d, PySem.W.kitOne X.K (.type (tyN d)) (.type T) = some (f d)) (ha : PB X a ga) (hg : Gl X "isinstance") (hm : X.mg "isinstance" = none) (hg2 : Gl X x) (hm2 : X.mg x = none)
    (hv : bootBuiltins "isinstance" = some (.builtin "isinstance")) (hv2 : bootBuiltins x = some (.type T)) (hn : x ≠ "__name__" := by decide) (hdb : (x == ("__debug__" : Str)) = false := by decide)
    (he : starEach [a, .Name x q] X.env = (false, eval a X.env) :: starEach [.Name x q] X.env := by rfl) (hpl : (backTo pos (starEach [.Name x q] X.env)).any (·.1) = false := by rfl) : PD X (.Call (.Name "isinstance" p) [a, .Name x q] [] pos) (g1 (isI f) ga) := by
  have hc : xA X (.builtin "isinstance") (fun xs H Q => ∃ y O d, xs = [y, .ty T] ∧ RepB X.K O H d y ∧ (∀ z, d ≠ .dict z) ∧ Q (.bl (f d)) H) := by
    intro pins s σ H xs us Q I rv ⟨y, O, d, e, rb, nd, q⟩
    subst e
    cases rv with
    | cons r1 rr =>
      obtain ⟨u2, rfl, r2⟩ := vals1 rr
      obtain rfl : u2 = Value.type T := r2
      exact zdy I rb.full nd r1 (hk d) fun tk => ⟨.bl (f d), H, I.tok tk, rfl, q⟩
  exact PE.imp (yW hc hg hm hv (qv ha (qv (ze9 (v := .ty T) hg2 hm2 hv2 rfl hn hdb) wr) he) (by decide) (by decide) he hpl) fun σ H Q ⟨F, O, ρ, d, r, e, k⟩ => by
    obtain ⟨dx, e1, e2⟩ := ziq e
    obtain ⟨rfl, nd⟩ := zgL e2
    exact ⟨F, O, ρ, dx, r, e1, fun v H1 s1 b1 => ⟨v, O, dx, rfl, b1, nd, k _ H1 s1 (.bl _)⟩⟩
end
end L2.Y
namespace L2.Y
open PySem PySem.Spec PyProof.Rows
section
variable {X : Cx}
theorem ze1 {h h' : D → D → Option D} {ga gb gc : Env' → Option D} {σ : St} {H : Hp} {Q : VK} (q : tD X.K (kH h h' ga gb gc) σ H Q) :
    zhg (fun x y H Q => ∃ O dx dy d, Dom O H ∧ RepB X.K O H dx x ∧ RepB X.K O H dy y ∧ h dx dy = some d ∧ ∀ z H', Same H H' → Rep X.K (hide O H') d z → Q z H')
      (fun x y H Q => ∃ O dx dy d, Dom O H ∧ RepB X.K O H dx x ∧ RepB X.K O H dy y ∧ h' dx dy = some d ∧ ∀ z H', Same H H' → Rep X.K (hide O H') d z → Q z H') (tBo X.K ga) (tBo X.K gb) (tBo X.K gc) σ H Q := by
  obtain ⟨F, O, ρ, d, r, e, k⟩ := q
  obtain ⟨dx, e1, e⟩ := Option.bind_eq_some_iff.mp e
  obtain ⟨dy, e2, e⟩ := Option.bind_eq_some_iff.mp e
  obtain ⟨b, e3, e⟩ := Option.bind_eq_some_iff.mp e
  obtain ⟨db, e4, e5⟩ := Option.bind_eq_some_iff.mp e3
  cases xR e5
  refine ⟨F, O, ρ, dx, r, e1, fun x H1 s1 b1 => ⟨F, O, ρ, dy, r.same s1, e2, fun y H2 s2 b2 => ?_⟩⟩
  refine ⟨O, dx, dy, _, (r.same (s1.trans s2)).dom, b1.same s2, b2, e4, fun z H3 s3 b3 => ⟨b, xX b3, ?_⟩⟩
  have s13 := s1.trans (s2.trans s3)
  cases b with
  | true =>
    obtain ⟨dz, e6, e7⟩ := Option.bind_eq_some_iff.mp e
    exact iteT ⟨F, O, ρ, dz, r.same s13, e6, fun w H4 s4 b4 => ⟨O, dy, dz, d, (r.same (s13.trans s4)).dom, b2.same (s3.trans s4), b4, e7, fun z H' s5 b5 => k z H' (s13.trans (s4.trans s5)) b5⟩⟩
  | false => cases e; exact iteF (k _ H3 s13 (.bl false))
variable {a b c : Expr} {pos : Pos} {ga gb gc : Env' → Option D}
theorem zc7 {op op' : CmpOp} {h h' : D → D → Option D} (ho : OpD X (compareOp op) h) (ho' : OpD X (compareOp op') h') (ha : PB X a ga) (hb : PB X b gb) (hc : PB X c gc) (hm : lastMarks [op, op'] [b, c] = false := by with_unfolding_all rfl) :
    PD X (.Compare a [op, op'] [b, c] pos) (kH h h' ga gb gc) := PE.imp (zge ho.r ho'.r ha hb hc hm) fun _ _ _ q => ze1 q
noncomputable def zjP (oscope : Scope) (oN : List Str) (scope : Scope) (own : List Str) (caps : List Nat) (N : List Str) : Bool :=
  decide (scope.kind = .function) && scope.names.all (fun y => decide (y.2 ≠ .cell)) && scope.names.all (fun y => decide (y.2 = .local → scope.names.lookup y.1 = some .local)) &&
  scope.names.all (fun y => decide (y.2 = .free → oscope.names.lookup y.1 = some .cell ∨ oscope.names.lookup y.1 = some .free)) && decide N.Nodup && decide (N = own ++ caps.map fun j => oN.getD j Str.empty) &&
  caps.all (fun j => decide (j < oN.length) && decide (scope.names.lookup (oN.getD j Str.empty) = some .free)) && decide caps.Nodup
theorem jA {oscope scope : Scope} {oN own N : List Str} {caps : List Nat} (h : zjP oscope oN scope own caps N = true) (h1 : X.env.scope = oscope) (h2 : X.N = oN) : CompOk X scope own caps N := by
  unfold zjP at h
  simp only [Bool.and_eq_true, decide_eq_true_eq, List.all_eq_true] at h
  obtain ⟨⟨⟨⟨⟨⟨⟨a1, a2⟩, a3⟩, a4⟩, a5⟩, a6⟩, a7⟩, a8⟩ := h
  subst h1 h2
  refine ⟨a1, a2, a3, a4, a5, by rw [a6]; simp, fun k j hk => ?_⟩
  obtain ⟨b1, b2⟩ := a7 j (List.mem_of_getElem? hk)
  refine ⟨X.N.getD j Str.empty, by simp [List.getD, b1], ?_, b2⟩
  rw [a6, List.getElem?_append_right (Nat.le_add_right _ _), Nat.add_sub_cancel_left, List.getElem?_map, hk]
  rfl
theorem wB : ∀ {ds : List D} {bs : List Bool}, yI ds = some bs → ds = bs.map PyData.bool
  | [], _, h => by cases h; rfl
  | d :: ds, _, h => by
    unfold yI at h
    rw [List.mapM_cons] at h
    obtain ⟨i, h1, h⟩ := Option.bind_eq_some_iff.mp h
    obtain ⟨r, h2, h⟩ := Option.bind_eq_some_iff.mp h
    cases h
    rw [xR h1, wB (ds := ds) h2]; rfl
theorem zaX {K : Frag} {H : Hp} : ∀ {bs : List Bool} {xs : List V} {us : List Value}, Reps K H (bs.map PyData.bool) xs → Vals xs us → us = bs.map Value.bool
  | [], _, _, r, v => by cases r; cases v; rfl
  | b :: bs, _, _, r, v => by
    cases r with
    | cons r rr =>
      cases r
      cases v with
      | cons v vv => cases v; rw [zaX rr vv]; rfl
end
end L2.Y
namespace L2.Y
open PySem PySem.Spec PyProof.Rows
section
variable {X : Cx}
theorem zbh (hc : X.calm = true) : yj X (.builtin "all") allD := by
  intro pins s σ H O xs us ds d Q I hO rv bs e k
  unfold allD at e
  split at e
  · obtain ⟨bl, e1, e2⟩ := Option.map_eq_some_iff.mp e
    subst e2
    cases wB e1
    obtain ⟨v, rfl, b⟩ := bs.inv1
    obtain ⟨a, ys, rfl, sq, rs⟩ := b.lst
    obtain ⟨u, rfl, ru⟩ := vals1 rv
    obtain rfl : u = Value.ref a := ru
    obtain ⟨its, r, pl, hz⟩ := I.list sq
    have hb := zaX rs r
    subst hb
    have hl := pl.isList
    have hlt : a < s.heap.objs.size := by obtain ⟨_, e, _⟩ := hl; exact Heap.lt_size e
    refine call_all_walk (wpAny_pyIter_list hl ?_)
    refine ⟨s.heap.objs.size, [s.heap.objs.size, a], [s.heap.objs.size], (bl.map Value.bool).toArray.size, _, _, fun i => (bl[i]?).getD true, rfl, Walks.list (A := X.A.in1) (I.ok.hd hc) _ a (Nat.ne_of_lt hlt) _,
      ⟨⟨_, Heap.get?_push_size _ rfl, rfl, rfl⟩, hl.push _⟩, fun i v s' Q' E' hP hQ => ?_, fun h' tk hk => ?_⟩
    · have hP' : (bl.map Value.bool)[i]? = some v := by simpa using hP
      rw [List.getElem?_map] at hP'
      obtain ⟨b0, hb0, rfl⟩ := Option.map_eq_some_iff.mp hP'
      simp only [hb0, Option.getD_some] at hQ
      exact wpAny_truthy_bool hQ
    · have e : ((List.range (bl.map Value.bool).toArray.size).all fun i => (bl[i]?).getD true) = bl.all id := by
        rw [List.size_toArray, List.length_map]; exact PyProof.Rows.LSm.range_all bl
      rw [e]
      exact qU (I.kept (t' := tk) (PyProof.Rows.LSm.kept_iter hk)) k
  · cases e
noncomputable def tOd (K : Frag) (g : GO) : TO := fun σ H Q => ∃ F O ρ o, SR K F O ρ σ H ∧ g ρ = some o ∧ ∀ H', Same H H' → Q o H'
noncomputable def POd (X : Cx) (e : Option Expr) (g : GO) : Prop := PO X e (tOd X.K g)
theorem PO.imp {e : Option Expr} {t t' : TO} (h : PO X e t) (k : ∀ σ H Q, t' σ H Q → t σ H Q) : PO X e t' := fun pins s σ H Q I q => h pins s σ H Q I (k σ H Q q)
theorem zQ : POd X none zy := PO.imp zij fun σ H Q ⟨F, O, ρ, o, r, e, k⟩ => by
  cases e
  exact k H (Same.refl _)
theorem zw {e : Expr} {g : Env' → Option D} (h : PB X e g) : POd X (some e) (zl g) := PO.imp (zic h) fun σ H Q ⟨F, O, ρ, o, r, e, k⟩ => by
  obtain ⟨d, e1, e2⟩ := Option.bind_eq_some_iff.mp e
  split at e2
  · rename_i i
    cases e2
    exact ⟨F, O, ρ, _, r, e1, fun v H' s b => ⟨i, b.int, k H' s⟩⟩
  · cases e2
theorem wF {t sl : Addr} {items : Array Value} {vl vu : Value} {lo hi : Option Int} {prog : Program} {w : World} {A : Around} {E : Value → Shared → Prop} {s : Shared} {Q : Value → Shared → Prop} (ht : IsTup s.heap t items) (hs : s.heap.IsSliceOf sl vl vu .none) (pl : IsPart vl lo) (pu : IsPart vu hi)
    (hw : HT.sIx items.size 0 lo = 0 ∧ HT.sIx items.size items.size hi = items.size) (h : Q (.ref t) s) : wpAny (model prog w) A (getItem (.ref t) (.ref sl)) Q E s := by
  obtain ⟨os, hos, hcs, hds⟩ := id hs
  have hTs : s.TypeIs (.ref sl) "slice" := ⟨os, hos, hcs⟩
  unfold getItem
  try with_reducible refine wpAny_holding ?_
  first | refine wpAny_bind (wpAny_pure ?_) | skip
  refine wpAny_bind (wpAny_sequenceKey ht.typeIs (by decide) ?_)
  refine wpAny_bind (wpAny_callSpecial?_slot (name := Str.ofString "__getitem__") ht.typeIs PyProof.Rows.slot_tuple_getitem
    (wpAny_call_entry PyProof.Rows.slot_tuple_getitem ht.typeIs entry_tuple_getitem ?_ (args_tuple_getitem _ _)))
  show wpAny _ _ (Builtin.Tuple.tupleItemsOf (.ref t) >>= _) _ _ s
  refine wpAny_bind (tupleItemsOf_ ht ?_)
  refine wpAny_bind (wpAny_typeOf hTs ?_)
  rw [if_pos (by decide)]
  refine wpAny_bind (HT.sliceApplied_gen hs pl pu ?_)
  have hyes : (((HT.sIx items.size 0 lo : Nat) : Int) == 0 && (1 : Int) == 1 && (HT.sIx items.size items.size hi - HT.sIx items.size 0 lo) == items.size) = true := by
    rw [hw.1, hw.2]; simp
  show wpAny _ _ (if (((HT.sIx items.size 0 lo : Nat) : Int) == 0 && (1 : Int) == 1 && (HT.sIx items.size items.size hi - HT.sIx items.size 0 lo) == items.size) = true then _ else _) _ _ s
  rw [if_pos hyes]
  refine wpAny_bind ?_
  unfold Builtin.Tuple.tupleIsExact
  refine wpAny_bind (wpAny_typeOf ht.typeIs (wpAny_pure ?_))
  rw [if_pos (by decide)]
  exact wpAny_bind (wpAny_rule (wpAny_pure ⟨_, rfl, wpAny_pure h⟩))
theorem zbE {K : Frag} {H : Hp} {ds : List D} {xs : List V} {lo hi : Option Int} (r : Reps K H ds xs) : Reps K H (cutD ds lo hi) (cutV xs lo hi) := by
  unfold cutD cutV
  rw [r.length]
  exact (r.drop _).take _
theorem zkm : SlR X (fun x lo hi H Q => ∃ O dx d, Dom O H ∧ RepB X.K O H dx x ∧ slD dx lo hi = some d ∧ ∀ z H', Same H H' → Rep X.K (hide O H') d z → Q z H') := by
  intro pins s σ H x v vl vu lo hi sl Q I rx hs pl pu ⟨O, dx, d, hO, b, e, k⟩
  unfold slD at e
  split at e
  · rename_i ds
    cases e
    obtain ⟨a, xs, rfl, sq, rs⟩ := b.tup
    by_cases hw : HT.sIx xs.length 0 lo = 0 ∧ HT.sIx xs.length xs.length hi = xs.length
    · obtain rfl : v = Value.ref a := rx
      obtain ⟨its, r, ht, hz⟩ := I.tuple sq
      have hlen : its.toArray.size = xs.length := by rw [List.size_toArray]; exact r.length.symm
      refine ⟨"tuple", _, PyProof.Rows.slot_tuple_getitem.lookup, ht.typeIs, ?_⟩
      refine wF ht hs pl pu (by rw [hlen]; exact hw) ⟨.ref a, H, I, rfl, k _ H (Same.refl _) ?_⟩
      have : cutD ds lo hi = ds := by
        unfold cutD
        rw [rs.length, hw.1, hw.2, Nat.sub_zero, List.drop_zero, ← rs.length, List.take_length]
      rw [this]
      exact wN b
    · exact zjC pins s σ H _ v vl vu lo hi sl Q I rx hs pl pu ⟨a, xs, rfl, sq, hw, fun p hp => k _ _ (jn hp) (wI hp (hO.out hp) (zbE rs))⟩
  · cases e
    obtain ⟨a, xs, rfl, sq, rs⟩ := b.lst
    exact zh9 pins s σ H _ v vl vu lo hi sl Q I rx hs pl pu ⟨a, xs, rfl, sq, fun p hp => k _ _ (jn hp) (vg hp (hO.out hp) (zbE rs))⟩
  · cases e
theorem zG {e : Expr} {lo hi : Option Expr} {p2 pos : Pos} {ga : Env' → Option D} {gl gh : GO} (he : PB X e ga) (hl : POd X lo gl) (hu : POd X hi gh) : PD X (.Subscript e (.Slice lo hi none p2) pos) (gSl ga gl gh) :=
  PE.imp (zcz zkm he hl hu) fun σ H Q ⟨F, O, ρ, d, r, e, k⟩ => by
    obtain ⟨dx, e1, e⟩ := Option.bind_eq_some_iff.mp e
    obtain ⟨l, e2, e⟩ := Option.bind_eq_some_iff.mp e
    obtain ⟨h, e3, e⟩ := Option.bind_eq_some_iff.mp e
    refine ⟨F, O, ρ, dx, r, e1, fun x H1 s1 b1 => ⟨F, O, ρ, l, r.same s1, e2, fun H2 s2 => ⟨F, O, ρ, h, (r.same s1).same s2, e3, fun H3 s3 => ?_⟩⟩⟩
    exact ⟨O, dx, d, (((r.same s1).same s2).same s3).dom, b1.same (s2.trans s3), e, fun z H' s4 b4 => k z H' (s1.trans (s2.trans (s3.trans s4))) b4⟩
end
end L2.Y
namespace L2.Y
open PySem PySem.Spec PyProof.Rows
theorem yQ : fillsNumberSlot (.type "tuple") "mul" = pure false :=
  PySem.fillsNumberSlot_seq (id := "tuple.__mul__") (r := some (.builtin "tuple.__rmul__")) PySem.F.slot_tuple_mul.lookup (by decide +kernel) PySem.F.slot_tuple_rmul.lookup (by decide +kernel)
theorem zbu : seqRepeat? (.type "tuple") = pure (some (.builtin "tuple.__mul__")) := by
  unfold seqRepeat?
  rw [PySem.seqSlot_of (T := "tuple") (name := "__mul__") (id := "tuple.__mul__") PySem.F.slot_tuple_mul.lookup (by decide +kernel), PySem.seqSlot_of (T := "tuple") (name := "__rmul__") (id := "tuple.__rmul__") PySem.F.slot_tuple_rmul.lookup (by decide +kernel)]
  rfl
section
open PySem.SeqAt
open PySem.AutoSeq1 (wpAny_loadPart')
open PySem.MeetsSeq PySem.MeetsSeq2 PySem.MeetsSeq3
theorem kr (a : Int) (t : Tok) (l : Addr) (items : Array Value) (n : Nat) (dd : Option Addr) (sl : Array (Option Value)) :
    Meets (Builtin.«int.__rmul__» ⟨[.int a t, .ref l], []⟩) (fun _ R s => s.heap.get? l = some { cls := .type "tuple", dict := dd, data := .seq items n, slots := sl } ∧ R (.ok (.ret Value.notImplemented)) s) :=
  .of_wp fun prog w A R s h => by obtain ⟨hp, g, d, tk, os⟩ := s; obtain ⟨hl, h⟩ := h; wp_walk; exact ⟨_, rfl, h⟩
theorem ky (l : Addr) (items : Array Value) (n : Nat) (dd : Option Addr) (sl : Array (Option Value)) (x : Int) (u : Tok) (h1 : (decide (x < -(2 ^ 63)) || decide (x ≥ 2 ^ 63)) = false) (h2 : (items.isEmpty || x == 1) = true) :
    Meets (Builtin.«tuple.__mul__» ⟨[.ref l, .int x u], []⟩) (fun _ R s => s.heap.get? l = some { cls := .type "tuple", dict := dd, data := .seq items n, slots := sl } ∧ R (.ok (.ret (.ref l))) s) :=
  .of_wp fun prog w A R s h => by
    obtain ⟨hp, g, d, tk, os⟩ := s; obtain ⟨hl, h⟩ := h
    have f1 := AutoSeq1.idx_int
    have f2 := AutoSeq1.sub_tuple_tuple
    wp_walk using wpAny_loadPart' hl
    rw [if_neg (by rw [h1]; exact Bool.false_ne_true)]
    wp_walk using wpAny_loadPart' hl
    exact ⟨_, rfl, h⟩
theorem kq (l : Addr) (items : Array Value) (n : Nat) (dd : Option Addr) (sl : Array (Option Value)) (x : Int) (u : Tok) (h1 : (decide (x < -(2 ^ 63)) || decide (x ≥ 2 ^ 63)) = false) (h2 : (items.isEmpty || x == 1) = false) (h3 : (decide (x ≤ 0) || items.isEmpty) = false)
    (h4 : ¬ (items.size : Int) * x > (2 ^ 63 - 1) / 8) (h5 : Builtin.Tuple.tupleTooMany (items.size * x) = false) (hsz : (List.foldl (fun x1 x2 => x1 ++ x2) #[] (List.replicate x.toNat items)).size ≤ sizeLine) :
    Meets (Builtin.«tuple.__mul__» ⟨[.ref l, .int x u], []⟩) (fun _ R s => s.heap.get? l = some { cls := .type "tuple", dict := dd, data := .seq items n, slots := sl } ∧
      R (.ok (.ret (.ref s.heap.objs.size))) { s with heap := s.heap.push { cls := .type "tuple", data := .seq (List.foldl (fun x1 x2 => x1 ++ x2) #[] (List.replicate x.toNat items)) } }) :=
  .of_wp fun prog w A R s h => by
    obtain ⟨hp, g, d, tk, os⟩ := s; obtain ⟨hl, h⟩ := h
    have f1 := AutoSeq1.idx_int
    have f2 := AutoSeq1.sub_tuple_tuple
    wp_walk using wpAny_loadPart' hl
    rw [if_neg (by rw [h1]; exact Bool.false_ne_true)]
    wp_walk using wpAny_loadPart' hl
    rw [if_neg h4]
    wp_walk
    exact ⟨_, rfl, h⟩
end
section
variable {X : Cx}
theorem Reps.rep {K : Frag} {H : Hp} {ds : List D} {xs : List V} (r : Reps K H ds xs) : ∀ k : Nat, Reps K H (List.replicate k ds).flatten (List.replicate k xs).flatten
  | 0 => .nil
  | k + 1 => by
    rw [List.replicate_succ, List.replicate_succ, List.flatten_cons, List.flatten_cons]
    exact r.append (Reps.rep r k)
theorem zaK (its : List Value) (m : Nat) : List.foldl (fun x1 x2 => x1 ++ x2) #[] (List.replicate m its.toArray) = (List.replicate m its).flatten.toArray := by
  have := foldl_rep its m []
  rw [List.nil_append] at this
  exact this
theorem xm : OpD X (binaryOp .Mult) yx := by
  intro pins s σ H O x y v u dx dy d Q I hO rx ry bx by' e k
  unfold yx at e
  split at e
  · rename_i i j
    unfold mulI at e
    split at e
    · cases e
      cases bx.int
      cases by'.int
      exact zjT pins s σ H _ _ v u Q I rx ry ⟨i, j, rfl, rfl, by assumption, k _ H (Same.refl _) (.int _)⟩
    · cases e
  · rename_i ds j
    obtain ⟨es, e1, rfl⟩ := Option.map_eq_some_iff.mp e
    unfold repD at e1
    split at e1
    · rename_i hc
      obtain ⟨c1, c2, c3⟩ := hc
      cases e1
      obtain ⟨l, xs, rfl, sq, rs⟩ := bx.lstR
      cases by'.int
      obtain rfl : v = Value.ref l := rx
      obtain ⟨t, rfl⟩ := ry
      obtain ⟨z, its, n, r, e⟩ := zfA I sq
      have hlen : its.toArray.size * j.toNat ≤ sizeLine := by rw [List.size_toArray, ← r.length, ← rs.length]; exact c3
      have hcap : ¬ its.toArray.size * j.toNat > (2 ^ 63 - 1) / 8 := by
        have : (sizeLine : Nat) ≤ (2 ^ 63 - 1) / 8 := by decide
        omega
      have hfit : ¬ (!Builtin.List.listFitsIndex j) = true := by
        rw [fitsIndex_both c1 c2]
        exact Bool.false_ne_true
      have hlong : ¬ Builtin.List.listTooLong (its.toArray.size * j.toNat) = true := by
        rw [zgO hlen]
        exact Bool.false_ne_true
      have hnew : List.foldl (fun x1 x2 => x1 ++ x2) #[] (List.replicate (if its.toArray.isEmpty = true then 0 else j.toNat) its.toArray) = (List.replicate j.toNat its).flatten.toArray := by
        rw [zaK]
        cases its with
        | nil => simp
        | cons a r' => rw [if_neg (by simp)]
      refine wpAny_binaryOp_repeat_ref (T := "list") (U := "int") (by decide) ⟨_, e, rfl⟩ (fun s' => typeIs_int s' j t) noFill_list_mul F.fills_int_mul F.slot_int_rmul repeat_list F.slot_int_index.lookup
        (call_meets F.slot_int_rmul (typeIs_int s j t) F.entry_int_rmul (F.args_int_rmul_2 _ _) (int___rmul___int_list j t l its.toArray n)
          ⟨e, rfl, ⟨_, e, rfl⟩, call_meets F.slot_list_mul ⟨_, e, rfl⟩ F.entry_list_mul (F.args_list_mul_2 _ _) (AutoListH.list___mul___list_int_3 l its.toArray n j t hfit hcap hlong) ⟨e, ?_⟩⟩)
      rw [hnew]
      exact zeu (t' := s.toks) I hO (r.rep j.toNat) (by rw [len_rep, Nat.mul_comm, ← rs.length]; exact c3) (rs.rep j.toNat) k
    · cases e1
  · rename_i ds j
    split at e
    · rename_i hj
      obtain ⟨es, e1, rfl⟩ := Option.map_eq_some_iff.mp e
      unfold repD at e1
      split at e1
      · rename_i hc
        obtain ⟨c1, c2, c3⟩ := hc
        cases e1
        obtain ⟨l, xs, rfl, sq, rs⟩ := bx.tup
        cases by'.int
        obtain rfl : v = Value.ref l := rx
        obtain ⟨t, rfl⟩ := ry
        obtain ⟨its, r, ht, hz⟩ := I.tuple sq
        obtain ⟨⟨cls, dd, data, sl⟩, ho, hcl, n, hd⟩ := id ht
        simp only at hcl hd
        subst hcl hd
        have hlen : its.toArray.size * j.toNat ≤ sizeLine := by rw [List.size_toArray, ← r.length, ← rs.length]; exact c3
        have h1 : (decide (j < -(2 ^ 63)) || decide (j ≥ 2 ^ 63)) = false := by simp; omega
        refine wpAny_binaryOp_repeat_ref (T := "tuple") (U := "int") (by decide) ⟨_, ho, rfl⟩ (fun s' => typeIs_int s' j t) yQ F.fills_int_mul F.slot_int_rmul zbu F.slot_int_index.lookup
          (call_meets F.slot_int_rmul (typeIs_int s j t) F.entry_int_rmul (F.args_int_rmul_2 _ _) (kr j t l its.toArray n dd sl) ⟨ho, rfl, ⟨_, ho, rfl⟩, ?_⟩)
        by_cases h2 : (its.toArray.isEmpty || j == 1) = true
        · refine call_meets F.slot_tuple_mul ⟨_, ho, rfl⟩ F.entry_tuple_mul (F.args_tuple_mul_2 _ _) (ky l its.toArray n dd sl j t h1 h2) ⟨ho, ?_⟩
          have eq : (List.replicate j.toNat ds).flatten = ds := by
            rcases Bool.or_eq_true_iff.mp h2 with q | q
            · have : its = [] := by simpa using q
              have : xs = [] := (r.nil_iff).mp this
              subst this
              cases rs
              simp
            · have : j = 1 := by simpa using q
              subst this
              simp
          rw [eq] at k
          exact ⟨.ref l, H, I, rfl, k _ H (Same.refl _) (wN bx)⟩
        · have h2 : (its.toArray.isEmpty || j == 1) = false := by simpa using h2
          have h2' := Bool.or_eq_false_iff.mp h2
          have ej : ((its.toArray.size : Nat) : Int) * j = ((its.toArray.size * j.toNat : Nat) : Int) := by
            rw [Int.natCast_mul, Int.toNat_of_nonneg (by omega)]
          refine call_meets F.slot_tuple_mul ⟨_, ho, rfl⟩ F.entry_tuple_mul (F.args_tuple_mul_2 _ _) (kq l its.toArray n dd sl j t h1 h2 ?_ ?_ ?_ ?_) ⟨ho, ?_⟩
          · rw [h2'.1, Bool.or_false]; exact decide_eq_false (by omega)
          · rw [ej]
            have : (sizeLine : Nat) ≤ (2 ^ 63 - 1) / 8 := by decide
            omega
          · unfold Builtin.Tuple.tupleTooMany
            rw [ej]
            exact decide_eq_false (by omega)
          · rw [zaK, List.size_toArray, len_rep, Nat.mul_comm]
            simpa using hlen
          · rw [zaK]
            exact zeU (t' := s.toks) I hO (r.rep j.toNat) (by rw [len_rep, Nat.mul_comm, ← rs.length]; exact c3) (rs.rep j.toNat) k
      · cases e1
    · cases e
  · cases e
end
end L2.Y
namespace L2.Y
open PySem PySem.Spec PyProof.Rows
theorem zh2 {A : Around} {k : Nat} (hr : Room k A) : A.units + 66 < cLine := by have := hr.un; omega
theorem qx {A : Around} {k : Nat} (hr : Room k A) : A.units + 64 < cLine := by have := hr.un; omega
theorem vp {A : Around} {k : Nat} (hr : Room k A) : A.units < cLine := by have := hr.un; omega
end L2.Y
namespace L2.Y
open PySem PySem.Spec PyProof.Rows
theorem zeK (kvs : List (Key × V)) (ds : List D) : tabK (.dict ((kvs.map fun p => keyD p.1).zip ds)) = some ((kvs.map fun p => keyD p.1).zip ds) := by
  cases kvs with
  | nil => rfl
  | cons p r =>
    obtain ⟨k, v⟩ := p
    cases ds with
    | nil => rfl
    | cons d ds => cases k <;> rfl
theorem zhs (kvs : List (Key × V)) (ds : List D) : tabT (.dict ((kvs.map fun p => keyD p.1).zip ds)) = none := by
  cases kvs with
  | nil => rfl
  | cons p r =>
    obtain ⟨k, v⟩ := p
    cases ds with
    | nil => rfl
    | cons d ds => cases k <;> rfl
theorem zeq {κ : Type} {f : κ → D} {K : Frag} {H : Hp} {kvs : List (κ × V)} {ds : List D} (r : Reps K H ds (kvs.map (·.2))) : ((kvs.map fun p => f p.1).zip ds).length = kvs.length := by
  have := r.length
  rw [List.length_map] at this
  rw [List.length_zip, List.length_map, this, Nat.min_self]
section
variable {K : Frag} {O : List Addr} {H : Hp} {d : D} {v : V} {p : Addr} {kds : List (D × D)}
theorem OwnAt.tabK (h : OwnAt K O H d p) (e : Y.tabK d = some kds) : ∃ kvs ds, H p = some (.dK kvs) ∧ Reps K (hide O H) ds (kvs.map (·.2)) ∧ kds = (kvs.map fun q => keyD q.1).zip ds := by
  cases h with
  | lst h r => cases e
  | dK h r =>
    rename_i kvs ds
    rw [zeK] at e
    exact ⟨kvs, ds, h, r, (Option.some.inj e).symm⟩
  | dT h r => cases e
theorem OwnAt.tabT (h : OwnAt K O H d p) (e : Y.tabT d = some kds) : ∃ kvs ds, H p = some (.dT kvs) ∧ Reps K (hide O H) ds (kvs.map (·.2)) ∧ kds = (kvs.map fun q => wX q.1).zip ds := by
  cases h with
  | lst h r => cases e
  | dK h r => rw [zhs] at e; cases e
  | dT h r => cases e; exact ⟨_, _, h, r, rfl⟩
theorem RepB.tabK (h : RepB K O H d v) (e : Y.tabK d = some kds) : ∃ a kvs ds, v = .ref a ∧ H a = some (.dK kvs) ∧ Reps K (hide O H) ds (kvs.map (·.2)) ∧ kds = (kvs.map fun q => keyD q.1).zip ds := by
  cases h with
  | val h =>
    cases h with
    | dK h r => rw [zeK] at e; exact ⟨_, _, _, rfl, (qc h).2, r, (Option.some.inj e).symm⟩
    | _ => cases e
  | own _ h =>
    obtain ⟨kvs, ds, h1, h2, h3⟩ := h.tabK e
    exact ⟨_, kvs, ds, rfl, h1, h2, h3⟩
theorem RepB.tabT (h : RepB K O H d v) (e : Y.tabT d = some kds) : ∃ a kvs ds, v = .ref a ∧ Rd H a (.dT kvs) ∧ Reps K (hide O H) ds (kvs.map (·.2)) ∧ kds = (kvs.map fun q => wX q.1).zip ds := by
  cases h with
  | val h =>
    cases h with
    | dK h r => rw [zhs] at e; cases e
    | dT h r => cases e; exact ⟨_, _, _, rfl, .inl (qc h).2, r, rfl⟩
    | dF h r => cases e; exact ⟨_, _, _, rfl, .inr ⟨_, (qc h).2⟩, r, rfl⟩
    | _ => cases e
  | own _ h =>
    obtain ⟨kvs, ds, h1, h2, h3⟩ := h.tabT e
    exact ⟨_, kvs, ds, rfl, .inl h1, h2, h3⟩
theorem Rep.keyV {k : Key} (h : Rep K H (keyD k) v) : v = kV k := by
  cases k with
  | inl i => cases h; rfl
  | inr x => cases h; rfl
theorem RepB.keyV {k : Key} (h : RepB K O H (keyD k) v) : v = kV k := by
  cases k with
  | inl i => exact RepB.int h
  | inr x => exact RepB.str h
theorem Reps.keysV : ∀ {ks : List Key} {vs : List V}, Reps K H (ks.map keyD) vs → vs = ks.map kV
  | [], _, h => by cases h; rfl
  | k :: ks, _, h => by
    cases h with
    | cons h r => rw [h.keyV, Reps.keysV r]; rfl
theorem RepB.tupH {ds : List D} (h : RepB K O H (.tuple ds) v) : ∃ a xs, v = .ref a ∧ H a = some (.tup xs) ∧ Reps K (hide O H) ds xs := by
  cases h with
  | val h =>
    cases h with
    | tup h r => exact ⟨_, _, rfl, (qc h).2, r⟩
  | own _ h => cases h
theorem RepB.keysV {ks : List Key} (h : RepB K O H (wX ks) v) : ∃ b, v = .ref b ∧ H b = some (.tup (ks.map kV)) := by
  obtain ⟨a, xs, e, h1, h2⟩ := RepB.tupH h
  rw [h2.keysV] at h1
  exact ⟨a, e, h1⟩
end
theorem zd1 {κ : Type} [DecidableEq κ] {f : κ → D} {K : Frag} {H : Hp} (hf : ∀ a b, PyData.eqv (f a) (f b) = decide (a = b)) (k : κ) {kvs : List (κ × V)} {ds : List D} (r : Reps K H ds (kvs.map (·.2))) :
    (valV kvs k).isSome = (yi ((kvs.map fun p => f p.1).zip ds) (f k)).isSome := by
  obtain ⟨h1, h2⟩ := zai hf k r
  cases e : yi ((kvs.map fun p => f p.1).zip ds) (f k) with
  | none => rw [h2 e]; rfl
  | some d => obtain ⟨v, hv, _⟩ := h1 d e; rw [hv]; rfl
section
variable {X : Cx}
theorem zcM (hu : X.A.units + 1 < cLine) : OpD X (compareOp .In) dinK := by
  intro pins s σ H O x y v u dx dy d Q I hO rx ry bx by' e k
  obtain ⟨kds, e1, e⟩ := Option.bind_eq_some_iff.mp e
  obtain ⟨key, e2, e⟩ := Option.bind_eq_some_iff.mp e
  cases e
  obtain ⟨a, kvs, ds, rfl, ha, rs, rfl⟩ := by'.tabK e1
  cases yf e2
  cases bx.keyV
  obtain rfl : u = Value.ref a := ry
  refine d_in hu I (DGet.k (k := key) ha) rx fun s' I' => ?_
  rw [zd1 zah key rs]
  exact qU I' k
theorem zgb {a b : Expr} {pos : Pos} {ga gb : Env' → Option D} (hu : X.A.units + 1 < cLine) (ha : PB X a ga) (hb : PB X b gb) (hs : NoSl b) : PD X (.Subscript a b pos) (g2 zgx ga gb) :=
  PE.imp (zix hu ha hb hs) fun σ H Q ⟨F, O, ρ, d, r, e, k⟩ => by
    obtain ⟨dx, dy, e1, e2, e3⟩ := yo e
    refine ⟨F, O, ρ, dx, r, e1, fun x H1 s1 b1 => ⟨F, O, ρ, dy, r.same s1, e2, fun y H2 s2 b2 => ?_⟩⟩
    obtain ⟨kds, e4, e⟩ := Option.bind_eq_some_iff.mp e3
    obtain ⟨key, e5, e⟩ := Option.bind_eq_some_iff.mp e
    obtain ⟨a, kvs, ds, rfl, ha, rs, rfl⟩ := (b1.same s2).tabT e4
    cases kF e5
    obtain ⟨b, rfl, hb⟩ := b2.keysV
    obtain ⟨v, hv, rv⟩ := (zai zbb key rs).1 d e
    exact ⟨a, v, rfl, .inr ⟨kvs, key, b, ha, rfl, hb, hv.symm⟩, k v H2 (s1.trans s2) rv⟩
theorem zbo {i : Nat} {ρ : Env'} {d : D} (h : ownD i ρ = some d) : ρ[i]? = some (some (.own d)) := by
  unfold ownD at h
  split at h
  · cases h; assumption
  · cases h
theorem zbD {i : Nat} {x : Str} {e ix : Expr} {p spos pos : Pos} {gk ge : Env' → Option D} (hu : X.A.units + 1 < cLine) (hv : PE X (.Name x p) (tVar i)) (hk : PD X ix gk) (he : PD X e ge)
    (hs : swapsWith e (some (.Subscript (.Name x p) ix spos)) pos.line X.env = pure false := by rfl) : PSd X (.Assign [.Subscript (.Name x p) ix spos] e pos) (zbH i gk ge) :=
  PS.imp (zfN hu hv hk he hs) fun D σ H ⟨F, O, ρ, out, r, e, k⟩ => by
    obtain ⟨d, e1, e⟩ := Option.bind_eq_some_iff.mp e
    obtain ⟨key, e2, e⟩ := Option.bind_eq_some_iff.mp e
    obtain ⟨dd, e3, e⟩ := Option.bind_eq_some_iff.mp e
    obtain ⟨kds, e4, e⟩ := Option.bind_eq_some_iff.mp e
    obtain ⟨kk, e5, e⟩ := Option.bind_eq_some_iff.mp e
    split at e
    · rename_i hl
      cases e
      have ho := zbo e3
      refine ⟨F, O, ρ, d, r, e1, fun v H1 s1 b1 => ?_⟩
      have r1 := r.same s1
      obtain ⟨q, g1, g2, g3, g4⟩ := r1.own i _ ho
      refine ⟨_, g1, F, O, ρ, key, r1, e2, fun y H2 s2 b2 => ?_⟩
      obtain ⟨kvs, ds, hq, rq, rfl⟩ := (g4.same s2).tabK e4
      cases yf e5
      cases b2.keyV
      obtain ⟨ds', e', rs'⟩ := zeX zah kk (b1.same (zZ s2)) rq
      refine ⟨q, _, rfl, DPut.k hq (by rw [zeq rq] at hl; exact hl), k O σ _ ((r1.same s2).mut ho g1 ?_)⟩
      rw [e']
      exact .dK zS (by rw [zX g2]; exact rs')
    · cases e
theorem za3 {i : Nat} {x : Str} {e ix : Expr} {p spos pos : Pos} {gk ge : Env' → Option D} (hu : X.A.units + 1 < cLine) (hv : PE X (.Name x p) (tVar i)) (hk : PD X ix gk) (he : PD X e ge)
    (hs : swapsWith e (some (.Subscript (.Name x p) ix spos)) pos.line X.env = pure false := by rfl) : PSd X (.Assign [.Subscript (.Name x p) ix spos] e pos) (zbj i gk ge) :=
  PS.imp (zfN hu hv hk he hs) fun D σ H ⟨F, O, ρ, out, r, e, k⟩ => by
    obtain ⟨d, e1, e⟩ := Option.bind_eq_some_iff.mp e
    obtain ⟨key, e2, e⟩ := Option.bind_eq_some_iff.mp e
    obtain ⟨dd, e3, e⟩ := Option.bind_eq_some_iff.mp e
    obtain ⟨kds, e4, e⟩ := Option.bind_eq_some_iff.mp e
    obtain ⟨kk, e5, e⟩ := Option.bind_eq_some_iff.mp e
    split at e
    · rename_i hl
      cases e
      have ho := zbo e3
      refine ⟨F, O, ρ, d, r, e1, fun v H1 s1 b1 => ?_⟩
      have r1 := r.same s1
      obtain ⟨q, g1, g2, g3, g4⟩ := r1.own i _ ho
      refine ⟨_, g1, F, O, ρ, key, r1, e2, fun y H2 s2 b2 => ?_⟩
      obtain ⟨kvs, ds, hq, rq, rfl⟩ := (g4.same s2).tabT e4
      cases kF e5
      obtain ⟨b, rfl, hb⟩ := (RepB.val b2).keysV
      obtain ⟨ds', e', rs'⟩ := zeX zbb kk (b1.same (zZ s2)) rq
      refine ⟨q, _, rfl, DPut.t hq hb (by rw [zeq rq] at hl; exact hl), k O σ _ ((r1.same s2).mut ho g1 ?_)⟩
      rw [e']
      exact .dT zS (by rw [zX g2]; exact rs')
    · cases e
theorem zfl {tg : Expr} {i : Nat} {dpos pos : Pos} (hg : PG X tg (zaq i)) (hs : swapsWithSole [tg] (.Dict [] [] dpos) pos.line X.env = pure false := by rfl) (hw : swappedStores [tg] (.Dict [] [] dpos) X.env = pure none := by rfl)
    (h1 : (assignEach [tg] X.env).map (·.2) = [assign tg X.env] := by rfl) : PSd X (.Assign [tg] (.Dict [] [] dpos) pos) (zhu i) := PS.imp (zbm zf3 hg hs hw h1) fun D σ H ⟨F, O, ρ, out, r, e, k⟩ => by
  cases e
  intro p hp
  exact k (p :: O) _ _ (r.newOwn hp (.dT (kvs := []) (ds := []) zS .nil))
theorem SR.hideNew {K : Frag} {F : Fx} {O : List Addr} {ρ : Env'} {σ : St} {H : Hp} {p : Addr} (r : SR K F O ρ σ H) (hp : H p = none) : SR K F (p :: O) ρ σ (upd H p (.dK [])) := by
  have q := r.newOwn (i := ρ.length) (d := .dict []) hp (.dK (kvs := []) (ds := []) zS .nil)
  rw [List.set_eq_of_length_le (Nat.le_refl _), List.set_eq_of_length_le (Nat.le_of_eq r.len)] at q
  exact q
theorem SR.adopt {K : Frag} {F : Fx} {O : List Addr} {ρ : Env'} {σ : St} {H : Hp} {p : Addr} {o : HO} {d : D} {i : Nat} (r : SR K F O ρ σ H) (hO : p ∈ O) (h0 : p ∉ F.Oc ∧ F.H0 p = none)
    (free : ∀ (j : Nat) d', ρ[j]? = some (some (.own d')) → σ[j]? ≠ some (some (.ref p))) (ho : OwnAt K O (upd H p o) d p) : SR K F O (ρ.set i (some (.own d))) (σ.set i (some (.ref p))) (upd H p o) := by
  have eh : hide O (upd H p o) = hide O H := zX hO
  refine ⟨fun b u e => ?_, by rw [eh]; exact r.vb, r.oc, fun q hq => ?_, by rw [List.length_set, List.length_set]; exact r.len, fun j d' e => ?_, fun j d' e => ?_, fun j k d1 d2 q e1 e2 f1 f2 => ?_⟩
  · rw [zv (zE e h0.2)]; exact r.hb _ _ e
  · by_cases e : q = p
    · subst e; exact ho.mut
    · rw [zv e]; exact r.dom q hq
  · rcases get_set e with ⟨rfl, e2, hl⟩ | ⟨ne, e2⟩
    · cases e2
    · rw [List.getElem?_set_ne ne, eh]; exact r.val j d' e2
  · rcases get_set e with ⟨rfl, e2, hl⟩ | ⟨ne, e2⟩
    · cases e2
      exact ⟨p, zco (by rw [r.len]; exact hl), hO, h0, ho⟩
    · obtain ⟨q, h1, h2, h3, h4⟩ := r.own j d' e2
      have hq : q ≠ p := fun z => free j d' e2 (z ▸ h1)
      refine ⟨q, by rw [List.getElem?_set_ne ne]; exact h1, h2, h3, ?_⟩
      cases h4 with
      | lst h r => exact .lst (by rw [zv hq]; exact h) (by rw [eh]; exact r)
      | dK h r => exact .dK (by rw [zv hq]; exact h) (by rw [eh]; exact r)
      | dT h r => exact .dT (by rw [zv hq]; exact h) (by rw [eh]; exact r)
  · rcases get_set e1 with ⟨rfl, _, _⟩ | ⟨ne1, e1⟩
    · rcases get_set e2 with ⟨rfl, _, _⟩ | ⟨ne2, e2⟩
      · rfl
      · rw [List.getElem?_set_ne ne2] at f2
        rcases get_set f1 with ⟨_, f1, _⟩ | ⟨z, _⟩
        · cases f1; exact absurd f2 (free k d2 e2)
        · exact absurd rfl z
    · rcases get_set e2 with ⟨rfl, _, _⟩ | ⟨ne2, e2⟩
      · rw [List.getElem?_set_ne ne1] at f1
        rcases get_set f2 with ⟨_, f2, _⟩ | ⟨z, _⟩
        · cases f2; exact absurd f1 (free j d1 e1)
        · exact absurd rfl z
      · rw [List.getElem?_set_ne ne1] at f1
        rw [List.getElem?_set_ne ne2] at f2
        exact r.sep j k d1 d2 q e1 e2 f1 f2
theorem zdB {tg ke ve : Expr} {i : Nat} {dpos pos : Pos} {gk ge : Env' → Option D} (hg : PG X tg (zaq i)) (hk : PD X ke gk) (he : PD X ve ge) (hs : swapsWithSole [tg] (.Dict [some ke] [ve] dpos) pos.line X.env = pure false := by rfl) (hw : swappedStores [tg] (.Dict [some ke] [ve] dpos) X.env = pure none := by rfl)
    (h1 : (assignEach [tg] X.env).map (·.2) = [assign tg X.env] := by rfl) : PSd X (.Assign [tg] (.Dict [some ke] [ve] dpos) pos) (zex i gk ge) :=
  PS.imp (zbm (zhZ (zf4 hk he zhU) rfl rfl (by simp) (by show 1 ≤ 15; decide)) hg hs hw h1) fun D σ H ⟨F, O, ρ, out, r, e, k⟩ => by
    obtain ⟨key, e1, e⟩ := Option.bind_eq_some_iff.mp e
    obtain ⟨d, e2, e⟩ := Option.bind_eq_some_iff.mp e
    obtain ⟨kk, e3, e⟩ := Option.bind_eq_some_iff.mp e
    cases e
    intro p hp
    have hpO : p ∉ O := r.fresh hp
    have r1 := SR.hideNew r hp
    refine ⟨F, p :: O, ρ, key, r1, e1, fun x H1 s1 b1 => ⟨F, p :: O, ρ, d, r1.same s1, e2, fun y H2 s2 b2 => ?_⟩⟩
    cases yf e3
    cases b1.keyV
    have s12 := s1.trans s2
    refine ⟨s12 _ _ zS, [(kk, y)], rfl, by show 1 ≤ 15; decide, ?_⟩
    refine k (p :: O) _ _ (SR.adopt (r1.same s12) List.mem_cons_self ⟨fun z => hpO (r.oc p z), r.hb.free hp⟩ (fun j d' ej z => ?_) ?_)
    · obtain ⟨q, h1, h2, _⟩ := r.own j d' ej
      rw [z] at h1; cases h1
      exact hpO h2
    · exact .dK (kvs := [(kk, y)]) (ds := [d]) zS (by rw [zX List.mem_cons_self]; exact .cons b2 .nil)
theorem RepB.scr {K : Frag} {O : List Addr} {H : Hp} {d : D} {v : V} {ds : List D} (h : RepB K O H d v) (e : scrQ d = some ds) : ∃ a xs, v = .ref a ∧ SqL K H a xs ∧ Reps K (hide O H) ds xs := by
  cases h with
  | val h =>
    cases h with
    | @dK a kvs es h r =>
      cases kvs with
      | nil => cases e
      | cons p r =>
        obtain ⟨k, w⟩ := p
        cases es with
        | nil => cases e
        | cons d es => cases k <;> cases e
    | dT h r => cases e
    | @scr a xs es h r =>
      have e' := (zfm es).symm.trans e
      cases e'
      exact ⟨_, _, rfl, SqL.same jY h, r⟩
    | _ => cases e
  | own _ h =>
    cases h with
    | lst h r => cases e
    | @dK p kvs es h r =>
      cases kvs with
      | nil => cases e
      | cons p r =>
        obtain ⟨k, w⟩ := p
        cases es with
        | nil => cases e
        | cons d es => cases k <;> cases e
    | dT h r => cases e
theorem zi2 {a b : Expr} {pos : Pos} {ga gb : Env' → Option D} (ha : PB X a ga) (hb : PB X b gb) (hs : zaO b) : PD X (.Subscript a b pos) (g2 ixS ga gb) :=
  PE.imp (zia ze8 ha hb hs) fun σ H Q ⟨F, O, ρ, d, r, e, k⟩ => by
    obtain ⟨dx, dy, e1, e2, e3⟩ := yo e
    obtain ⟨ds, e4, e5⟩ := Option.bind_eq_some_iff.mp e3
    refine ⟨F, O, ρ, dx, r, e1, fun x H1 s1 b1 => ⟨F, O, ρ, dy, r.same s1, e2, fun y H2 s2 b2 => ?_⟩⟩
    split at e5
    · rename_i i
      obtain ⟨p, xs, rfl, sq, rs⟩ := (b1.same s2).scr e4
      cases b2.int
      obtain ⟨v, h1, h2⟩ := wC rs e5
      exact ⟨p, xs, i, v, rfl, rfl, sq, h1, k v H2 (s1.trans s2) h2⟩
    · cases e5
theorem zdp : yj X (.builtin "len") lenS := by
  intro pins s σ H O xs us ds d Q I hO rv bs e k
  unfold lenS at e
  split at e
  · obtain ⟨es, e1, rfl⟩ := Option.map_eq_some_iff.mp e
    obtain ⟨v, rfl, b⟩ := bs.inv1
    obtain ⟨a, ys, rfl, sq, rs⟩ := b.scr e1
    exact xI pins s σ H _ us Q I rv ⟨a, ys, rfl, .inl sq, by rw [← rs.length]; exact k _ H (Same.refl _) (.int _)⟩
  · cases e
theorem zdI : yj X (.builtin "len") lenK := by
  intro pins s σ H O xs us ds d Q I hO rv bs e k
  unfold lenK at e
  split at e
  · obtain ⟨kds, e1, rfl⟩ := Option.map_eq_some_iff.mp e
    obtain ⟨v, rfl, b⟩ := bs.inv1
    obtain ⟨a, kvs, ds, rfl, ha, rs, rfl⟩ := b.tabK e1
    exact zfe pins s σ H _ us Q I rv ⟨a, kvs, rfl, ha, by rw [zeq rs] at k; exact k _ H (Same.refl _) (.int _)⟩
  · cases e
end
end L2.Y
namespace L2.Y
open PySem PySem.Spec PyProof.Rows PySem.W
noncomputable def qe {α : Type} (lt : Nat → Nat → Bool) : KasT α → α
  | .ret a => a
  | .ask i j k => qe lt (k (lt i j))
theorem ql {α β : Type} {lt : Nat → Nat → Bool} {f : α → KasT β} : ∀ t : KasT α, qe lt (t.bind f) = qe lt (f (qe lt t))
  | .ret _ => rfl
  | .ask i j k => ql (k (lt i j))
section
variable {O : KeyOrd} (key : Nat → O.α)
noncomputable def kLt (i j : Nat) : Bool := O.blt (key i) (key j)
noncomputable def kk (p : Array Nat) (i : Nat) : O.α := key (p.getD i 0)
noncomputable def SoT (p : Array Nat) (n : Nat) : Prop := ∀ i j, i ≤ j → j < n → O.kle (kk key p i) (kk key p j)
noncomputable def NiT (p : Array Nat) (n : Nat) : Prop := ∀ i j, i ≤ j → j < n → O.kle (kk key p j) (kk key p i)
variable {key}
theorem zeI {p q : Array Nat} {i j : Nat} (h : p[i]? = q[j]?) : kk key p i = kk key q j := by
  unfold kk
  rw [Array.getD_eq_getD_getElem?, Array.getD_eq_getD_getElem?, h]
theorem zbv {p : Array Nat} {src d : Nat} (hs : src < p.size) (hd : d ≤ src) (k : Nat) :
    kk key (bubble p src d) k = if k = src - d then kk key p src else if src - d < k ∧ k ≤ src then kk key p (k - 1) else kk key p k := by
  have e := getElem?_bubble hs d hd k
  by_cases h1 : k = src - d
  · rw [if_pos h1] at e ⊢; exact zeI e
  · rw [if_neg h1] at e ⊢
    by_cases h2 : src - d < k ∧ k ≤ src
    · rw [if_pos h2] at e ⊢; exact zeI e
    · rw [if_neg h2] at e ⊢; exact zeI e
theorem zdZ {p : Array Nat} {i j : Nat} (hj : j ≤ p.size) (k : Nat) : kk key (kas_rev p i j) k = if i ≤ k ∧ k < j then kk key p (i + j - 1 - k) else kk key p k := by
  have e := getElem?_mirror_all (i := i) hj k
  by_cases h1 : i ≤ k ∧ k < j
  · rw [if_pos h1] at e ⊢; exact zeI e
  · rw [if_neg h1] at e ⊢; exact zeI e
theorem xJ {p : Array Nat} {i j : Nat} (hj : j ≤ p.size) (heq : ∀ k, i ≤ k → k < j → kk key p k = kk key p (j - 1)) (k : Nat) : kk key (kas_rev p i j) k = kk key p k := by
  rw [zdZ hj]
  split
  · rw [heq _ (by omega) (by omega), heq k (by omega) (by omega)]
  · rfl
theorem qz (p : Array Nat) (i j : Nat) : (kas_rev p i j).Perm p := mirror_perm _ _ _ _
theorem vc (p : Array Nat) (i j : Nat) : (kas_rev p i j).size = p.size := mirror_size _ _ _ _
theorem zfG {p : Array Nat} : ∀ (f n : Nat), 1 ≤ n → n + f ≤ p.size → SoT key p n → ∃ m, qe (kLt key) (kas_asc p f n) = m ∧ n ≤ m ∧ m ≤ n + f ∧ SoT key p m ∧ (m = n + f ∨ O.klt (kk key p m) (kk key p (m - 1)))
  | 0, n, h1, hz, hs => ⟨n, rfl, Nat.le_refl _, Nat.le_refl _, hs, .inl rfl⟩
  | f + 1, n, h1, hz, hs => by
    show ∃ m, qe (kLt key) (if kLt key (p.getD n 0) (p.getD (n - 1) 0) = true then .ret n else kas_asc p f (n + 1)) = m ∧ _
    cases hless : kLt key (p.getD n 0) (p.getD (n - 1) 0) with
    | true =>
      rw [if_pos rfl]
      exact ⟨n, rfl, Nat.le_refl _, by omega, hs, .inr hless⟩
    | false =>
      rw [if_neg (by simp)]
      obtain ⟨m, e, a1, a2, a3, a4⟩ := zfG (p := p) f (n + 1) (by omega) (by omega) (fun i j hij hj => by
        by_cases hjx : j < n
        · exact hs i j hij hjx
        · have hj' : j = n := by omega
          subst hj'
          by_cases hi' : i = j
          · subst hi'; exact KeyOrd.kle_refl _
          · exact KeyOrd.kle_trans (hs i (j - 1) (by omega) (by omega)) hless)
      exact ⟨m, e, by omega, by omega, a3, a4.imp (fun z => by omega) id⟩
theorem zc1 {p : Array Nat} {n nrem : Nat} (h1 : 1 ≤ n) (hn : n ≤ nrem) (hz : nrem ≤ p.size) (hs : NiT key p n) : ∃ m q, qe (kLt key) (kas_tail3 n nrem p) = (m, q) ∧ 1 ≤ m ∧ m ≤ nrem ∧ q.Perm p ∧ SoT key q m := by
  unfold kas_tail3
  rw [ql]
  have hsz : n ≤ p.size := by omega
  obtain ⟨m, e, a1, a2, a3, _⟩ := zfG (key := key) (p := kas_rev p 0 n) (nrem - n) n h1 (by rw [vc]; omega) (fun i j hij hj => by
    rw [zdZ hsz, zdZ hsz, if_pos (by omega), if_pos (by omega)]
    exact hs _ _ (by omega) (by omega))
  rw [e]
  exact ⟨m, _, rfl, by omega, by omega, qz _ _ _, a3⟩
theorem zaG : ∀ (f : Nat) (p : Array Nat) (n q : Nat), 1 ≤ n → n + f ≤ p.size → NiT key p n → q + 1 ≤ n → (∀ i, n - (q + 1) ≤ i → i < n → kk key p i = kk key p (n - 1)) →
    ∃ p' m q', qe (kLt key) (kas_desc f p n q) = (p', m, q') ∧ p'.Perm p ∧ n ≤ m ∧ m ≤ n + f ∧ NiT key p' m ∧ q' + 1 ≤ m ∧ (∀ i, m - (q' + 1) ≤ i → i < m → kk key p' i = kk key p' (m - 1))
  | 0, p, n, q, h1, hz, hs, hq, he => ⟨p, n, q, rfl, .refl _, Nat.le_refl _, Nat.le_refl _, hs, hq, he⟩
  | f + 1, p, n, q, h1, hz, hs, hq, he => by
    show ∃ p' m q', qe (kLt key) (if kLt key (p.getD n 0) (p.getD (n - 1) 0) = true then (if q > 0 then kas_desc f (kas_rev p (n - (q + 1)) n) (n + 1) 0 else kas_desc f p (n + 1) 0)
      else .ask (p.getD (n - 1) 0) (p.getD n 0) fun d => if d = true then .ret (p, n, q) else kas_desc f p (n + 1) (q + 1)) = (p', m, q') ∧ _
    have hsz : n ≤ p.size := by omega
    cases hless : kLt key (p.getD n 0) (p.getD (n - 1) 0) with
    | true =>
      rw [if_pos rfl]
      have step1 : ∀ xs : Array Nat, (∀ k, kk key xs k = kk key p k) → NiT key xs (n + 1) := by
        intro xs hk i j hij hj
        rw [hk, hk]
        by_cases hjx : j < n
        · exact hs i j hij hjx
        · have hj' : j = n := by omega
          subst hj'
          by_cases hi' : i = j
          · subst hi'; exact KeyOrd.kle_refl _
          · exact KeyOrd.kle_trans (KeyOrd.kle_of_klt hless) (hs i (j - 1) (by omega) (by omega))
      by_cases hneq : q > 0
      · rw [if_pos hneq]
        obtain ⟨p', m, q', e, b1, b2, b3, b4, b5, b6⟩ := zaG f (kas_rev p (n - (q + 1)) n) (n + 1) 0 (by omega) (by rw [vc]; omega) (step1 _ (xJ hsz he)) (by omega) (fun i h1 h2 => by congr 1; omega)
        exact ⟨p', m, q', e, b1.trans (qz _ _ _), by omega, by omega, b4, b5, b6⟩
      · rw [if_neg hneq]
        obtain ⟨p', m, q', e, b1, b2, b3, b4, b5, b6⟩ := zaG f p (n + 1) 0 (by omega) (by omega) (step1 _ (fun _ => rfl)) (by omega) (fun i h1 h2 => by congr 1; omega)
        exact ⟨p', m, q', e, b1, by omega, by omega, b4, b5, b6⟩
    | false =>
      rw [if_neg (by simp)]
      show ∃ p' m q', qe (kLt key) (if kLt key (p.getD (n - 1) 0) (p.getD n 0) = true then .ret (p, n, q) else kas_desc f p (n + 1) (q + 1)) = (p', m, q') ∧ _
      cases hlarger : kLt key (p.getD (n - 1) 0) (p.getD n 0) with
      | true =>
        rw [if_pos rfl]
        exact ⟨p, n, q, rfl, .refl _, Nat.le_refl _, by omega, hs, hq, he⟩
      | false =>
        rw [if_neg (by simp)]
        have heqx : kk key p n = kk key p (n - 1) := KeyOrd.kle_antisymm hlarger hless
        obtain ⟨p', m, q', e, b1, b2, b3, b4, b5, b6⟩ := zaG f p (n + 1) (q + 1) (by omega) (by omega) (fun i j hij hj => by
            by_cases hjx : j < n
            · exact hs i j hij hjx
            · have hj' : j = n := by omega
              subst hj'
              by_cases hi' : i = j
              · subst hi'; exact KeyOrd.kle_refl _
              · rw [heqx]; exact hs i (j - 1) (by omega) (by omega)) (by omega) (fun i h1 h2 => by
          rw [show n + 1 - 1 = n by omega]
          by_cases hix : i = n
          · subst hix; rfl
          · rw [heqx]; exact he i (by omega) (by omega))
        exact ⟨p', m, q', e, b1, by omega, by omega, b4, b5, b6⟩
theorem vN {p : Array Nat} {n nrem : Nat} (hn : n + 1 ≤ nrem) (hz : nrem ≤ p.size) (hs : NiT key p (n + 1)) : ∃ m q, qe (kLt key) (kas_descPart n nrem p) = (m, q) ∧ 1 ≤ m ∧ m ≤ nrem ∧ q.Perm p ∧ SoT key q m := by
  unfold kas_descPart
  rw [ql]
  obtain ⟨p', m, q', e, b1, b2, b3, b4, b5, b6⟩ := zaG (nrem - (n + 1)) p (n + 1) 0 (by omega) (by omega) hs (by omega) (fun i h1 h2 => by congr 1; omega)
  rw [e]
  have hpz : p'.size = p.size := b1.size_eq
  have hsz : m ≤ p'.size := by omega
  show ∃ m' q, qe (kLt key) (if q' > 0 then kas_tail3 m nrem (kas_rev p' (m - (q' + 1)) m) else kas_tail3 m nrem p') = (m', q) ∧ _
  by_cases hq : q' > 0
  · rw [if_pos hq]
    obtain ⟨m', q2, e2, c1, c2, c3, c4⟩ := zc1 (key := key) (p := kas_rev p' (m - (q' + 1)) m) (n := m) (nrem := nrem) (by omega) (by omega) (by rw [vc]; omega) (fun i j hij hj => by
      rw [xJ hsz b6, xJ hsz b6]
      exact b4 i j hij hj)
    exact ⟨m', q2, e2, c1, c2, c3.trans ((qz _ _ _).trans b1), c4⟩
  · rw [if_neg hq]
    obtain ⟨m', q2, e2, c1, c2, c3, c4⟩ := zc1 (key := key) (p := p') (n := m) (nrem := nrem) (by omega) (by omega) (by omega) b4
    exact ⟨m', q2, e2, c1, c2, c3.trans b1, c4⟩
theorem zgl {p : Array Nat} {nrem : Nat} (h1 : 1 ≤ nrem) (hz : nrem ≤ p.size) : ∃ m q, qe (kLt key) (kas_count nrem p) = (m, q) ∧ 1 ≤ m ∧ m ≤ nrem ∧ q.Perm p ∧ SoT key q m := by
  unfold kas_count
  rw [ql]
  obtain ⟨n, e, a1, a2, a3, a4⟩ := zfG (key := key) (p := p) (nrem - 1) 1 (Nat.le_refl _) (by omega) (fun i j hij hj => by have : i = j := (by omega); subst this; exact KeyOrd.kle_refl _)
  rw [e]
  by_cases hnn : n = nrem
  · rw [if_pos (by simpa using hnn)]
    exact ⟨n, p, rfl, a1, by omega, .refl _, a3⟩
  · rw [if_neg (by simpa using hnn)]
    have hlt : O.klt (kk key p n) (kk key p (n - 1)) := a4.resolve_left (by omega)
    by_cases hgt : n > 1
    · rw [if_pos hgt]
      show ∃ m q, qe (kLt key) (if kLt key (p.getD 0 0) (p.getD (n - 1) 0) = true then .ret (n, p) else kas_descPart n nrem (kas_rev p 0 n)) = (m, q) ∧ _
      cases hrose : kLt key (p.getD 0 0) (p.getD (n - 1) 0) with
      | true =>
        rw [if_pos rfl]
        exact ⟨n, p, rfl, a1, by omega, .refl _, a3⟩
      | false =>
        rw [if_neg (by simp)]
        have hsz : n ≤ p.size := by omega
        have hall : ∀ k, 0 ≤ k → k < n → kk key p k = kk key p (n - 1) := by
          intro k _ hk
          have a1 := a3 0 k (by omega) hk
          have a2 := a3 k (n - 1) (by omega) (by omega)
          exact KeyOrd.kle_antisymm a2 (KeyOrd.kle_trans hrose a1)
        obtain ⟨m', q2, e2, c1, c2, c3, c4⟩ := vN (key := key) (p := kas_rev p 0 n) (n := n) (nrem := nrem) (by omega) (by rw [vc]; omega) (fun i j hij hj => by
          rw [xJ hsz hall, xJ hsz hall]
          by_cases hjn : j < n
          · rw [hall i (by omega) (by omega), hall j (by omega) hjn]; exact KeyOrd.kle_refl _
          · have hj' : j = n := by omega
            subst hj'
            by_cases hi' : i = j
            · subst hi'; exact KeyOrd.kle_refl _
            · rw [hall i (by omega) (by omega)]; exact KeyOrd.kle_of_klt hlt)
        exact ⟨m', q2, e2, c1, c2, c3.trans (qz _ _ _), c4⟩
    · rw [if_neg hgt]
      have hn1' : n = 1 := by omega
      subst hn1'
      refine vN (by omega) (by omega) ?_
      intro i j hij hj
      by_cases hi' : i = j
      · subst hi'; exact KeyOrd.kle_refl _
      · have hi0 : i = 0 := by omega
        have hj1 : j = 1 := by omega
        subst hi0; subst hj1
        exact KeyOrd.kle_of_klt hlt
theorem zaL {p : Array Nat} {k : Nat} (hk : k < p.size) (hs : SoT key p k) : ∀ (f l r : Nat), l ≤ r → r ≤ k → r - l ≤ f → (∀ i, i < l → O.kle (kk key p i) (kk key p k)) → (∀ i, r ≤ i → i < k → O.klt (kk key p k) (kk key p i)) →
    ∃ m, qe (kLt key) (kas_place p k f l r) = m ∧ m ≤ k ∧ (∀ i, i < m → O.kle (kk key p i) (kk key p k)) ∧ (∀ i, m ≤ i → i < k → O.klt (kk key p k) (kk key p i))
  | 0, l, r, hlr, hrk, hf, hlo, hhi => ⟨l, rfl, by omega, hlo, fun i h1 h2 => hhi i (by omega) h2⟩
  | f + 1, l, r, hlr, hrk, hf, hlo, hhi => by
    unfold kas_place
    by_cases hge : l ≥ r
    · rw [if_pos hge]
      exact ⟨l, rfl, by omega, hlo, fun i h1 h2 => hhi i (by omega) h2⟩
    · rw [if_neg hge]
      show ∃ m, qe (kLt key) (if kLt key (p.getD k 0) (p.getD ((l + r) / 2) 0) = true then kas_place p k f l ((l + r) / 2) else kas_place p k f ((l + r) / 2 + 1) r) = m ∧ _
      cases hless : kLt key (p.getD k 0) (p.getD ((l + r) / 2) 0) with
      | true =>
        rw [if_pos rfl]
        exact zaL hk hs f l ((l + r) / 2) (by omega) (by omega) (by omega) hlo fun i h1 h2 => KeyOrd.klt_of_klt_of_kle hless (hs _ _ h1 h2)
      | false =>
        rw [if_neg (by simp)]
        exact zaL hk hs f ((l + r) / 2 + 1) r (by omega) (by omega) (by omega) (fun i h1 => KeyOrd.kle_trans (hs i ((l + r) / 2) (by omega) (by omega)) (show O.kle _ _ from hless)) hhi
theorem zhq : ∀ (f : Nat) (p : Array Nat) (k : Nat), k + f ≤ p.size → SoT key p k → ∃ q, qe (kLt key) (kas_bin f p k) = q ∧ q.Perm p ∧ SoT key q (k + f)
  | 0, p, k, _, hs => ⟨p, rfl, .refl _, hs⟩
  | f + 1, p, k, hz, hs => by
    unfold kas_bin
    rw [ql]
    have hk : k < p.size := by omega
    obtain ⟨m, e, a1, a2, a3⟩ := zaL hk hs k 0 k (by omega) (by omega) (by omega) (fun i hi => by omega) (fun i h1 h2 => by omega)
    rw [e]
    obtain ⟨q, e2, b1, b2⟩ := zhq f (bubble p k (k - m)) (k + 1) (by rw [bubble_size]; omega) (fun i j hij hj => by
      rw [zbv hk (by omega), zbv hk (by omega), show k - (k - m) = m by omega]
      repeat' split
      all_goals first
        | (exfalso; omega)
        | exact KeyOrd.kle_refl _
        | exact a2 _ (by omega)
        | exact KeyOrd.kle_of_klt (a3 _ (by omega) (by omega))
        | exact hs _ _ (by omega) (by omega))
    exact ⟨q, e2, b1.trans (bubble_perm _ _ _), by rw [show k + (f + 1) = k + 1 + f by omega]; exact b2⟩
theorem zif {n : Nat} (h1 : 1 ≤ n) : ∃ q, qe (kLt key) (kas_sort n) = q ∧ q.toList.Perm (List.range n) ∧ SoT key q n := by
  unfold kas_sort
  rw [ql]
  obtain ⟨m, q, e, a1, a2, a3, a4⟩ := zgl (key := key) (p := List.toArray (List.range n)) (nrem := n) h1 (by simp)
  rw [e]
  have hq : q.size = n := by rw [a3.size_eq]; simp
  have pl : ∀ {x : Array Nat}, x.Perm (List.toArray (List.range n)) → x.toList.Perm (List.range n) := fun h => Array.perm_iff_toList_perm.mp h
  by_cases hm : m < n
  · rw [if_pos hm]
    obtain ⟨q2, e2, b1, b2⟩ := zhq (n - max m 1) q (max m 1) (by omega) (by rw [show max m 1 = m by omega]; exact a4)
    exact ⟨q2, e2, pl (b1.trans a3), by rw [show max m 1 + (n - max m 1) = n by omega] at b2; exact b2⟩
  · rw [if_neg hm]
    have : m = n := by omega
    subst this
    exact ⟨q, rfl, pl a3, a4⟩
end
noncomputable def KIn {α : Type} (n : Nat) (P : α → Prop) : KasT α → Prop
  | .ret a => P a
  | .ask i j k => i < n ∧ j < n ∧ ∀ b, KIn n P (k b)
theorem KIn.bind {α β : Type} {n : Nat} {P : α → Prop} {R : β → Prop} {f : α → KasT β} (hf : ∀ a, P a → KIn n R (f a)) : ∀ {t : KasT α}, KIn n P t → KIn n R (t.bind f)
  | .ret a, h => hf a h
  | .ask _ _ _, h => ⟨h.1, h.2.1, fun b => KIn.bind hf (h.2.2 b)⟩
noncomputable def Lo (n : Nat) (p : Array Nat) : Prop := ∀ k, p.getD k 0 < n
theorem zjo {n : Nat} {p : Array Nat} (h0 : 0 < n) (h : ∀ x ∈ p.toList, x < n) : Lo n p := fun k => by
  rw [Array.getD_eq_getD_getElem?]
  by_cases hk : k < p.size
  · rw [Array.getElem?_eq_getElem hk]; exact h _ (by simp)
  · rw [Array.getElem?_eq_none (by omega)]; exact h0
theorem Lo.perm {n : Nat} {p q : Array Nat} (h0 : 0 < n) (h : Lo n p) (hp : q.Perm p) : Lo n q := zjo h0 fun x hx => by
  have hx' : x ∈ p.toList := (Array.perm_iff_toList_perm.mp hp).mem_iff.mp hx
  obtain ⟨i, hi, e⟩ := List.getElem_of_mem hx'
  have := h i
  rw [Array.getD_eq_getD_getElem?, Array.getElem?_eq_getElem (by simpa using hi)] at this
  rw [← e]; simpa using this
theorem zez {n : Nat} {p : Array Nat} (h : Lo n p) : ∀ f k, KIn n (fun _ => True) (kas_asc p f k)
  | 0, _ => trivial
  | f + 1, k => ⟨h _, h _, fun b => by
    cases b with
    | true => simp only [if_true]; exact trivial
    | false => simp only [Bool.false_eq_true, if_false]; exact zez h f (k + 1)⟩
theorem zaB {n : Nat} (h0 : 0 < n) : ∀ (f : Nat) (p : Array Nat) (k q : Nat), Lo n p → KIn n (fun r : Array Nat × Nat × Nat => Lo n r.1) (kas_desc f p k q)
  | 0, _, _, _, h => h
  | f + 1, p, k, q, h => ⟨h _, h _, fun b => by
    cases b with
    | true =>
      simp only [if_true]
      split
      · exact zaB h0 f _ _ _ (h.perm h0 (qz _ _ _))
      · exact zaB h0 f _ _ _ h
    | false =>
      simp only [Bool.false_eq_true, if_false]
      refine ⟨h _, h _, fun d => ?_⟩
      cases d with
      | true => simp only [if_true]; exact h
      | false => simp only [Bool.false_eq_true, if_false]; exact zaB h0 f _ _ _ h⟩
theorem zdl {n k r : Nat} {p : Array Nat} (h0 : 0 < n) (h : Lo n p) : KIn n (fun r : Nat × Array Nat => Lo n r.2) (kas_tail3 k r p) := by
  unfold kas_tail3
  refine KIn.bind (P := fun _ => True) (fun a _ => ?_) (zez (h.perm h0 (qz _ _ _)) _ _)
  exact h.perm h0 (qz p 0 k)
theorem vR {n k r : Nat} {p : Array Nat} (h0 : 0 < n) (h : Lo n p) : KIn n (fun r : Nat × Array Nat => Lo n r.2) (kas_descPart k r p) :=
  (zaB h0 _ p _ _ h).bind fun a ha => by
    split
    · exact zdl h0 (ha.perm h0 (qz _ _ _))
    · exact zdl h0 ha
theorem zgu {n r : Nat} {p : Array Nat} (h0 : 0 < n) (h : Lo n p) : KIn n (fun r : Nat × Array Nat => Lo n r.2) (kas_count r p) :=
  (zez h _ _).bind fun a _ => by
    split
    · exact h
    · split
      · refine ⟨h _, h _, fun b => ?_⟩
        cases b with
        | true => simp only [if_true]; exact h
        | false => simp only [Bool.false_eq_true, if_false]; exact vR h0 (h.perm h0 (qz _ _ _))
      · exact vR h0 h
theorem zaM {n : Nat} {p : Array Nat} {k : Nat} (h : Lo n p) : ∀ f l r, KIn n (fun _ => True) (kas_place p k f l r)
  | 0, _, _ => trivial
  | f + 1, l, r => by
    unfold kas_place
    split
    · exact trivial
    · refine ⟨h _, h _, fun b => ?_⟩
      cases b with
      | true => simp only [if_true]; exact zaM h f _ _
      | false => simp only [Bool.false_eq_true, if_false]; exact zaM h f _ _
theorem zhp {n : Nat} (h0 : 0 < n) : ∀ (f : Nat) (p : Array Nat) (k : Nat), Lo n p → KIn n (fun _ => True) (kas_bin f p k)
  | 0, _, _, _ => trivial
  | f + 1, p, k, h => (zaM h _ _ _).bind fun a _ => zhp h0 f _ _ (h.perm h0 (bubble_perm _ _ _))
theorem zhw {n : Nat} (h0 : 0 < n) : KIn n (fun _ => True) (kas_sort n) :=
  (zgu h0 (zjo h0 fun x hx => List.mem_range.mp (by simpa using hx))).bind fun a ha => by
    split
    · exact zhp h0 _ _ _ ha
    · exact trivial
theorem zcK {α : Type} {n : Nat} {cmp : Nat → Nat → (Bool → Shared → Prop) → Shared → Prop} {lt : Nat → Nat → Bool} {s : Shared} {P : α → Prop} (h : ∀ i j (C : Bool → Shared → Prop), i < n → j < n → C (lt i j) s → cmp i j C s) :
    ∀ (t : KasT α) (Q : α → Shared → Prop), KIn n P t → Q (qe lt t) s → t.kasWp cmp Q s
  | .ret _, _, _, q => q
  | .ask i j k, Q, hi, q => h i j _ hi.1 hi.2.1 (zcK h (k (lt i j)) Q (hi.2.2 _) q)
theorem range_getD {α : Type} (l : List α) (d : α) : (List.range l.length).map (fun i => l.getD i d) = l := by
  apply List.ext_getElem
  · simp
  · intro i h1 h2; simp [h2]
section
variable {prog : Program} {w : World} {A : Around} {E : Value → Shared → Prop} {s : Shared}
theorem zgA {b fin : Bool} {Q : Bool → Shared → Prop} : ∀ {us vs : List Value} {is js : List Int} (i : Nat), IntsAre us is → IntsAre vs js → fin = decide (us.length < vs.length) → Q (HT.lexLt is js) s → KatLex prog w A b fin Q (us.zip vs) i s := by
  intro us vs is js i hu
  induction hu generalizing vs js i with
  | nil =>
    intro hv hf h
    cases hv with
    | nil => subst hf; exact kat_nil h
    | cons c u hv => subst hf; exact kat_nil h
  | cons a t hu ih =>
    intro hv hf h
    cases hv with
    | nil => subst hf; exact kat_nil h
    | cons c u hv =>
      rw [HT.lexLt_cons] at h
      rw [List.zip_cons_cons]
      refine kat_cons (wpAny_eqBool_int (kat_go (fun e => kat_yes ?_) fun e => kat_no ?_))
      · rw [if_pos (eq_of_beq e)] at h
        exact ih (i + 1) hv (by rw [hf]; simp) h
      · have ne : ¬ a = c := fun z => by subst z; simp at e
        rw [if_neg ne] at h
        cases hb : (b && i == 0) with
        | true => exact oneLt_int h
        | false => exact kat_one _ _ (lt_int h)
noncomputable def TupI (h : Heap) (v : Value) (is : List Int) : Prop := ∃ b o xs m, v = .ref b ∧ h.get? b = some o ∧ o.cls = .type "tuple" ∧ o.data = .seq xs m ∧ IntsAre xs.toList is ∧ is ≠ []
theorem TupI.lt {b : Bool} {u v : Value} {is js : List Int} {Q : Bool → Shared → Prop} (h1 : TupI s.heap u is) (h2 : TupI s.heap v js) (h : Q (HT.lexLt is js) s) : wpAny (model prog w) A (keyLt' (tuples' b) u v) Q E s := by
  obtain ⟨x, ox, xs, n, rfl, g1, c1, d1, i1, _⟩ := h1
  obtain ⟨y, oy, ys, m, rfl, g2, c2, d2, i2, _⟩ := h2
  exact kat_lt g1 d1 g2 d2 (zgA 0 i1 i2 (by simp) h)
theorem TupI.keeps {h h' : Heap} {v : Value} {is : List Int} {a : Addr} (x : TupI h v is) (k : ∀ b o, b ≠ a → h.get? b = some o → h'.get? b = some o) (hv : v ≠ .ref a) : TupI h' v is := by
  obtain ⟨b, o, xs, n, rfl, g, r⟩ := x
  exact ⟨b, o, xs, n, rfl, k b o (fun z => hv (by rw [z])) g, r⟩
theorem zfk {h : Heap} : ∀ {vs : List Value} {ks : List (List Int)}, vs.length = ks.length → (∀ (i : Nat) v k, vs[i]? = some v → ks[i]? = some k → TupI h v k) → ∃ fs, KatTups h vs fs ∧ fs.length = vs.length ∧ ∀ f ∈ fs, ∃ z t, f = .int z t
  | [], [], _, _ => ⟨[], trivial, rfl, fun _ h => by simp at h⟩
  | [], _ :: _, hl, _ => by simp at hl
  | _ :: _, [], hl, _ => by simp at hl
  | v :: vs, k :: ks, hl, hk => by
    obtain ⟨fs, t, l, q⟩ := zfk (vs := vs) (ks := ks) (by simpa using hl) (fun i u c h1 h2 => hk (i + 1) u c (by simpa using h1) (by simpa using h2))
    obtain ⟨b, o, xs, n, rfl, g, c, d, hi, hn⟩ := hk 0 v k rfl rfl
    have hx : ∃ z t, xs[0]? = some (.int z t) := by
      rw [← Array.getElem?_toList]
      generalize xs.toList = zs at hi
      cases hi with
      | nil => exact absurd rfl hn
      | cons z t r => exact ⟨z, t, rfl⟩
    obtain ⟨z, t', hz⟩ := hx
    exact ⟨.int z t' :: fs, .cons g c d hz t, by simp [l], fun f hf => by
      rcases List.mem_cons.mp hf with e | e
      · exact ⟨z, t', e⟩
      · exact q f e⟩
theorem zga {M : Model} {h : Heap} (z : Int) (t : Tok) : Looks M h (typeOf (.int z t)) (.type "int") := fun _ _ _ _ _ q => wpAny_pure q
noncomputable def xG (ks : List (List Int)) (i : Nat) : List Int := ks.getD i []
theorem zav {a : Addr} {vs : List Value} {ks : List (List Int)} {n : Nat} {P : PySem.Fin → Shared → Prop} (ho : s.heap.get? a = some (seqObj "list" vs.toArray n)) (hl : vs.length = ks.length) (hk : ∀ (i : Nat) v k, vs[i]? = some v → ks[i]? = some k → TupI s.heap v k) (ha : ∀ v ∈ vs, v ≠ .ref a) (h64 : vs.length < 64)
    (h : ∀ p : List Nat, p.Perm (List.range vs.length) → (p.map (xG ks)).Pairwise LeL → P (.done (.ret .none)) { s with heap := sortedHeap s.heap a vs (p.map fun i => vs.getD i Value.none).toArray }) :
    wpAny (model prog w) A (Builtin.«list.sort» ⟨[.ref a], []⟩) P E s := by
  have lta : a < s.heap.objs.size := Heap.lt_size ho
  have fit : vs.toArray.size ≤ sizeLine := by rw [List.size_toArray, sizeLine_eq]; omega
  rw [list_sort_plain]
  refine wpAny_bind (listItems_at ho rfl (wpAny_bind (listUpdate_at ho rfl ?_ fit (Nat.zero_le _))))
  obtain ⟨e1, ho1⟩ : ∃ e1, (s.heap.update a (Obj.mapSeq fun _ => (#[] : Array Value))).get? a = some (seqObj "list" #[] e1) := ⟨_, get?_update_seq ho (fun _ => #[])⟩
  refine wpAny_bind (seqEpoch_at ho1 rfl (wpAny_bind (wpAny_newTuple ?_ fit)))
  refine wpAny_bind (wpAny_newList ?_ (Nat.zero_le _))
  refine wpAny_holding ?_
  have keep : ∀ b o, b ≠ a → s.heap.get? b = some o → (((s.heap.update a (Obj.mapSeq fun _ => (#[] : Array Value))).push (seqObj "tuple" vs.toArray 0)).push (seqObj "list" #[] 0)).get? b = some o := fun b o hb e =>
    Heap.get?_push_of_some _ (Heap.get?_push_of_some _ (by rw [Heap.get?_update_ne _ _ _ _ hb]; exact e))
  have ho6 : (((s.heap.update a (Obj.mapSeq fun _ => (#[] : Array Value))).push (seqObj "tuple" vs.toArray 0)).push (seqObj "list" #[] 0)).get? a = some (seqObj "list" #[] e1) := Heap.get?_push_of_some _ (Heap.get?_push_of_some _ ho1)
  show wpAny (model prog w) A _ P E { s with heap := ((s.heap.update a (Obj.mapSeq fun _ => (#[] : Array Value))).push (seqObj "tuple" vs.toArray 0)).push (seqObj "list" #[] 0) }
  generalize hg : ({ s with heap := ((s.heap.update a (Obj.mapSeq fun _ => (#[] : Array Value))).push (seqObj "tuple" vs.toArray 0)).push (seqObj "list" #[] 0) } : Shared) = s6
  have eh : s6.heap = ((s.heap.update a (Obj.mapSeq fun _ => (#[] : Array Value))).push (seqObj "tuple" vs.toArray 0)).push (seqObj "list" #[] 0) := by rw [← hg]
  have fin : ∀ out : Array Value, ({ s6 with heap := s6.heap.update a (Obj.mapSeq fun _ => out) } : Shared) = { s with heap := sortedHeap s.heap a vs out } := fun out => by rw [← hg]; rfl
  rw [← eh] at ho6 keep
  dsimp only
  by_cases h2 : vs.toArray.size < 2
  · rw [if_pos h2, if_pos h2]
    refine wpAny_bind (wpAny_pure ?_)
    rw [StateT.run_pure]
    refine wpAny_bind (wpAny_pure ?_)
    dsimp only
    have e0 : (arrOf (SortSt.mk' general' (vs.toArray.zip vs.toArray) #[] 7 none)).map (·.2) = ((List.range vs.length).map fun i => vs.getD i Value.none).toArray := by
      rw [range_getD]
      show (vs.toArray.zip vs.toArray).map (·.2) = vs.toArray
      apply Array.toList_inj.mp
      rw [Array.toList_map, Array.toList_zip]
      exact List.map_snd_zip (Nat.le_refl _)
    rw [e0]
    refine wpAny_bind (seqEpoch_at ho6 rfl (wpAny_bind (listUpdate_at ho6 rfl ?_ (Nat.zero_le _) (by simp; rw [sizeLine_eq]; omega))))
    simp only [bne_self_eq_false, Bool.false_eq_true, if_false]
    rw [fin]
    refine wpAny_pure (h (List.range vs.length) (.refl _) ?_)
    rw [List.size_toArray] at h2
    match vs.length, h2 with
    | 0, _ => exact .nil
    | 1, _ => exact List.pairwise_singleton _ _
  · rw [if_neg h2, if_neg h2]
    have h2' : 2 ≤ vs.length := by rw [List.size_toArray] at h2; omega
    have hk6 : ∀ (i : Nat) v k, vs[i]? = some v → ks[i]? = some k → TupI s6.heap v k := fun i v k g1 g2 => (hk i v k g1 g2).keeps keep (ha v (List.mem_of_getElem? g1))
    obtain ⟨fs, tf, lf, qf⟩ := zfk hl hk6
    refine wpAny_bind (kat_kind tf (by omega) (T := .type "int") (fun v hv => by obtain ⟨z, t, rfl⟩ := qf v hv; exact zga z t) rfl ?_)
    obtain ⟨q, eq, pq, sq⟩ := zif (O := zbO) (key := xG ks) (n := vs.length) (by omega)
    have runs := kat_run (prog := prog) (w := w) (A := A) (E := E) (s := s6) (κ := tuples' ((Value.type "int") != Value.type "tuple")) (ks := vs) (vs := vs)
      (Q := fun st' s' => s' = s6 ∧ failedOf st' = none ∧ arrOf st' = q.map (kas_item (vs.toArray.zip vs.toArray))) (G := fun p s' => s' = s6 ∧ p = q) rfl h2' h64 (fun p st' s' a1 a2 a3 a4 => by obtain ⟨rfl, rfl⟩ := a4; exact ⟨rfl, a3, a2⟩)
      (zcK (n := vs.length) (lt := kLt (O := zbO) (xG ks)) (fun i j C hi hj hc => by
        have gi : vs[i]? = some (vs.getD i Value.none) := by simp [hi]
        have gj : vs[j]? = some (vs.getD j Value.none) := by simp [hj]
        have ki : ks[i]? = some (xG ks i) := by unfold xG; simp [hl ▸ hi]
        have kj : ks[j]? = some (xG ks j) := by unfold xG; simp [hl ▸ hj]
        exact TupI.lt (hk6 i _ _ gi ki) (hk6 j _ _ gj kj) hc) _ _ (zhw (by omega)) ⟨rfl, eq⟩)
    refine wpAny_bind (wpAny_mono runs ?_ fun _ _ e => e)
    rintro ⟨⟨⟩, st'⟩ s' ⟨rfl, hf, har⟩
    dsimp only
    have hout := kat_snds rfl har
    have hqs : q.size = vs.length := by have := pq.length_eq; simpa using this
    rw [hout]
    refine wpAny_bind (seqEpoch_at ho6 rfl (wpAny_bind (listUpdate_at ho6 rfl ?_ (Nat.zero_le _) (by simp [hqs]; rw [sizeLine_eq]; omega))))
    rw [hf]
    simp only [bne_self_eq_false, Bool.false_eq_true, if_false]
    rw [fin]
    refine wpAny_pure (h q.toList pq ?_)
    rw [List.pairwise_map, List.pairwise_iff_getElem]
    intro i j hi hj hij
    have := sq i j (by omega) (by rw [← hqs]; simpa using hj)
    unfold kk at this
    rw [Array.getD_eq_getD_getElem?, Array.getD_eq_getD_getElem?, Array.getElem?_eq_getElem (by simpa using hi), Array.getElem?_eq_getElem (by simpa using hj)] at this
    have this' : zbO.kle (xG ks q[i]) (xG ks q[j]) := by simpa using this
    simpa using (show LeL (xG ks q[i]) (xG ks q[j]) from this')
theorem zca {l : Addr} {T : String} {o : Obj} {vs : List Value} {n : Nat} {Q : List Value → Shared → Prop} (hT : T = "list" ∨ T = "tuple") (ho : s.heap.get? l = some o) (hc : o.cls = .type T) (hd : o.data = .seq vs.toArray n) (hz : vs.length ≤ sizeLine)
    (h : Q vs { s with heap := (s.heap.push (seqObj "list" #[] 0)).update s.heap.objs.size (Obj.mapSeq (· ++ vs.toArray)) }) : wpAny (model prog w) A (collect (.ref l)) Q E s := by
  unfold collect
  refine wpAny_bind (wpAny_runValue (codeAny_builtin entry_proto_collect' ?_))
  show wpAny _ _ (do again (.builtin "list.__iadd__" ⟨[← newList [], .ref l], []⟩)) _ _ s
  refine wpAny_bind (wpAny_newList (wpAny_pure ⟨Code.quiet_builtin _ (by decide +kernel), codeAny_builtin entry_list_iadd' ?_⟩))
  show wpAny _ _ (Builtin.List.listExtendWith (.ref s.heap.objs.size) (.ref l) (.ref s.heap.objs.size)) _ _ { s with heap := s.heap.push (seqObj "list" #[] 0) }
  unfold Builtin.List.listExtendWith
  have ho' : (s.heap.push (seqObj "list" #[] 0)).get? l = some o := Heap.get?_push_of_some _ ho
  refine wpAny_bind (wpAny_typeOf (T := T) ⟨o, ho', hc⟩ ?_)
  have y1 : (Value.type "list" == Value.type "list") = true := rfl
  have y2 : (Value.type "tuple" == Value.type "tuple") = true := rfl
  rw [if_pos (by rcases hT with rfl | rfl <;> simp only [y1, y2, Bool.or_true, Bool.true_or])]
  refine wpAny_bind (listItems_at ho' hd (wpAny_bind (listItems_at (xs := #[]) (n := 0) (Heap.get?_push_size _ rfl) rfl ?_)))
  rw [if_neg (by simp)]
  refine wpAny_bind (listUpdate_at (xs := #[]) (n := 0) (Heap.get?_push_size _ rfl) rfl ?_ (Nat.zero_le _) (by show (#[] ++ vs.toArray).size ≤ sizeLine + 1; simp only [Array.size_append, List.size_toArray, List.length_nil]; omega))
  refine wpAny_pure (wpAny_bind (wpAny_load (get?_update_seq (Heap.get?_push_size _ rfl) _) ?_))
  show wpAny _ _ (pure ((#[] : Array Value) ++ vs.toArray).toList) Q E _
  rw [show ((#[] : Array Value) ++ vs.toArray).toList = vs by simp]
  exact wpAny_pure h
theorem zcl {l : Addr} {T : String} {o : Obj} {vs : List Value} {ks : List (List Int)} {n : Nat} {Q : Value → Shared → Prop} (hT : T = "list" ∨ T = "tuple") (ho : s.heap.get? l = some o) (hc : o.cls = .type T) (hd : o.data = .seq vs.toArray n)
    (hl : vs.length = ks.length) (hk : ∀ (i : Nat) v k, vs[i]? = some v → ks[i]? = some k → TupI s.heap v k) (h64 : vs.length < 64)
    (h : ∀ p : List Nat, p.Perm (List.range vs.length) → (p.map (xG ks)).Pairwise LeL → Q (.ref (s.heap.objs.size + 1)) { s with heap := sortedAll s.heap vs (p.map fun i => vs.getD i Value.none).toArray }) :
    wpAny (model prog w) A (call (.builtin "sorted") [.ref l]) Q E s := by
  have fit : vs.length ≤ sizeLine := by rw [sizeLine_eq]; omega
  refine Calls.call_function_entry kind_sorted plain_sorted entry_sorted (args_sorted1 _) ?_
  unfold Builtin.«sorted»
  refine wpAny_bind (m := checkCount "sorted" 1 1 _) (wpAny_pure (wpAny_bind (zca hT ho hc hd fit (wpAny_bind (wpAny_newList ?_ (by simpa using fit))))))
  have hsz : ((s.heap.push (seqObj "list" #[] 0)).update s.heap.objs.size (Obj.mapSeq (· ++ vs.toArray))).objs.size = s.heap.objs.size + 1 := by rw [Heap.size_update, size_push']
  have hoL : (((s.heap.push (seqObj "list" #[] 0)).update s.heap.objs.size (Obj.mapSeq (· ++ vs.toArray))).push (seqObj "list" vs.toArray 0)).get? (s.heap.objs.size + 1) = some (seqObj "list" vs.toArray 0) := by
    rw [← hsz]; exact Heap.get?_push_size _ rfl
  have keep : ∀ b u, s.heap.get? b = some u → (((s.heap.push (seqObj "list" #[] 0)).update s.heap.objs.size (Obj.mapSeq (· ++ vs.toArray))).push (seqObj "list" vs.toArray 0)).get? b = some u := fun b u e =>
    Heap.get?_push_of_some _ (by rw [Heap.get?_update_ne _ _ _ _ (Nat.ne_of_lt (Heap.lt_size e))]; exact Heap.get?_push_of_some _ e)
  have ltv : ∀ v ∈ vs, v ≠ .ref (s.heap.objs.size + 1) := fun v hv z => by
    obtain ⟨i, hi, e⟩ := List.getElem_of_mem hv
    obtain ⟨b, ob, _, _, eb, g, _⟩ := hk i v (ks[i]'(by omega)) (by rw [← e]; simp [hi]) (by simp [← hl, hi])
    rw [z] at eb; cases eb
    exact absurd (Nat.lt_of_succ_lt (Heap.lt_size g)) (Nat.lt_irrefl _)
  show wpAny _ _ _ _ _ { s with heap := ((s.heap.push (seqObj "list" #[] 0)).update s.heap.objs.size (Obj.mapSeq (· ++ vs.toArray))).push (seqObj "list" vs.toArray 0) }
  rw [hsz]
  refine wpAny_bind (wpAny_holding (wpAny_call_entry slot_list_sort ⟨_, hoL, rfl⟩ entry_list_sort (zav (ks := ks) hoL hl (fun i v k g1 g2 => ?_) ltv h64 fun p a1 a2 => ⟨_, rfl, wpAny_pure ⟨_, rfl, h p a1 a2⟩⟩) (args_list_sort _)))
  obtain ⟨b, ob, xs, m, eb, g, r⟩ := hk i v k g1 g2
  exact ⟨b, ob, xs, m, eb, keep b ob g, r⟩
end
section
variable {X : Cx}
theorem zbw {d : D} {is : List Int} (h : wG d = some is) : d = .tuple (is.map PyData.int) ∧ is ≠ [] := by
  unfold wG at h
  split at h
  · obtain ⟨js, e1, e2⟩ := Option.bind_eq_some_iff.mp h
    split at e2
    · cases e2
    · cases e2; exact ⟨by rw [qH e1], by assumption⟩
  · cases h
theorem zcE : ∀ {ds : List D} {ks : List (List Int)}, ds.mapM wG = some ks → ds = ks.map (fun k => .tuple (k.map PyData.int)) ∧ ∀ k ∈ ks, k ≠ []
  | [], _, h => by cases h; exact ⟨rfl, fun _ h => by simp at h⟩
  | d :: ds, _, h => by
    rw [List.mapM_cons] at h
    obtain ⟨k, h1, h⟩ := Option.bind_eq_some_iff.mp h
    obtain ⟨r, h2, h⟩ := Option.bind_eq_some_iff.mp h
    cases h
    obtain ⟨e1, e2⟩ := zbw h1
    obtain ⟨e3, e4⟩ := zcE (ds := ds) h2
    exact ⟨by rw [e1, e3]; rfl, fun k' hk => by
      rcases List.mem_cons.mp hk with e | e
      · subst e; exact e2
      · exact e4 k' e⟩
theorem zbY {K : Frag} {H : Hp} {ds : List D} {vs : List V} (r : Reps K H ds vs) : ∀ p : List Nat, (∀ i ∈ p, i < ds.length) → Reps K H (p.map fun i => ds.getD i .none) (p.map fun i => vs.getD i .non)
  | [], _ => .nil
  | i :: p, h => by
    have hi := h i List.mem_cons_self
    obtain ⟨v, h1, h2⟩ := r.get (i := i) (d := ds[i]) (by simp [hi])
    refine .cons ?_ (zbY r p fun j hj => h j (List.mem_cons_of_mem _ hj))
    have e1 : ds.getD i .none = ds[i] := by simp [hi]
    have e2 : vs.getD i .non = v := by rw [List.getD_eq_getElem?_getD, h1]; rfl
    show Rep K H (ds.getD i .none) (vs.getD i .non)
    rw [e1, e2]; exact h2
theorem zeA {vs : List V} {us : List Value} {i : Nat} {u : Value} (r : Vals vs us) (h : us[i]? = some u) : ∃ v, vs[i]? = some v ∧ RelV v u := by
  have hi : i < us.length := (List.getElem?_eq_some_iff.mp h).1
  have hl : vs.length = us.length := r.length
  obtain ⟨u', h1, h2⟩ := r.get (i := i) (x := vs[i]'(by omega)) (by simp [hl, hi])
  rw [h] at h1; cases h1
  exact ⟨_, by simp [hl, hi], h2⟩
theorem zbU {vs : List V} {us : List Value} (r : Vals vs us) : ∀ p : List Nat, (∀ i ∈ p, i < vs.length) → Vals (p.map fun i => vs.getD i .non) (p.map fun i => us.getD i Value.none)
  | [], _ => .nil
  | i :: p, h => by
    have hi := h i List.mem_cons_self
    obtain ⟨u, h1, h2⟩ := r.get (i := i) (x := vs[i]) (by simp [hi])
    refine .cons ?_ (zbU r p fun j hj => h j (List.mem_cons_of_mem _ hj))
    have e1 : vs.getD i .non = vs[i] := by simp [hi]
    have e2 : us.getD i Value.none = u := by rw [List.getD_eq_getElem?_getD, h1]; rfl
    show RelV (vs.getD i .non) (us.getD i Value.none)
    rw [e1, e2]; exact h2
theorem zgU {α : Type} {p : List Nat} {n : Nat} (h : p.Perm (List.range n)) (f : Nat → α) : (p.map f).Perm ((List.range n).map f) := h.map f
theorem zfR {p pos : Pos} {e : Expr} {g : Env' → Option (List D)} (hg : Gl X "sorted") (hm : X.mg "sorted" = none) (ha : PAb X [e] g) (he : starEach [e] X.env = [(false, eval e X.env)] := by rfl) :
    PFr X (.Call (.Name "sorted" p) [e] [] pos) (gItL zar g) := by
  have hc : xA X (.builtin "sorted") (fun xs H Q => ∃ O a ds ks ys, xs = [.ref a] ∧ Dom O H ∧ (SqL X.K H a ys ∨ SqT X.K H a ys) ∧ Reps X.K (hide O H) ds ys ∧ ds.mapM wG = some ks ∧ ks.length < 64 ∧
      ∀ l zs, H l = none → Reps X.K (hide O H) ((yz ks).map fun k => .tuple (k.map PyData.int)) zs → Q (.ref l) (upd H l (.lst zs))) := by
    intro pins s σ H xs us Q I rv ⟨O, a, ds, ks, ys, e, hO, sq, rs, em, h64, k⟩
    subst e
    obtain ⟨u, rfl, ru⟩ := vals1 rv
    obtain rfl : u = Value.ref a := ru
    obtain ⟨eds, kne⟩ := zcE em
    have hseq : ∃ T o its n, (T = "list" ∨ T = "tuple") ∧ s.heap.get? a = some o ∧ o.cls = .type T ∧ o.data = .seq its.toArray n ∧ Vals ys its := by
      rcases sq with sq | sq
      · obtain ⟨its, r, ⟨o, n, e, c, _, dd⟩, _⟩ := I.list sq
        exact ⟨"list", o, its, n, .inl rfl, e, c, dd, r⟩
      · obtain ⟨its, r, ⟨o, e, c, n, dd⟩, _⟩ := I.tuple sq
        exact ⟨"tuple", o, its, n, .inr rfl, e, c, dd, r⟩
    obtain ⟨T, o, its, n, hT, ho, hcl, hd, rv⟩ := hseq
    have l1 : ds.length = ys.length := rs.length
    have l2 : ys.length = its.length := rv.length
    have l3 : ds.length = ks.length := by rw [eds]; simp
    have hfree : H (s.heap.objs.size + 1) = none := I.hok.fresh (Nat.le_succ _)
    refine zcl hT ho hcl hd (ks := ks) (by omega) (fun i v c g1 g2 => ?_) (by omega) fun q pq sq => ?_
    · obtain ⟨y, gy, ry⟩ := zeA rv g1
      obtain ⟨d, gd, rd⟩ := rs.getV gy
      rw [eds, List.getElem?_map, g2] at gd
      cases gd
      cases rd with
      | tup ht rt =>
        rename_i b zs
        obtain rfl : v = Value.ref b := ry
        cases rt.ints
        obtain ⟨its', r', ⟨o', e', c', n', dd'⟩, _⟩ := I.tuple (.inl (.inl (jY _ _ ht)))
        exact ⟨b, o', its'.toArray, n', rfl, e', c', dd', by simpa using intsAre_of r', kne c (List.mem_of_getElem? g2)⟩
    · have inq : ∀ i ∈ q, i < ys.length := fun i hi => by have := List.mem_range.mp (pq.mem_iff.mp hi); omega
      obtain ⟨e2, he2⟩ := sortedAll_at s.heap its (q.map fun i => its.getD i Value.none).toArray
      have ek : q.map (xG ks) = yz ks := zgv (by
        have := zgU pq (xG ks)
        rw [show its.length = ks.length by omega] at this
        unfold xG at this ⊢
        rw [range_getD] at this
        exact this) sq
      have hR : Reps X.K (hide O H) ((yz ks).map fun k => .tuple (k.map PyData.int)) (q.map fun i => ys.getD i .non) := by
        have := zbY rs q (fun i hi => by have := inq i hi; omega)
        rw [← ek, List.map_map]
        have ee : q.map (fun i => ds.getD i .none) = q.map ((fun k => PyData.tuple (k.map PyData.int)) ∘ xG ks) := by
          apply List.map_congr_left
          intro i hi
          have hi' : i < ks.length := by have := inq i hi; omega
          unfold xG
          simp [eds, hi']
        rw [← ee]; exact this
      refine ⟨.ref (s.heap.objs.size + 1), upd H (s.heap.objs.size + 1) (.lst (q.map fun i => ys.getD i .non)), ?_, rfl, k _ _ hfree hR⟩
      refine I.laid (t' := s.toks) (fun b u e => sortedAll_old e) (Nat.le_succ _) ⟨by rw [List.length_map, pq.length_eq, List.length_range, sizeLine_eq]; omega, q.map fun i => its.getD i Value.none, e2, zbU rv q inq, he2⟩
  exact PE.imp (yW hc hg hm boot_sorted ha (by decide) (by decide) he (by rfl)) fun σ H Q ⟨F, O, ρ, ds, r, e, k⟩ => by
    obtain ⟨as, e1, e2⟩ := Option.bind_eq_some_iff.mp e
    refine ⟨F, O, ρ, as, r, e1, fun vs H1 s1 b1 => ?_⟩
    have go : ∀ {es : List D}, zfX es = some ds → ∃ ks, es.mapM wG = some ks ∧ ks.length < 64 ∧ ds = (yz ks).map fun k => .tuple (k.map PyData.int) := fun {es} h => by
      obtain ⟨ks, a1, a2⟩ := Option.bind_eq_some_iff.mp h
      split at a2
      · cases a2; exact ⟨ks, a1, by assumption, rfl⟩
      · cases a2
    unfold zar at e2
    split at e2
    · obtain ⟨ks, a1, a2, rfl⟩ := go e2
      obtain ⟨v, rfl, b⟩ := b1.inv1
      obtain ⟨a, ys, rfl, sq, rs⟩ := b.lst
      exact ⟨O, a, _, ks, ys, rfl, (r.same s1).dom, .inl sq, rs, a1, a2, fun l zs hl rz => k l zs H1 s1 hl rz⟩
    · obtain ⟨ks, a1, a2, rfl⟩ := go e2
      obtain ⟨v, rfl, b⟩ := b1.inv1
      obtain ⟨a, ys, rfl, sq, rs⟩ := b.tup
      exact ⟨O, a, _, ks, ys, rfl, (r.same s1).dom, .inr sq, rs, a1, a2, fun l zs hl rz => k l zs H1 s1 hl rz⟩
    · cases e2
end
end L2.Y
namespace L2.Y
open PySem PySem.Spec PyProof.Rows
section
variable {prog : Program} {w : World} {A : Around} {E : Value → Shared → Prop} {s : Shared} {it d : Addr} {i ep : Nat} {es : Array DictEntry} {od : Obj} {Q : Option Value → Shared → Prop}
theorem zfK {Q : Value → Shared → Prop} (hT : s.TypeIs (.ref d) "dict") (hd : (d == sysModules) = false) (hod : s.heap.get? d = some od) (hdd : od.data = .dict es ep)
    (hQ : Q (.ref s.heap.objs.size) { s with heap := s.heap.push { cls := .type "dict_keyiterator", data := .fields #[.ref d, .int 0 0, .int es.size 0, .int ep 0] } }) : wpAny (model prog w) A (pyIter (.ref d)) Q E s := by
  refine wpAny_pyIter_slot hT F.slot_dict_iter (wpAny_call_entry F.slot_dict_iter hT F.entry_dict_iter ?_ (F.args_dict_iter_1 _))
  unfold Builtin.«dict.__iter__» Builtin.Dict.dictSlotNone
  refine wpAny_bind (wpAny_bind (wpAny_notOrdered_dict hT (wpAny_pure ?_)))
  show wpAny _ _ (Builtin.Dict.showsAll d >>= _) _ _ s
  unfold Builtin.Dict.showsAll
  rw [if_neg (by rw [hd]; exact Bool.false_ne_true)]
  refine wpAny_bind (wpAny_pure (wpAny_bind (wpAny_dictEntries hod hdd (wpAny_bind (wpAny_dictEpoch hod hdd ?_)))))
  refine wpAny_bind (wpAny_newObj_type (wpAny_pure ⟨_, rfl, "dict_keyiterator", _, ⟨_, Heap.get?_push_size _ rfl, rfl⟩, F.slot_dict_keyiterator_next.lookup, ?_⟩))
  simpa [rawInt] using hQ
theorem zfa {e : DictEntry} (hit : s.heap.IsKeyIter it d i es.size ep) (hod : s.heap.get? d = some od) (hdd : od.data = .dict es ep) (he : es[i]? = some e)
    (hQ : ∀ h', h'.IsKeyIter it d (i + 1) es.size ep → Heap.SameBut it s.heap h' → Q (some e.key) { s with heap := h' }) : wpAny (model prog w) A (pyNext (.ref it)) Q E s := by
  obtain ⟨o, ho, hc, hd⟩ := id hit
  have hlt : i < es.size := (Array.getElem?_eq_some_iff.mp he).1
  have hown : Builtin.Dict_items.ownsTuple "dict_keyiterator" = false := by decide
  unfold pyNext
  refine wpAny_bind (wpAny_attempt (wpAny_callSpecial?_slot (name := Str.ofString "__next__") hit.typeIs F.slot_dict_keyiterator_next (wpAny_call_entry F.slot_dict_keyiterator_next hit.typeIs F.entry_dict_keyiterator_next ?_ (F.args_dict_keyiterator_next_1 _))))
  refine wpAny_bind (wpAny_pure (wpAny_bind (wpAny_bind ?_)))
  first | refine wpAny_bind (wpAny_typeNameOfWhole_keyiter hit.typeIs (wpAny_pure ?_)) | refine wpAny_bind (wpAny_typeNameOf_keyiter hit.typeIs (wpAny_pure (?_)))
  refine wpAny_bind (wpAny_fieldsOf ho hd ?_)
  simp only [hown, Bool.false_eq_true, if_false]
  show wpAny _ _ (if (Value.ref d == Value.none) = true then _ else _) _ _ s
  rw [if_neg (show ¬ ((Value.ref d == Value.none) = true) from Bool.false_ne_true)]
  refine wpAny_bind (wpAny_pure (wpAny_bind (wpAny_dictEntries hod hdd ?_)))
  rw [if_neg (by simp)]
  refine wpAny_bind (wpAny_pure (wpAny_bind (wpAny_dictEpoch hod hdd ?_)))
  rw [if_neg (by simp)]
  refine wpAny_pure ?_
  simp only [show ¬ ((i : Int) < 0) from by omega, if_false, Int.toNat_natCast, he]
  refine wpAny_bind ?_
  first | refine wpAny_bind (wpAny_typeNameOfWhole_keyiter hit.typeIs (wpAny_pure ?_)) | refine wpAny_bind (wpAny_typeNameOf_keyiter hit.typeIs (wpAny_pure (?_)))
  refine wpAny_bind (wpAny_isOneOf_keyiter hit.typeIs ?_)
  show wpAny _ _ (setField (.ref it) 1 (rawInt ((i : Int) + 1)) >>= _) _ _ s
  have hit' : (s.heap.update it (Obj.mapFields (·.setIfInBounds 1 (rawInt ((i : Int) + 1))))).IsKeyIter it d (i + 1) es.size ep :=
    ⟨_, Heap.get?_update_self _ ho (Obj.isFreed_of_fields (Obj.data_mapFields hd _)), (Obj.cls_mapFields ..).trans hc, by rw [Obj.data_mapFields hd]; simp [rawInt]⟩
  refine wpAny_bind (wpAny_setField ho hd (by simp) (wpAny_bind (wpAny_holding ?_)))
  refine wpAny_bind (wpAny_isOneOf_keyiter (s := { s with heap := s.heap.update it (Obj.mapFields (·.setIfInBounds 1 (rawInt ((i : Int) + 1)))) }) hit'.typeIs ?_)
  show wpAny _ _ (pure e.key) _ _ _
  exact wpAny_pure (wpAny_pure ⟨_, rfl, wpAny_pure (hQ _ hit' (Heap.SameBut.update ..))⟩)
theorem zf5 (hh : A.handled = none) (hit : s.heap.IsKeyIter it d i es.size ep) (hod : s.heap.get? d = some od) (hdd : od.data = .dict es ep) (he : es.size ≤ i)
    (hQ : ∀ h', Heap.ExtBut it s.heap h' → Q none { s with heap := h' }) : wpAny (model prog w) A (pyNext (.ref it)) Q E s := by
  obtain ⟨o, ho, hc, hd⟩ := id hit
  have hown : Builtin.Dict_items.ownsTuple "dict_keyiterator" = false := by decide
  unfold pyNext
  refine wpAny_bind (wpAny_attempt (wpAny_callSpecial?_slot (name := Str.ofString "__next__") hit.typeIs F.slot_dict_keyiterator_next (wpAny_call_entry F.slot_dict_keyiterator_next hit.typeIs F.entry_dict_keyiterator_next ?_ (F.args_dict_keyiterator_next_1 _))))
  refine wpAny_bind (wpAny_pure (wpAny_bind (wpAny_bind ?_)))
  first | refine wpAny_bind (wpAny_typeNameOfWhole_keyiter hit.typeIs (wpAny_pure ?_)) | refine wpAny_bind (wpAny_typeNameOf_keyiter hit.typeIs (wpAny_pure (?_)))
  refine wpAny_bind (wpAny_fieldsOf ho hd ?_)
  simp only [hown, Bool.false_eq_true, if_false]
  show wpAny _ _ (if (Value.ref d == Value.none) = true then _ else _) _ _ s
  rw [if_neg (show ¬ ((Value.ref d == Value.none) = true) from Bool.false_ne_true)]
  refine wpAny_bind (wpAny_pure (wpAny_bind (wpAny_dictEntries hod hdd ?_)))
  rw [if_neg (by simp)]
  refine wpAny_bind (wpAny_pure (wpAny_bind (wpAny_dictEpoch hod hdd ?_)))
  rw [if_neg (by simp)]
  refine wpAny_pure ?_
  simp only [show ¬ ((i : Int) < 0) from by omega, if_false, Int.toNat_natCast, Array.getElem?_eq_none he]
  refine wpAny_bind ?_
  first | refine wpAny_bind (wpAny_typeNameOfWhole_keyiter hit.typeIs (wpAny_pure ?_)) | refine wpAny_bind (wpAny_typeNameOf_keyiter hit.typeIs (wpAny_pure (?_)))
  show wpAny _ _ (setField (.ref it) 0 .none >>= _) _ _ s
  refine wpAny_bind (wpAny_setField ho hd (by simp) ?_)
  show wpAny _ _ (newExc (.type "StopIteration") [] >>= _) _ _ _
  refine wpAny_bind ?_
  simp only [newExc, newTuple]
  refine wpAny_bind (wpAny_newObj_type (wpAny_bind (m := firstArgMember _ _) (wpAny_of_eq (a := Value.none) (by first | rfl | (simp only [firstArgMember]; rfl)) (wpAny_newObj_type ?_ (by size_fits)))) (by size_fits))
  simp only [raiseNew]
  refine wpAny_bind (wpAny_handled ?_)
  rw [show A.in1.handled = none from hh]
  refine wpAny_bind (wpAny_pure (wpAny_throw ?_))
  refine wpAny_bind (wpAny_isInstance (T := "StopIteration") (b := true) ⟨_, Heap.get?_push_size _ rfl, rfl⟩ isSubtype_stop (wpAny_pure ?_))
  exact hQ _ (((Heap.SameBut.update ..).extBut.push _).push _)
end
theorem kW {P : Program} {w : World} {H : Hp} {h : Heap} {a : Addr} {kvs : List (List Key × V)} (ok : jL P w H h a (.dT kvs)) : ∃ o es ep, h.get? a = some o ∧ o.cls = .type "dict" ∧ o.data = .dict es ep ∧ (a == sysModules) = false ∧ es.size = kvs.length ∧
    ∀ (i : Nat) p, kvs[i]? = some p → ∃ b ent, es[i]? = some ent ∧ ent.key = .ref b ∧ H b = some (.tup (p.1.map kV)) := by
  obtain ⟨z, hs, xs, rel, o, es, ep, h1, h2, h3, h4, h5⟩ := ok
  have hl := Paired.length rel
  refine ⟨o, es, ep, h1, h2.1, h3, hs, ?_, fun i p hp => ?_⟩
  · have := congrArg List.length h4
    rw [List.length_map, Array.length_toList] at this
    omega
  · have get : ∀ {kvs : List (List Key × V)} {xs : List (List Key × Addr × Value)} {i : Nat}, Paired (fun (p : List Key × V) (q : List Key × Addr × Value) => p.1 = q.1 ∧ H q.2.1 = some (.tup (p.1.map kV)) ∧ RelV p.2 q.2.2) kvs xs → kvs[i]? = some p → ∃ q, xs[i]? = some q ∧ H q.2.1 = some (.tup (p.1.map kV)) := by
      intro kvs xs i r
      induction r generalizing i with
      | nil => intro hp; simp at hp
      | cons hh t ih =>
        intro hp
        cases i with
        | zero => simp at hp; subst hp; exact ⟨_, rfl, hh.2.1⟩
        | succ i => obtain ⟨q, a1, a2⟩ := ih (i := i) (by simpa using hp); exact ⟨q, by simpa using a1, a2⟩
    obtain ⟨q, a1, a2⟩ := get rel hp
    refine ⟨q.2.1, entryOfKey (tupleKind (jD P w)) q, ?_, rfl, a2⟩
    rw [← Array.getElem?_toList, h4, List.getElem?_map, a1]
    rfl
theorem Inv.hold {X : Cx} {pins : List (Addr × Obj)} {σ : St} {H : Hp} {s : Shared} {a : Addr} {kvs : List (List Key × V)} (I : Inv X pins σ H s) (e : H a = some (.dT kvs)) : ∃ o, Inv X pins σ (upd H a (.frz o (.dT kvs))) s := by
  have ok : jL X.prog X.w H s.heap a (.dT kvs) := I.hok a _ e
  obtain ⟨z, hs, xs, rel, o, es, ep, h1, h2⟩ := id ok
  refine ⟨o, I.write (x := a) (e := a) (t' := s.toks) (h' := s.heap) (by rw [e]; exact True.intro) (.inl rfl) (fun b u _ q => q) ⟨o, h1⟩ ⟨h1, z, hs, xs, ?_, o, es, ep, h1, h2⟩⟩
  exact KT.keeps rel fun c ys ec => by
    rw [zv (zjx ec e (fun z => nomatch z))]
    exact ec
theorem SR.hold {K : Frag} {F : Fx} {O : List Addr} {ρ : Env'} {σ : St} {H : Hp} {i : Nat} {p : Addr} {o : Obj} {kvs : List (List Key × V)} {ds : List D} {d : D} (r : SR K F O ρ σ H) (he : ρ[i]? = some (some (.own d))) (hs : σ[i]? = some (some (.ref p))) (hp : H p = some (.dT kvs)) (rd : Reps K (hide O H) ds (kvs.map (·.2))) :
    SR K F (O.filter (· ≠ p)) (ρ.set i (some (.val (.dict ((.none, .int 0) :: (kvs.map fun q => wX q.1).zip ds))))) σ (upd H p (.frz o (.dT kvs))) := by
  obtain ⟨p', h1, hO, h0, _⟩ := r.own i _ he
  rw [hs] at h1; cases h1
  have sub : ∀ q ∈ O.filter (· ≠ p), q ∈ O := fun q hq => (List.mem_filter.mp hq).1
  have np : p ∉ O.filter (· ≠ p) := fun z => by simpa using (List.mem_filter.mp z).2
  have grow : Same (hide O H) (hide (O.filter (· ≠ p)) (upd H p (.frz o (.dT kvs)))) := fun b u e => by
    obtain ⟨e1, e2⟩ := qc e
    rw [qo (fun z => e1 (sub b z)), zv (fun z : b = p => e1 (by rw [z]; exact hO))]
    exact e2
  refine ⟨fun b u e => ?_, r.vb.trans grow, fun q hq => List.mem_filter.mpr ⟨r.oc q hq, ?_⟩, fun q hq => ?_, by rw [List.length_set]; exact r.len, fun j d' e => ?_, fun j d' e => ?_, fun j k d1 d2 q e1 e2 f1 f2 => ?_⟩
  · rw [zv (zE e h0.2)]; exact r.hb _ _ e
  · have : q ≠ p := fun z => h0.1 (z ▸ hq)
    simpa using this
  · rw [zv (fun z : q = p => np (by rw [z] at hq; exact hq))]; exact r.dom q (sub q hq)
  · rcases get_set e with ⟨rfl, e2, hl⟩ | ⟨ne, e2⟩
    · cases e2
      exact ⟨_, hs, .dF (o := o) (by rw [qo np, zS]) (rd.same grow)⟩
    · obtain ⟨v, h1, h2⟩ := r.val j d' e2
      exact ⟨v, h1, h2.same grow⟩
  · rcases get_set e with ⟨rfl, e2, hl⟩ | ⟨ne, e2⟩
    · cases e2
    · obtain ⟨q, h1, h2, h3, h4⟩ := r.own j d' e2
      have hq : q ≠ p := fun z => by subst z; exact ne (r.sep i j _ d' q he e2 hs h1)
      refine ⟨q, h1, List.mem_filter.mpr ⟨h2, by simpa using hq⟩, h3, ?_⟩
      cases h4 with
      | lst h r => exact .lst (by rw [zv hq]; exact h) (r.same grow)
      | dK h r => exact .dK (by rw [zv hq]; exact h) (r.same grow)
      | dT h r => exact .dT (by rw [zv hq]; exact h) (r.same grow)
  · rcases get_set e1 with ⟨rfl, e1, _⟩ | ⟨ne1, e1⟩
    · cases e1
    rcases get_set e2 with ⟨rfl, e2, _⟩ | ⟨ne2, e2⟩
    · cases e2
    exact r.sep j k d1 d2 q e1 e2 f1 f2
section
variable {X : Cx}
theorem zhY (i : Nat) (ρ : Env') : frzT i ρ = ρ ∨ ∃ r, ρ[i]? = some (some (.own (.dict ((.none, .none) :: r)))) ∧ frzT i ρ = ρ.set i (some (.val (.dict ((.none, .int 0) :: r)))) := by
  unfold frzT
  split
  · exact .inr ⟨_, by assumption, rfl⟩
  · exact .inl rfl
theorem zgd {st : Stmt} {g : GS} (i : Nat) (h1 : PSd X st g) : PSd X st (fun ρ => g (frzT i ρ)) := fun pins s σ H D I ⟨F, O, ρ, out, r, e, k⟩ => by
  have e : g (frzT i ρ) = some out := e
  rcases zhY i ρ with q | ⟨rr, he, q⟩
  · rw [q] at e
    exact h1 pins s σ H D I ⟨F, O, ρ, out, r, e, k⟩
  · rw [q] at e
    obtain ⟨p, hs, hO, h0, ho⟩ := r.own i _ he
    obtain ⟨kvs, ds, hp, rd, rfl⟩ := ho.tabT rfl
    obtain ⟨o, I'⟩ := Inv.hold I hp
    exact h1 pins s σ _ D I' ⟨F, _, _, out, r.hold he hs hp rd, e, k⟩
noncomputable def ItF (a : Addr) (o : Obj) (kvs : List (List Key × V)) : It :=
  ⟨fun i H => H a = some (.frz o (.dT kvs)) ∧ i < kvs.length, fun i H x H' => H' = H ∧ ∃ p b, kvs[i]? = some p ∧ x = .ref b ∧ H b = some (.tup (p.1.map kV)), fun i H => H a = some (.frz o (.dT kvs)) ∧ kvs.length ≤ i⟩
theorem yN {P : Program} {w : World} {H : Hp} {h : Heap} {a : Addr} {o : Obj} {kvs : List (List Key × V)} {es : Array DictEntry} {ep : Nat} (ok : HOk P w H h) (e : H a = some (.frz o (.dT kvs))) (hd : o.data = .dict es ep) : h.get? a = some o ∧ es.size = kvs.length ∧
    ∀ (i : Nat) p, kvs[i]? = some p → ∃ b ent, es[i]? = some ent ∧ ent.key = .ref b ∧ H b = some (.tup (p.1.map kV)) := by
  obtain ⟨h1, h2⟩ := (show jL P w H h a (.frz o (.dT kvs)) from ok a _ e)
  obtain ⟨o', es', ep', g1, g2, g3, g4, g5, g6⟩ := kW h2
  rw [h1] at g1; cases g1
  rw [hd] at g3; cases g3
  exact ⟨h1, g5, g6⟩
theorem zdV {P : Program} {w : World} {K : Frag} {tg : Expr} {a it : Addr} {o : Obj} {kvs : List (List Key × V)} {es : Array DictEntry} {ep : Nat} (hd : o.data = .dict es ep) : Turn P w K tg (ItF a o kvs) [it] it (fun i h => h.IsKeyIter it a i es.size ep) where
  mem := by simp
  obj := fun i h st b hb => by
    have e : b = it := by simpa using hb
    subst e
    obtain ⟨o, e, c, d⟩ := st
    exact ⟨o, e, fun v z => by rw [d] at z; cases z⟩
  keep := fun i h h' st k => st.at fun o e => k it (by simp) o e
  item := by
    intro X hP hw hK hc i pins s σ H E I hf st ⟨ha, hi⟩
    subst hP hw hK
    obtain ⟨e1, e2, e3⟩ := yN I.hok ha hd
    obtain ⟨b, ent, g1, g2, g3⟩ := e3 i kvs[i] (by simp [hi])
    obtain ⟨f0, f1, f2, f3, f4, f5⟩ := hf it (by simp)
    refine zfa st e1 hd g1 fun h' st' sb => ?_
    rw [g2]
    have I1 : Inv X pins σ H { s with heap := h' } := I.turned (t' := s.toks) (fun b o hb e => (sb.2 b hb).trans e) f0 f1 f3 f4 f5
    obtain ⟨o', e, c, d⟩ := id st'
    exact ⟨_, rfl, zeT (s := { s with heap := h' }) e c d (by decide) ⟨.ref b, H, I1, rfl, ⟨rfl, kvs[i], b, by simp [hi], rfl, g3⟩, st', fun b hb => (hf b hb).1⟩⟩
  done := by
    intro X hP hw hK hc i pins s σ H E I hf st ⟨ha, hi⟩
    subst hP hw hK
    obtain ⟨e1, e2, e3⟩ := yN I.hok ha hd
    obtain ⟨f0, f1, f2, f3, f4, f5⟩ := hf it (by simp)
    exact zf5 (I.ok.hd hc) st e1 hd (by omega) fun h' eb => ⟨rfl, I.turned (t' := s.toks) (fun b o hb e => eb b o hb e) f0 f1 f3 f4 f5⟩
  self := fun _ _ _ _ _ st h => wpAny_pyIter_keyiter st h
theorem vJ {K : Frag} {H : Hp} : ∀ ks : List Key, Reps K H (ks.map keyD) (ks.map kV)
  | [] => .nil
  | .inl i :: ks => .cons (.int i) (vJ ks)
  | .inr x :: ks => .cons (.str x) (vJ ks)
theorem zgG {K : Frag} {B : Hp} {a : Addr} {o : Obj} {kvs : List (List Key × V)} (h : B a = some (.frz o (.dT kvs))) : ItD K B (ItF a o kvs) (kvs.map fun p => wX p.1) where
  go := fun i H s hi => ⟨s _ _ h, by simpa using hi⟩
  yld := fun i H x H' d s hd y => by
    obtain ⟨rfl, p, b, hp, rfl, hb⟩ := y
    rw [List.getElem?_map, hp] at hd
    cases hd
    exact .old fun O sm dm => .tup (by rw [qo (dm.tup hb)]; exact hb) (vJ p.1)
  stop := fun H s => ⟨s _ _ h, by simp⟩
theorem zea {tg e : Expr} {ge : Env' → Option D} (h : PD X e ge) : PId X tg e (gIt zhc ge) := by
  intro pins s σ H R I ⟨F, O, ρ, ds, r, e, k⟩
  obtain ⟨d, e1, e2⟩ := Option.bind_eq_some_iff.mp e
  refine thn (h pins s σ H (fun v H1 => Same H H1 ∧ Rep X.K (hide O H1) d v) I ⟨F, O, ρ, d, r, e1, fun v H1 s1 rb => ⟨s1, rb⟩⟩) fun v s1 ⟨x, H1, I1, r1, sm, rb⟩ => ?_
  have hF : ∃ a o kvs, x = .ref a ∧ hide O H1 a = some (.frz o (.dT kvs)) ∧ ds = kvs.map (fun p => wX p.1) := by
    cases rb with
    | @dF a o kvs ds' h r =>
      refine ⟨a, o, kvs, rfl, h, ?_⟩
      have hl := r.length
      rw [List.length_map] at hl
      have e2' : some (((kvs.map fun p => wX p.1).zip ds').map (·.1)) = some ds := e2
      rw [← Option.some.inj e2']
      exact List.map_fst_zip (by simp [hl])
    | @dK a kvs es h r =>
      exfalso
      cases kvs with
      | nil => cases e2
      | cons p r =>
        obtain ⟨k, w⟩ := p
        cases es with
        | nil => cases e2
        | cons d es => cases k <;> cases e2
    | _ => cases e2
  obtain ⟨a, o, kvs, rfl, ha, rfl⟩ := hF
  obtain rfl : v = Value.ref a := r1
  have ok := I1.hok a _ (qc ha).2
  obtain ⟨q1, q2⟩ := (show jL X.prog X.w H1 s1.heap a (.frz o (.dT kvs)) from ok)
  obtain ⟨o', es, ep, g1, g2, g3, g4, g5, g6⟩ := kW q2
  rw [q1] at g1; cases g1
  refine zfK ⟨o, q1, g2⟩ g4 q1 g3 ?_
  refine ⟨s1.heap.objs.size, [s1.heap.objs.size], _, _, H1, rfl, I1.kept (t' := s1.toks) fun b o e => Heap.get?_push_of_some _ e, zdV (kvs := kvs) g3, ⟨_, Heap.get?_push_size _ rfl, rfl, rfl⟩, fun b hb => ?_, k _ H1 sm (zgG ha)⟩
  have e : b = s1.heap.objs.size := by simpa using hb
  subst e
  exact I1.fpOk (Nat.le_refl _) (I1.hok.fresh (Nat.le_refl _))
end
end L2.Y
namespace L2.Y
open PySem PySem.Spec PyProof.Rows
theorem zhz {fs ch : List Addr} {H : Hp} {h h' : Heap} {a : Addr} {o : HO} (k : ∀ b u, b ∉ ch → h.get? b = some u → h'.get? b = some u) (hp : h.objs.size ≤ a) (hn : H a = none) : Un fs ch H (upd H a o) h h' where
  keep := fun b u q _ _ hx => k b u hx q
  slot := fun b u q _ _ hx => ⟨u.slots, k b u hx q⟩
  free := fun b u q n _ => by rw [zv (Nat.ne_of_lt (Nat.lt_of_lt_of_le (Heap.lt_size q) hp))]; exact n
  there := fun b u q hx => ⟨u, k b u hx q⟩
  tups := fun b xs q => by rw [zv (zE q hn)]; exact q
  frzs := fun b u xs q => by rw [zv (zE q hn)]; exact q
  tbls := fun b ps q => ⟨#[], by rw [zv (zE q hn), q]; simp⟩
theorem zf6 {P : Program} {w : World} {ch : List Addr} {H : Hp} {h h' : Heap} {a : Addr} {o : HO} (ok : HOk P w H h) (k : ∀ b u, b ∉ ch → h.get? b = some u → h'.get? b = some u) (hc : ∀ b ∈ ch, H b = none) (hn : H a = none) (new : jL P w (upd H a o) h' a o) : HOk P w (upd H a o) h' := fun b u q => by
  by_cases e : b = a
  · subst e; rw [zS] at q; cases q; exact new
  · rw [zv e] at q
    refine (ok b u q).stay (fun c v hcc r => k c v (fun z => ?_) r) (fun c r => by rw [zv (zE r hn)]; exact r) fun c xs r => by rw [zv (zE r hn)]; exact r
    have z0 := hc c z
    rcases hcc with rfl | hcc
    · rw [q] at z0; cases z0
    · rw [hcc] at z0; cases z0
noncomputable def Itz (K : Frag) (a b : Addr) : It :=
  ⟨fun i H => ∃ xs ys x y, SqL K H a xs ∧ SqL K H b ys ∧ xs[i]? = some x ∧ ys[i]? = some y,
   fun i H v H' => ∃ p x y, v = .ref p ∧ H p = none ∧ H' = upd H p (.tup [x, y]) ∧ (∀ xs, SqL K H a xs → xs[i]? = some x) ∧ ∀ ys, SqL K H b ys → ys[i]? = some y,
   fun i H => ∃ xs ys, SqL K H a xs ∧ SqL K H b ys ∧ (xs.length ≤ i ∨ ys.length ≤ i)⟩
theorem zfZ {P : Program} {w : World} {K : Frag} {elts : List Expr} {k : Nat} {pos : Pos} {z TI TO i1 i2 a b : Addr} (D : ZipApart z TI TO i1 i2 a b) : Turn P w K (.Tuple elts k pos) (Itz K a b) [z, TI, TO, i1, i2] z
    (fun i h => IsZip h z TI TO .none ∧ IsPair h TI (.ref i1) (.ref i2) ∧ (∃ u v, IsPair h TO u v) ∧ h.IsListIter i1 a i ∧ h.IsListIter i2 b i) where
  mem := by simp
  obj := fun i h st c hc => by
    obtain ⟨s1, s2, ⟨u, v, s3⟩, s4, s5⟩ := st
    simp only [List.mem_cons, List.mem_nil_iff, or_false] at hc
    rcases hc with rfl | rfl | rfl | rfl | rfl
    · exact ⟨_, s1, fun v q => by have q' : Data.fields _ = Data.cell v := q; cases q'⟩
    · exact ⟨_, s2, fun v q => by have q' : Data.seq _ _ = Data.cell v := q; cases q'⟩
    · exact ⟨_, s3, fun v q => by have q' : Data.seq _ _ = Data.cell v := q; cases q'⟩
    · obtain ⟨o, e, c, d⟩ := s4
      exact ⟨o, e, fun v q => by rw [d] at q; cases q⟩
    · obtain ⟨o, e, c, d⟩ := s5
      exact ⟨o, e, fun v q => by rw [d] at q; cases q⟩
  keep := fun i h h' st kk => by
    obtain ⟨s1, s2, ⟨u, v, s3⟩, s4, s5⟩ := st
    exact ⟨kk z (by simp) _ s1, kk TI (by simp) _ s2, ⟨u, v, kk TO (by simp) _ s3⟩, s4.at fun o e => kk i1 (by simp) o e, s5.at fun o e => kk i2 (by simp) o e⟩
  item := by
    intro X hP hw hK hc i pins s σ H E I hf st hg
    subst hP hw hK
    obtain ⟨s1, s2, ⟨u, v, s3⟩, s4, s5⟩ := st
    obtain ⟨xs, ys, x, y, q1, q2, hx, hy⟩ := hg
    obtain ⟨its, rv, p, hz⟩ := I.list q1
    obtain ⟨its', rv', p', hz'⟩ := I.list q2
    obtain ⟨ux, hux, rux⟩ := rv.get hx
    obtain ⟨uy, huy, ruy⟩ := rv'.get hy
    have hfree : H s.heap.objs.size = none := I.hok.fresh (Nat.le_refl _)
    refine wpAny_pyNext_zip_item D s1 s2 s3 s4 s5 p.isList p'.isList (x := ux) (y := uy) (by simpa using hux) (by simpa using huy) fun h' a1 a2 a3 a4 a5 a6 hk => ?_
    refine ⟨_, rfl, wpAny_letOwnedTupleGo_zip (s := { s with heap := h' }) a1 fun h'' b1 sb => ?_⟩
    have hTz : s.heap.objs.size ≠ z := Nat.ne_of_gt (Heap.lt_size s1)
    have keep2 : ∀ c o, c ∉ [z, TI, TO, i1, i2] → s.heap.get? c = some o → h''.get? c = some o := fun c o hcn e => by
      simp only [List.mem_cons, List.mem_nil_iff, or_false, not_or] at hcn
      exact (sb.2 c hcn.1).trans (hk c o hcn.1 hcn.2.2.1 hcn.2.2.2.1 hcn.2.2.2.2 e)
    have g5 : IsPair h'' s.heap.objs.size ux uy := (sb.2 _ hTz).trans a5
    have hchN : ∀ c ∈ [z, TI, TO, i1, i2], H c = none := fun c hcm => (hf c hcm).1
    have new : jL X.prog X.w (upd H s.heap.objs.size (.tup [x, y])) h'' s.heap.objs.size (.tup [x, y]) := ⟨by show 2 ≤ sizeLine; decide, [ux, uy], .cons rux (.cons ruy .nil), ⟨_, g5, rfl, 0, rfl⟩⟩
    have I2 : Inv X pins σ (upd H s.heap.objs.size (.tup [x, y])) { s with heap := h'' } := I.call' (ch := [z, TI, TO, i1, i2]) rfl (zhz keep2 (Nat.le_refl _) hfree) (zf6 I.hok keep2 hchN hfree new) I.bare
      fun c hcm => let ⟨_, f1, _, f3, f4, f5⟩ := hf c hcm; ⟨f3, f1, f4, f5⟩
    have lt : ∀ {c : Addr} {o : Obj}, s.heap.get? c = some o → c ≠ s.heap.objs.size := fun e => Nat.ne_of_lt (Heap.lt_size e)
    refine ⟨.ref s.heap.objs.size, _, I2, rfl, ⟨_, x, y, rfl, hfree, rfl, fun xs' h1 => by rw [I.list_inj h1 q1]; exact hx, fun ys' h2 => by rw [I.list_inj h2 q2]; exact hy⟩,
      ⟨b1, (sb.2 TI D.TIz).trans (hk TI _ D.TIz D.TITO D.TIi1 D.TIi2 s2), ⟨_, _, (sb.2 TO D.TOz).trans a2⟩, a3.at (fun o e => (sb.2 i1 D.i1z).trans e), a4.at fun o e => (sb.2 i2 D.i2z).trans e⟩, fun c hcm => ?_⟩
    obtain ⟨o, e, _⟩ : ∃ o, s.heap.get? c = some o ∧ True := by
      simp only [List.mem_cons, List.mem_nil_iff, or_false] at hcm
      rcases hcm with rfl | rfl | rfl | rfl | rfl
      · exact ⟨_, s1, trivial⟩
      · exact ⟨_, s2, trivial⟩
      · exact ⟨_, s3, trivial⟩
      · obtain ⟨o, e, _⟩ := s4; exact ⟨o, e, trivial⟩
      · obtain ⟨o, e, _⟩ := s5; exact ⟨o, e, trivial⟩
    rw [zv (lt e)]
    exact hchN c hcm
  done := by
    intro X hP hw hK hc i pins s σ H E I hf st hg
    subst hP hw hK
    obtain ⟨s1, s2, ⟨u, v, s3⟩, s4, s5⟩ := st
    obtain ⟨xs, ys, q1, q2, hl⟩ := hg
    obtain ⟨its, rv, p, hz⟩ := I.list q1
    obtain ⟨its', rv', p', hz'⟩ := I.list q2
    have l1 := rv.length
    have l2 := rv'.length
    refine wpAny_pyNext_zip_end (I.ok.hd hc) D s1 s2 s3 s4 s5 p.isList p'.isList (hl.imp (fun q => by simp; omega) fun q => by simp; omega) fun h' hk => ⟨rfl, ?_⟩
    have keep2 : ∀ c o, c ∉ [z, TI, TO, i1, i2] → s.heap.get? c = some o → h'.get? c = some o := fun c o hcn e => by
      simp only [List.mem_cons, List.mem_nil_iff, or_false, not_or] at hcn
      exact hk c o hcn.1 hcn.2.2.1 hcn.2.2.2.1 hcn.2.2.2.2 e
    have hchN : ∀ c ∈ [z, TI, TO, i1, i2], H c = none := fun c hcm => (hf c hcm).1
    refine I.call' (ch := [z, TI, TO, i1, i2]) rfl ⟨fun b u q _ _ hx => keep2 b u hx q, fun b u q _ _ hx => ⟨u.slots, keep2 b u hx q⟩, fun b u q n _ => n, fun b u q hx => ⟨u, keep2 b u hx q⟩, fun _ _ q => q, fun _ _ _ q => q, fun b ps q => ⟨#[], by rw [q]; simp⟩⟩ (fun b u q => ?_) I.bare
      fun c hcm => let ⟨_, f1, _, f3, f4, f5⟩ := hf c hcm; ⟨f3, f1, f4, f5⟩
    refine (I.hok b u q).stay (fun c v hcc r => keep2 c v (fun zz => ?_) r) (fun c r => r) fun c xs r => r
    have z0 := hchN c zz
    rcases hcc with rfl | hcc
    · rw [q] at z0; cases z0
    · rw [hcc] at z0; cases z0
  self := fun _ _ _ _ _ st h => wpAny_pyIter_zip st.1 h
theorem zaV : ∀ (xs ys : List D) (i : Nat) {d : D}, (zip2 xs ys)[i]? = some d → ∃ x y, xs[i]? = some x ∧ ys[i]? = some y ∧ d = .tuple [x, y]
  | x :: xs, y :: ys, 0, d, h => by simp [zip2] at h; exact ⟨x, y, rfl, rfl, h.symm⟩
  | x :: xs, y :: ys, i + 1, d, h => by
    obtain ⟨a, b, h1, h2, h3⟩ := zaV xs ys i (d := d) (by simpa [zip2] using h)
    exact ⟨a, b, by simpa using h1, by simpa using h2, h3⟩
  | [], _, _, _, h => by simp [zip2] at h
  | _ :: _, [], _, _, h => by simp [zip2] at h
theorem zcy : ∀ (xs ys : List D), (zip2 xs ys).length = min xs.length ys.length
  | x :: xs, y :: ys => by simp only [zip2, List.length_cons, zcy xs ys]; omega
  | [], _ => by simp [zip2]
  | _ :: _, [] => by simp [zip2]
theorem zie {K : Frag} {B : Hp} {a b : Addr} {xs ys : List V} {ds es : List D} (s1 : SqL K B a xs) (r1 : Reps K B ds xs) (s2 : SqL K B b ys) (r2 : Reps K B es ys) : ItD K B (Itz K a b) (zip2 ds es) where
  go := fun i H s hi => by
    obtain ⟨x, y, h1, h2, _⟩ := zaV ds es i (d := (zip2 ds es)[i]) (by simp [hi])
    obtain ⟨v, g1, _⟩ := r1.get h1
    obtain ⟨u, g2, _⟩ := r2.get h2
    exact ⟨xs, ys, v, u, SqL.same s s1, SqL.same s s2, g1, g2⟩
  yld := fun i H x H' d s hd y => by
    obtain ⟨p, vx, vy, rfl, hp, rfl, f1, f2⟩ := y
    obtain ⟨dx, dy, h1, h2, rfl⟩ := zaV ds es i hd
    have g1 := f1 xs (SqL.same s s1)
    have g2 := f2 ys (SqL.same s s2)
    obtain ⟨d1, e1, q1⟩ := r1.getV g1
    obtain ⟨d2, e2, q2⟩ := r2.getV g2
    rw [h1] at e1; cases e1
    rw [h2] at e2; cases e2
    exact .new hp (.cons q1 (.cons q2 .nil))
  stop := fun H s => ⟨xs, ys, SqL.same s s1, SqL.same s s2, by
    rw [zcy, r1.length, r2.length]
    omega⟩
section
variable {X : Cx}
theorem zfh (I a b : Nat) (h1 : a < I) (h2 : b < I) : ZipApart (I + 4) (I + 2) (I + 3) I (I + 1) a b := by
  constructor <;> (intro z; have z' : (_ : Nat) = _ := z; omega)
theorem ziH {a b : Expr} {elts : List Expr} {k : Nat} {tpos p pos : Pos} {ga : Env' → Option (List D)} (hg : Gl X "zip") (hm : X.mg "zip" = none) (ha : PAd X [a, b] ga) (hs : starEach [a, b] X.env = [(false, eval a X.env), (false, eval b X.env)] := by rfl) (hs2 : starEach [b] X.env = [(false, eval b X.env)] := by rfl) :
    PId X (.Tuple elts k tpos) (.Call (.Name "zip" p) [a, b] [] pos) (gItA zipD ga) := by
  intro pins s σ H R I ⟨F, O, ρ, ds, r, e, kk⟩
  obtain ⟨as, e1, e2⟩ := Option.bind_eq_some_iff.mp e
  refine Call_ (vE I hg hm (by decide +kernel : bootBuiltins "zip" = some (.type "zip")) (PyProof.Rows.callWith_type1 (thn (ha pos pins s σ H (fun vs H1 => Same H H1 ∧ Reps X.K (hide O H1) as vs) I ⟨F, O, ρ, as, r, e1, fun vs H1 s1 rb => ⟨s1, rb⟩⟩) fun us s1 ⟨vs, H1, I1, r1, sm, rb⟩ => ?_) (by rw [hs, hs2]) (by rw [hs2]; rfl)))
  unfold zipD at e2
  split at e2
  · cases e2
    cases rb with
    | cons b1 rb =>
      cases rb with
      | cons b2 rb =>
        cases rb
        cases r1 with
        | @cons _ u1 _ _ q1 rr =>
          cases rr with
          | @cons _ u2 _ _ q2 rr =>
            cases rr
            cases b1 with
            | @lst la xs d1 sq1 rs1 =>
              cases b2 with
              | @lst lb ys d2 sq2 rs2 =>
                obtain rfl : u1 = Value.ref la := q1
                obtain rfl : u2 = Value.ref lb := q2
                have t1 : SqL X.K (hide O H1) la xs := .inl sq1
                have t2 : SqL X.K (hide O H1) lb ys := .inl sq2
                obtain ⟨its, rv, p, _⟩ := I1.list (SqL.same jY t1)
                obtain ⟨its', rv', p', _⟩ := I1.list (SqL.same jY t2)
                have lta : la < s1.heap.objs.size := by obtain ⟨o, e, _⟩ := p.isList; exact Heap.lt_size e
                have ltb : lb < s1.heap.objs.size := by obtain ⟨o, e, _⟩ := p'.isList; exact Heap.lt_size e
                refine call_zip_2 p.isList p'.isList fun h' g1 g2 g3 g4 g5 g6 kp => wpAny_pyIter_zip g1 ?_
                refine ⟨_, [s1.heap.objs.size + 4, s1.heap.objs.size + 2, s1.heap.objs.size + 3, s1.heap.objs.size, s1.heap.objs.size + 1], _, _, H1, rfl, I1.kept (t' := s1.toks) kp, zfZ (zfh _ _ _ lta ltb), ⟨g1, g2, ⟨_, _, g3⟩, g4, g5⟩, fun c hc => ?_, kk _ H1 sm (zie t1 rs1 t2 rs2)⟩
                have le : s1.heap.objs.size ≤ c := by
                  simp only [List.mem_cons, List.mem_nil_iff, or_false] at hc
                  have go : ∀ n x : Nat, (x = n + 4 ∨ x = n + 2 ∨ x = n + 3 ∨ x = n ∨ x = n + 1) → n ≤ x := fun n x h => by omega
                  exact go _ _ hc
                exact I1.fpOk le (I1.hok.fresh le)
  · cases e2
end
end L2.Y
namespace L2.Y
open PySem PySem.Spec PyProof.Rows
section
variable {prog : Program} {w : World} {A : Around} {E : Value → Shared → Prop} {s : Shared}
end
section
variable {X : Cx}
theorem zfw {scope : Scope} {own N : List Str} {caps : List Nat} {tg iter elt : Expr} {pos : Pos} {gi : Env' → Option (List D)} {h : GT} {gt : Env' → Option Bool} {ge : Env' → Option D} {ifs : List Expr} {i : Nat} {x : Str} {px spos : Pos} (S : CompOk X scope own caps N) (nd : caps.Nodup) (ov : Over own.length h) (hc : X.calm = true) (hi : PId X tg iter gi) (hg : jt X N scope fun Y => PGd Y tg h) (ht : jt X N scope fun Y => PIfd Y ifs gt) (he : jt X N scope fun Y => PD Y elt ge)
    (hN : X.N.Nodup) (hx : X.N[i]? = some x) (hl : X.env.scope.names.lookup x = some .local) (hsw : swapsWith (.ListComp elt [⟨tg, iter, ifs, 0⟩] scope pos) (some (.Name x px)) spos.line X.env = pure true)
    (hs : ∀ x, foldedSetIterable iter X.env x = pure x := by intro _; rfl) : PSd X (.Assign [.Name x px] (.ListComp elt [⟨tg, iter, ifs, 0⟩] scope pos) spos) (zjW i (qh own.length caps gi h gt ge)) :=
  PS.imp (zgk (g := tGd X.K h) (tt := tTd X.K gt) (te := tD X.K ge) S hc hi (fun cl C s H fp => hg cl C s H fp) (fun cl C s H fp => ht cl C s H fp) (fun cl C s H fp => he cl C s H fp) hN hx hl hsw hs) fun D σ H ⟨F, O, ρ, out, r, e, k⟩ => by
    obtain ⟨ds, e1, e2⟩ := Option.map_eq_some_iff.mp e
    subst e2
    refine zcR nd ov ⟨F, O, ρ, ds, r, e1, fun p xs H1 s1 hp b1 => ?_⟩
    exact k O _ _ ((r.same (s1.trans (jn hp))).setVal (vg hp ((r.same s1).fresh hp) b1))
end
section
variable {P : Program} {w : World} {K : Frag} {mg : Str → Option Value} {base : Heap}
end
theorem zb4 {K : Frag} {H : Hp} : ∀ ns : List Int, Reps K H (ns.map PyData.int) (ns.map V.int)
  | [] => .nil
  | n :: ns => .cons (.int n) (zb4 ns)
theorem zel {K : Frag} {H : Hp} {a : Addr} {ns : List Int} {f : List D → Option D} {E : XK} (hS : SqL K H a (ns.map V.int)) (h : f [scrD (ns.map PyData.int)] = some (.bool true)) : spD K 1 f [.ref a] H (fun v _ => v = .bl true) E :=
  ⟨[], [scrD (ns.map PyData.int)], .bool true, fun p hp => absurd hp (by simp), .cons (.scr (by rw [zgr]; exact hS) (zb4 ns)) .nil, rfl, h, fun v H' s b => xX b⟩
theorem nd_ (l : List Str) (h : l.Nodup := by decide +kernel) : l.Nodup := h
theorem zk {X : Cx} {e : Expr} {es : List Expr} {ga : Env' → Option D} {gr : Env' → Option (List D)} (hs : zef e = true) (ha : PD X e ga) (hr : PAd X es gr) : PAd X (e :: es) (zb ga gr) := zgE ha hr (jI hs)
theorem jQ {X : Cx} {e : Expr} {es : List Expr} {ga : Env' → Option D} {gr : Env' → Option (List D)} (hs : zef e = true) (ha : PB X e ga) (hr : PAb X es gr) : PAb X (e :: es) (zb ga gr) := zgF ha hr (jI hs)
section
variable {X : Cx} {tg e : Expr} {pos : Pos}
theorem zq {h : GT} {ge : Env' → Option D} (hs : swapsWithSole [tg] e pos.line X.env = pure false) (hw : swappedStores [tg] e X.env = pure none) (h1 : (assignEach [tg] X.env).map (·.2) = [assign tg X.env]) (hg : PGd X tg h) (he : PD X e ge) : PSd X (.Assign [tg] e pos) (sAsg h ge) := zhE hg he hs hw h1
theorem zda {i : Nat} {ge : Env' → Option (List D)} (hs : swapsWithSole [tg] e pos.line X.env = pure false) (hw : swappedStores [tg] e X.env = pure none) (h1 : (assignEach [tg] X.env).map (·.2) = [assign tg X.env]) (hg : PG X tg (zaq i)) (he : PFr X e ge) : PSd X (.Assign [tg] e pos) (sOwn i ge) := zim hg he hs hw h1
end
section
variable {X : Cx} {e : Expr} {pos : Pos} {st : Stmt}
theorem zd {i j} : PD X (.Constant (.int i) j pos) (gK (.int i)) := zjd
theorem xg {i j} : PD X (.Constant (.bool i) j pos) (gK (.bool i)) := zj6
theorem zci {j} : PD X (.Constant .none j pos) (gK .none) := zi4
theorem qu {x j} : PD X (.Constant (.str x) j pos) (gK (.str x)) := zjn
theorem zJ {x : Str} {i : Int} (hg : Gl X x) (hm : ∃ t, X.mg x = some (.int i t)) (hd : (x == ("__debug__" : Str)) = false) : PD X (.Name x pos) (gK (.int i)) := we (wA (v := .int i) hg hm.choose_spec ⟨_, rfl⟩ hd) fun _ => .int i
theorem PFr.d_ {g : Env' → Option (List D)} (h : PFr X e g) : PD X e (gLs g) := PFr.d h
theorem zo {ge : Env' → Option D} (he : PD X e ge) : PSd X (.Return (some e) pos) (sRet ge) := ziM he
theorem zd0 {g : GS} (i : Nat) (h1 : PSd X st g) : PSd X st (zj0 i g) := zgd i h1
theorem qj : PIfd X [] zV := zgS
end
end L2.Y
namespace L2.Y
open PySem PySem.Spec PyProof.Rows
theorem zdv {X : Cx} {st : Stmt} : PSd X st sNo := by
  intro pins s σ H D I h
  obtain ⟨F, O, ρ, o, r, e, k⟩ := h
  cases e
end L2.Y
namespace L2.Y
open PySem PySem.Spec PyProof.Rows
section
variable {X : Cx}
end
end L2.Y
namespace L2.Y
open PySem PySem.Spec PyProof.Rows
section
variable {X : Cx}
end
end L2.Y
namespace L2.Y
open PySem PySem.Spec PyProof.Rows
section
variable {X : Cx}
theorem zbM : yj X (.type "int") intOfD := by
  intro pins s σ H O xs us ds d Q I hO rv bs e k
  unfold intOfD at e
  split at e
  · cases e
    obtain ⟨v, rfl, b⟩ := bs.inv1
    cases b.bl
    exact za8 pins s σ H _ us Q I rv (.inr ⟨_, rfl, k _ H (Same.refl _) (.int _)⟩)
  · cases e
    obtain ⟨v, rfl, b⟩ := bs.inv1
    cases b.int
    exact za8 pins s σ H _ us Q I rv (.inl ⟨_, rfl, k _ H (Same.refl _) (.int _)⟩)
  · cases e
end
end L2.Y
namespace L2.Y
open PySem PySem.Spec PySem.Calls PyProof.Rows PySem.W Builtin Builtin.ObjectAttr Builtin.Getset_descriptor
abbrev VE : List Value := [.type "ValueError", .type "Exception", .type "BaseException", .type "object"]
noncomputable def ExAt (a C : Addr) (h : Heap) : Prop := ∃ o vs, h.get? a = some o ∧ o.cls = .ref C ∧ o.data = .fields vs
theorem ExAt.ty {a C : Addr} {h : Heap} {M : Model} (x : ExAt a C h) : Looks M h (typeOf (.ref a)) (.ref C) := by
  obtain ⟨o, vs, h1, h2, _⟩ := x
  exact h2 ▸ (Looks.ld h1).andThen .now
structure ExK (K : PySem.W.Frag) (C : Addr) : Prop where
  ga : findIn K (.ref C) "__getattribute__" = some (some (.builtin "BaseException.__getattribute__"))
  gt : findIn K (.ref C) "__getattr__" = some none
  cl : findIn K (.ref C) "__class__" = some (some (.builtin "object.__class__"))
  ob : mroIn K C (.type "object") = some true
  be : subIn K (.ref C) (.type "BaseException") = some true
  cs : (clsIn K C).isSome = true
section
variable {prog : Program} {w : World} {A : Around} {E : Value → Shared → Prop} {h : Heap} {g : Array GenState} {d : Drawn} {t : Nat} {os : OsState} {a C : Addr} {K : PySem.W.Frag}
theorem ziw {R : Result → Shared → Prop} {tp : Value} (X : K.In h) (I : ExAt a C h) (k : ExK K C) (hq : R (.ok (.ret (.ref C))) ⟨h, g, d, t, os⟩) : codeAny (model prog w) A (.call (.builtin "getset_descriptor.__get__") ⟨[.builtin "object.__class__", .ref a, tp], []⟩) R ⟨h, g, d, t, os⟩ := by
  have L0 := I.ty (M := model prog w)
  have L1 := looks_mroIn (M := model prog w) X k.ob
  refine codeAny_call_builtin KF.slot_gs.plain KF.entry_gs (KF.slot_gs.check _ _ _ _ _ _ _ _ KF.type_class (KF.args_gs _ _ _) ?_)
  unfold Builtin.«getset_descriptor.__get__» descrGet
  rw [dga_obj]
  refine wpAny_bind (wpAny_pure ?_)
  unfold descrGetter descrCheckInstance descrNameAndClass isInstance
  simp only [KF.owner_class]
  repeat lk
  refine ⟨Code.quiet_builtin _ (by decide +kernel), codeAny_builtin KF.entry_class ?_⟩
  unfold Builtin.«object.__class__» shownTypeOf
  repeat lk
  exact hq
theorem zdY {tk : Tok} {Q : Fin → Shared → Prop} (X : K.In h) (I : ExAt a C h) (k : ExK K C) (hq : Q (.done (.ret (.ref C))) ⟨h, g, d, t, os⟩) :
    wpAny (model prog w) A (Builtin.«object.__getattribute__» ⟨[.ref a, .str "__class__" tk], []⟩) Q E ⟨h, g, d, t, os⟩ := by
  have hT5 : (⟨h, g, d, t, os⟩ : Shared).TypeIs (.builtin "object.__class__") "getset_descriptor" := F.typeOf_object_class
  have f5 := F.typeOf_object_class
  have f6 := F.slot_gs_get.lookup
  have f7 := F.slot_gs_set.lookup
  obtain ⟨o, vs, hx, hc, hd⟩ := id I
  have L1 := looks_findIn (M := model prog w) X k.cl
  repeat (any_goals (first | assumption | (with_reducible refine wpAny_loadPart_at hx ?_; rw [hc]) | with_reducible refine L1.at ?_ | wp_step))
  refine ziw X I k ?_
  repeat (any_goals (first | assumption | wp_step))
theorem zeR {M : Model} {nameV : Value} {Q : Unit → Shared → Prop} (X : K.In h) (I : ExAt a C h) (k : ExK K C) (hq : Q () ⟨h, g, d, t, os⟩) : wpAny M A (checkBuiltinCall "BaseException.__getattribute__" ⟨[.ref a, nameV], []⟩) Q E ⟨h, g, d, t, os⟩ := by
  have hk : builtinKind "BaseException.__getattribute__" = some .slot := by decide +kernel
  have hsplit : splitId "BaseException.__getattribute__" = some ("BaseException", "__getattribute__") := by decide +kernel
  have ha := F.args_bexc_ga (.ref a) nameV
  have L : Looks M h (isInstance (.ref a) (.type "BaseException")) true := (I.ty (M := M)).andThen (looks_subIn X k.be)
  simp only [checkBuiltinCall, hk, hsplit]
  refine wpAny_bind (L.at ?_)
  repeat (first | wp_step)
  exact hq
theorem zgV {tk : Tok} {R : Result → Shared → Prop} (X : K.In h) (I : ExAt a C h) (k : ExK K C) (hq : R (.ok (.ret (.ref C))) ⟨h, g, d, t, os⟩) :
    codeAny (model prog w) A (.call (.builtin "BaseException.__getattribute__") ⟨[.ref a, .str "__class__" tk], []⟩) R ⟨h, g, d, t, os⟩ :=
  codeAny_call_builtin F.attrBase_ValueError.ga.plain F.entry_bexc_ga (zeR X I k (zdY X I k hq))
theorem zgh {Q : Option Value → Shared → Prop} (X : K.In h) (I : ExAt a C h) (k : ExK K C) (hq : Q (some (.ref C)) ⟨h, g, d, t + 1, os⟩) : wpAny (model prog w) A (getAttr? (.ref a) "__class__") Q E ⟨h, g, d, t, os⟩ := by
  have b3 := F.attrBase_ValueError.ga.bind (.ref a)
  obtain ⟨o, vs, hx, hc, hd⟩ := id I
  have L1 := looks_findIn (M := model prog w) X k.ga
  have L2 := looks_findIn (M := model prog w) X k.gt
  have hx2 : (Value.builtin "BaseException.__getattribute__" == Value.builtin "object.__getattribute__") = false := by decide +kernel
  have hx1 : (onTheHeap (Value.ref C) && Value.builtin "BaseException.__getattribute__" == Value.builtin "object.__getattribute__") = false := by rw [hx2]; rfl
  have hx0 : (false && onTheHeap (Value.builtin "BaseException.__getattribute__")) = false := rfl
  unfold getAttr? getAttrBy?
  repeat (any_goals (first | assumption | (with_reducible refine wpAny_loadPart_at hx ?_; rw [hc]) | with_reducible refine L1.at ?_ | with_reducible refine L2.at ?_ | wp_step))
  refine zgV X I k ?_
  repeat (any_goals (first | assumption | wp_step))
theorem ExK.obj (k : ExK K C) : ∃ c0 dd cd sl, K.lookup C = some ⟨c0, dd, .cls cd, sl⟩ := by
  have := k.cs
  unfold clsIn at this
  split at this
  · rename_i c0 dd cd sl e
    exact ⟨c0, dd, cd, sl, e⟩
  · cases this
theorem zf0 (k : ExK K C) : KitX K (.ref a) (.ref C) (ExAt a C) where
  ty := fun _ _ _ I => I.ty
  it := fun _ _ X _ => by
    obtain ⟨c0, dd, cd, sl, e⟩ := k.obj
    intro A' Q' E' s' kk q
    unfold isType loadHead
    exact wpAny_bind (wpAny_loadPart (kk _ _ (X _ _ e)) (wpAny_pure q))
  ne := fun h tp dd its n sl X htp => by
    obtain ⟨c0, d1, cd, s1, e⟩ := k.obj
    refine Bool.eq_false_iff.mpr fun q => ?_
    have e2 : C = tp := Value.ref.inj (beq_iff_eq.mp q)
    subst e2
    have z := (X _ _ e).symm.trans htp
    cases z
  ca := fun {prog w A E Q s} X I q => by
    obtain ⟨h, g, d, t, os⟩ := s
    exact zgh X I k q
end
end L2.Y
namespace L2.Y
open PySem PySem.Spec PySem.Calls PyProof.Rows PySem.W
noncomputable def Trc (base h : Heap) (e : Addr) (cls fl : Value) : Prop :=
  ∃ oe vs T oT ts, h.get? e = some oe ∧ oe.cls = cls ∧ oe.data = .fields vs ∧ vs[1]? = some (.ref T) ∧ vs[2]? = some .none ∧ base.get? T = none ∧ T ≠ e ∧ h.get? T = some oT ∧ oT.data = .fields ts ∧ ts[3]? = some fl
structure Way1 (base : Heap) (l : List Env) (e : Addr) (cls fl : Value) (h : Heap) : Prop where
  st : base.StaysIn h
  no : base.get? e = none
  ff : h.FunFrames base l
  tr : Trc base h e cls fl
section
variable {M : Model} {A : Around} {E : Value → Shared → Prop} {s : Shared} {base : Heap} {env : Env} {outer l : List Env} {L e : Addr} {oe : Obj} {vs : Array Value} {cls fl head : Value} {Q : Unit → Shared → Prop}
theorem zhl {hadNext : Bool} (hfr : A.frames = some (env :: outer)) (hl : s.heap.FunFrames base (env :: outer)) (hf : env.frame = some L) (he : s.heap.get? e = some oe) (hkb : base.StaysIn s.heap) (hen : base.get? e = none) (hd : oe.data = .fields vs) (hsz : 2 < vs.size) (h2 : vs[2]? = some .none)
    (k : ∀ h', Way1 base (env :: outer) e oe.cls (rawInt L) h' → s.heap.UpToSlots h' → Q () { s with heap := h' }) :
    wpAny M A (do let a ← frameOf env; let pl ← entryPlaceOf L hadNext; let b ← EntryCells.newEntry head a .none (rawInt L) .none pl; setField (.ref e) 1 b) Q E s := by
  have out : e ∉ (env :: outer).filterMap (·.frame) := fun hm => by
    obtain ⟨_, o, ho, hnf⟩ := hl.mem hm
    rw [he] at ho; injection ho with ho; subst ho; exact hnf vs hd
  refine wpAny_bind (wpAny_frameOf_fun hfr hl hf fun h₁ b₁ => wpAny_bind (wpAny_entryPlaceOf fun pl hpl => ?_))
  unfold EntryCells.newEntry newFields
  refine wpAny_bind (wpAny_newObj_type ?_ (hpl.sizeOk5 _ _ _ _ _))
  generalize hO : ({ cls := .type "traceback", dict := none, data := .fields ([head, .ref L, .none, rawInt L, .none] ++ (if pl.isEmpty then List.replicate 6 Value.none else pl)).toArray } : Obj) = ob
  have e₁ : h₁.get? e = some oe := (b₁.2.1 e out).trans he
  have st₁ : base.StaysIn h₁ := fun b o q => (b₁.2.1 b fun hm => by rw [(hl.mem hm).1] at q; cases q).trans (hkb b o q)
  have e₂ := Heap.get?_push_of_some (h := h₁) ob e₁
  refine wpAny_setField e₂ hd (by omega) (k _ ?_ ?_)
  all_goals
    have ne : h₁.objs.size ≠ e := Nat.ne_of_gt (Heap.lt_size e₁)
    have d₃ := Obj.data_mapFields hd (·.setIfInBounds 1 (Value.ref h₁.objs.size))
    have e₃ := Heap.get?_update_self (Obj.mapFields (·.setIfInBounds 1 (Value.ref h₁.objs.size))) e₂ (Obj.isFreed_of_fields d₃)
    have t₃ := (Heap.get?_update_other (h₁.push ob) (Obj.mapFields (·.setIfInBounds 1 (Value.ref h₁.objs.size))) (Ne.symm ne)).trans (Heap.get?_push_size h₁ (by rw [← hO]; rfl))
    have keep : ∀ b o, b ≠ e → h₁.get? b = some o → ((h₁.push ob).update e (Obj.mapFields (·.setIfInBounds 1 (Value.ref h₁.objs.size)))).get? b = some o := fun b o hbe hb => by
      rw [Heap.get?_update_other _ _ (Ne.symm hbe)]
      exact Heap.get?_push_of_some _ hb
    have norec : ∀ b o, s.heap.get? b = some o → (∀ vs, o.data ≠ .fields vs) → b ≠ e := fun b o hb hnf q => by
      rw [q, he] at hb; injection hb with hb; subst hb; exact hnf vs hd
  · refine ⟨fun b o q => keep b o (fun z => by rw [z, hen] at q; cases q) (st₁ b o q), hen, hl.of_keeps fun b o hb hnf => ?_, _, vs.setIfInBounds 1 (.ref h₁.objs.size), h₁.objs.size, _, _, e₃, Obj.cls_mapFields _ _, d₃, by simp [show 1 < vs.size by omega], by rw [Array.getElem?_setIfInBounds_ne (by decide)]; exact h2, st₁.fresh, ne, t₃, by rw [← hO], ?_⟩
    · obtain ⟨sl, hs⟩ := b₁.2.2 b o hb
      exact ⟨_, keep b _ (norec b o hb hnf) hs, rfl⟩
    · first | (simp; done) | (rcases hpl with rfl | ⟨_, _, _, _, _, _, _, rfl⟩ <;> simp)
  · intro b o hb hnf
    obtain ⟨sl, hs⟩ := b₁.2.2 b o hb
    exact ⟨sl, keep b _ (norec b o hb hnf) hs⟩
theorem zhA (hfr : A.frames = some (env :: outer)) (hl : s.heap.FunFrames base (env :: outer)) (hf : env.frame = some L) (he : s.heap.get? e = some oe) (hkb : base.StaysIn s.heap) (hen : base.get? e = none) (hd : oe.data = .fields vs) (h1 : vs[1]? = some .none) (h2 : vs[2]? = some .none)
    (k : ∀ h', Way1 base (env :: outer) e oe.cls (rawInt L) h' → s.heap.UpToSlots h' → Q () { s with heap := h' }) : wpAny M A (noteFrame (.ref e) env) Q E s := by
  unfold noteFrame
  simp only [hf]
  refine wpAny_bind (wpAny_field he hd h1 ?_)
  rw [if_neg (by decide)]
  exact zhl hfr hl hf he hkb hen hd (Array.getElem?_eq_some_iff.mp h2).1 h2 k
theorem zhN (hfr : A.frames = some (env :: outer)) (hf : env.frame = some L) (W : Way1 base (env :: outer) e cls fl s.heap) (k : ∀ h', Way1 base (env :: outer) e cls (rawInt L) h' → s.heap.UpToSlots h' → Q () { s with heap := h' }) : wpAny M A (noteFrame (.ref e) env) Q E s := by
  have W' := W
  obtain ⟨hkb, hen, hl, oe, vs, T, oT, ts, he, rfl, hd, h1, h2, hnT, hTe, hT, hdT, h3⟩ := W
  unfold noteFrame
  simp only [hf]
  refine wpAny_bind (wpAny_field he hd h1 ?_)
  rw [if_pos (show (Value.ref T != Value.none) = true from by simp)]
  refine wpAny_bind (wpAny_field hT hdT h3 ?_)
  by_cases hz : (fl == rawInt L) = true
  · rw [if_pos hz]
    rw [show fl = rawInt L by simpa using hz] at W'
    exact wpAny_pure (k s.heap W' fun b o hb _ => ⟨o.slots, hb⟩)
  rw [if_neg hz]
  refine wpAny_bind (wpAny_setField hT hdT (Array.getElem?_eq_some_iff.mp h3).1 ?_)
  have other : ∀ b, b ≠ T → (s.heap.update T (Obj.mapFields (·.setIfInBounds 3 Value.none))).get? b = s.heap.get? b := fun b hb => Heap.get?_update_other _ _ (Ne.symm hb)
  have norec : ∀ b o, s.heap.get? b = some o → (∀ vs, o.data ≠ .fields vs) → b ≠ T := fun b o hb hnf q => by
    rw [q, hT] at hb; injection hb with hb; subst hb; exact hnf ts hdT
  exact zhl (s := { s with heap := s.heap.update T (Obj.mapFields (·.setIfInBounds 3 Value.none)) }) hfr (hl.of_keeps fun b o hb hnf => ⟨o, (other b (norec b o hb hnf)).trans hb, rfl⟩) hf ((other e (Ne.symm hTe)).trans he)
    (fun b o q => (other b fun z => by rw [z, hnT] at q; cases q).trans (hkb b o q)) hen hd (Array.getElem?_eq_some_iff.mp h2).1 h2 fun h' w' u => k h' w' fun b o hb hnf => u b o ((other b (norec b o hb hnf)).trans hb) hnf
theorem zgR (W : Way1 base l e cls fl s.heap) (k : ∀ h', Way1 base l e cls .none h' → s.heap.UpToSlots h' → Q () { s with heap := h' }) : wpAny M A (setFlight (.ref e) none) Q E s := by
  obtain ⟨hkb, hen, hl, oe, vs, T, oT, ts, he, hcls, hd, h1, h2, hnT, hTe, hT, hdT, h3⟩ := W
  have z3 : 3 < ts.size := (Array.getElem?_eq_some_iff.mp h3).1
  have other : ∀ b, b ≠ T → (s.heap.update T (Obj.mapFields (·.setIfInBounds 3 ((none : Option Addr).elim Value.none fun f => rawInt f)))).get? b = s.heap.get? b := fun b hb => Heap.get?_update_other _ _ (Ne.symm hb)
  have norec : ∀ b o, s.heap.get? b = some o → (∀ vs, o.data ≠ .fields vs) → b ≠ T := fun b o hb hnf q => by
    rw [q, hT] at hb; injection hb with hb; subst hb; exact hnf ts hdT
  unfold setFlight
  refine wpAny_bind (wpAny_field he hd h1 ?_)
  rw [if_pos (show (Value.ref T != Value.none) = true from by simp)]
  refine wpAny_setField hT hdT z3 (k _ ⟨fun b o q => (other b fun z => by rw [z, hnT] at q; cases q).trans (hkb b o q), hen, hl.of_keeps fun b o hb hnf => ⟨o, (other b (norec b o hb hnf)).trans hb, rfl⟩, ?_⟩ fun b o hb hnf => ⟨o.slots, (other b (norec b o hb hnf)).trans hb⟩)
  exact ⟨oe, vs, T, _, _, (other e (Ne.symm hTe)).trans he, hcls, hd, h1, h2, hnT, hTe, Heap.get?_update_self _ hT (Obj.isFreed_of_fields (Obj.data_mapFields hdT _)), Obj.data_mapFields hdT _, by simp [z3]⟩
theorem zjR {h : Heap} {args : List Value} (hfr : A.frames = some (env :: outer)) (hf : env.frame = some L) (hkb : base.StaysIn h) (hl : h.FunFrames base (env :: outer)) (hx : Heap.MadeExcOf h s.heap e cls args)
    (k : ∀ h', Way1 base outer e cls .none h' → h.UpToSlots h' → Q () { s with heap := h' }) : wpAny M A (leaving env (.ref e)) Q E s := by
  obtain ⟨t, he, htn, ht⟩ := hx.there
  have fresh : ∀ b, h.get? b = none → base.get? b = none := fun b hb => by
    cases hq : base.get? b with
    | none => rfl
    | some o' => have := hkb b o' hq; rw [hb] at this; cases this
  unfold leaving
  refine wpAny_bind (zhA hfr (hl.of_keeps fun b o hb _ => ⟨o, hx.keeps b o hb, rfl⟩) hf he (fun b o hb => hx.keeps b o (hkb b o hb)) (fresh e hx.new) rfl rfl rfl fun h₁ w₁ u₁ => zgR (s := { s with heap := h₁ }) w₁ fun h₂ w₂ u₂ => ?_)
  exact k h₂ ⟨w₂.st, w₂.no, w₂.ff.2.2, w₂.tr⟩ ((Heap.UpToSlots.of_keeps hx.keeps).trans (u₁.trans u₂))
theorem zjF (hfr : A.frames = some (env :: outer)) (hf : env.frame = some L) (W : Way1 base (env :: outer) e cls fl s.heap) (k : ∀ h', Way1 base outer e cls .none h' → s.heap.UpToSlots h' → Q () { s with heap := h' }) : wpAny M A (leaving env (.ref e)) Q E s := by
  unfold leaving
  exact wpAny_bind (zhN hfr hf W fun h₁ w₁ u₁ => zgR (s := { s with heap := h₁ }) w₁ fun h₂ w₂ u₂ => k h₂ ⟨w₂.st, w₂.no, w₂.ff.2.2, w₂.tr⟩ (u₁.trans u₂))
end
end L2.Y
namespace L2.Y
open PySem PySem.Spec PyProof.Rows PySem.W
theorem kQ {P : Program} {w : World} {H : Hp} {h : Heap} {a : Addr} {o : HO} (x : jL P w H h a o) : ∃ ob, h.get? a = some ob := by
  cases o with
  | lst xs => obtain ⟨_, _, _, _, e⟩ := x; exact ⟨_, e⟩
  | tup xs => obtain ⟨_, _, _, _, e, _⟩ := x; exact ⟨_, e⟩
  | dK kvs => obtain ⟨_, _, _, _, o, _, _, e, _⟩ := x; exact ⟨_, e⟩
  | dT kvs => obtain ⟨_, _, _, _, o, _, _, e, _⟩ := x; exact ⟨_, e⟩
  | set S n => obtain ⟨o, _, _, _, e, _⟩ := x; exact ⟨_, e⟩
  | ins C dx fs => obtain ⟨_, _, _, e, _⟩ := x; exact ⟨_, e⟩
  | own y => obtain ⟨_, e⟩ := x; exact ⟨_, e⟩
  | xd fs => obtain ⟨_, ⟨_, _, _, e, _⟩, _⟩ := x; exact ⟨_, e⟩
  | rng lo hi => obtain ⟨_, _, _, e⟩ := x; exact ⟨_, e⟩
  | frz ob u => obtain ⟨e, _⟩ := x; exact ⟨_, e⟩
  | tbl ps => exact ⟨_, show h.get? a = some _ from x⟩
  | met f y => exact ⟨_, show h.get? a = some _ from x⟩
  | ext φ => obtain ⟨_, ⟨_, e⟩, _⟩ := x; exact ⟨_, e⟩
structure Safe (l : List Env) (ch : List Addr) (H H' : Hp) (h h1 B : Heap) : Prop where
  tr : ∀ b o ob, H' b = some o → h1.get? b = some ob → B.get? b = some ob
  un : ∀ b ob, h.get? b = some ob → H b = none → b ∉ frs l → b ∉ ch → B.get? b = some ob
section
variable {P : Program} {w : World} {l : List Env} {ch : List Addr} {H H' : Hp} {h h1 h2 B : Heap}
theorem Safe.hok (S : Safe l ch H H' h h1 B) (ok : HOk P w H' h1) (st : B.StaysIn h2) : HOk P w H' h2 := fun b o q => by
  refine (ok b o q).stay (fun c v hc r => st c v ?_) (fun c r => r) fun c xs r => r
  rcases hc with rfl | hc
  · exact S.tr c o v q r
  · exact S.tr c _ v hc r
theorem Safe.step (S : Safe l ch H H' h h1 B) (u : Un (frs l) ch H H' h h1) (sm : Same H H') (ff : h1.FunFrames B l) (st : B.StaysIn h2) (up : h1.UpToSlots h2) : Un (frs l) ch H H' h h2 where
  keep := fun b o q n hb hx => st b o (S.un b o q n hb hx)
  slot := fun b o q n hb hx => by
    obtain ⟨sl, e⟩ := u.slot b o q n hb hx
    obtain ⟨_, o', e', hd⟩ := ff.mem hb
    rw [e] at e'; cases e'
    obtain ⟨sl2, e2⟩ := up b _ e hd
    exact ⟨sl2, e2⟩
  free := u.free
  there := fun b o q hx => by
    obtain ⟨o1, e1⟩ := u.there b o q hx
    cases z : H' b with
    | some t => exact ⟨o1, st b o1 (S.tr b t o1 z e1)⟩
    | none =>
      by_cases hb : b ∈ frs l
      · obtain ⟨_, o', e', hd⟩ := ff.mem hb
        rw [e1] at e'; cases e'
        obtain ⟨sl2, e2⟩ := up b _ e1 hd
        exact ⟨_, e2⟩
      · cases y : H b with
        | some t => rw [sm b t y] at z; cases z
        | none => exact ⟨o, st b o (S.un b o q y hb hx)⟩
  tups := u.tups
  frzs := u.frzs
  tbls := u.tbls
end
structure Fl (P : Program) (w : World) (l : List Env) (ch : List Addr) (H : Hp) (s : Shared) (C a : Addr) (H' : Hp) (s' : Shared) : Prop where
  os : s'.os = s.os
  bare : AllBare s'.gens
  un : Un (frs l) ch H H' s.heap s'.heap
  hok : HOk P w H' s'.heap
  sm : Same H H'
  way : ∃ B fl, Way1 B l a (.ref C) fl s'.heap ∧ Safe l ch H H' s.heap s'.heap B
noncomputable def CXr (P : Program) (w : World) : CXT := fun outer H s E e s' => ∃ a C H', e = .ref a ∧ Fl P w outer [] H s C a H' s' ∧ E (.ref C) none H'
section
variable {X : Cx} {pins : List (Addr × Obj)} {σ : St} {H H2 : Hp} {s s2 : Shared} {C e : Addr}
theorem Way1.mono {base : Heap} {env : Env} {l : List Env} {e : Addr} {cls fl : Value} {h : Heap} (W : Way1 base (env :: l) e cls fl h) : Way1 base l e cls fl h := ⟨W.st, W.no, W.ff.2.2, W.tr⟩
theorem zaC {env : Env} {l : List Env} {L : Addr} (hf : env.frame = some L) : frs (env :: l) = L :: frs l := by
  unfold frs
  rw [List.filterMap_cons, hf]
theorem zdr {Q : Unit → Shared → Prop} {E : Value → Shared → Prop} {args : List Value} {h2 : Heap} {tk : Nat} (I : Inv X pins σ H s) (hs : X.stack = X.env :: X.outer) (hf : X.env.frame = some X.env.locals) (hx : X.ex = []) (sm : Same X.H₀ H) (m : Heap.MadeExcOf s.heap h2 e (.ref C) args)
    (k : ∀ s3, Fl X.prog X.w X.outer [] X.H₀ X.s₀ C e H s3 → Q () s3) : wpAny (model X.prog X.w) X.A (leaving X.env (.ref e)) Q E { s with heap := h2, toks := tk } := by
  have fr : X.A.frames = some (X.env :: X.outer) := by rw [I.ok.frames, hs]
  have hl : s.heap.FunFrames X.base (X.env :: X.outer) := by rw [← hs]; exact I.stack
  have hin : ∀ env ∈ (X.env :: X.outer), ∀ b, env.frame = some b → b ∈ frs (X.env :: X.outer) := fun env he b hb => List.mem_filterMap.mpr ⟨env, he, hb⟩
  have ff := funFrames_hide (as := frs (X.env :: X.outer)) hl hin
  have un : Un (frs X.outer) [] X.H₀ H X.s₀.heap s.heap := by have := I.base; rw [hx] at this; exact this
  have stf : ∀ b ∈ frs (X.env :: X.outer), H b = none := by rw [← hs]; exact I.stkFree
  have lt : ∀ b ob, X.s₀.heap.get? b = some ob → b ∉ frs X.outer → b ∉ frs (X.env :: X.outer) := fun b ob q n z => by
    rw [zaC hf] at z
    rcases List.mem_cons.mp z with z | z
    · rw [z] at q
      exact absurd (Heap.lt_size q) (Nat.not_lt.mpr I.ok.above)
    · exact n z
  have S : Safe X.outer [] X.H₀ H X.s₀.heap s.heap (hideAll s.heap (frs (X.env :: X.outer))) := ⟨fun b o ob q r => hideAll_get _ r (fun z => by rw [stf b z] at q; cases q), fun b ob q n nb _ => hideAll_get _ (un.keep b ob q n nb (by simp)) (lt b ob q nb)⟩
  refine zjR (h := s.heap) fr hf (fun b o q => of_hideAll _ q) ff m fun h3 W up => k _ ⟨I.os, I.bare, S.step un sm ff.2.2 W.st up, S.hok I.hok W.st, sm, _, _, W, ⟨fun b o ob q r => ?_, S.un⟩⟩
  obtain ⟨ob1, r1⟩ := kQ (I.hok b o q)
  have r2 := S.tr b o ob1 q r1
  rw [W.st b ob1 r2] at r
  cases r
  exact r2
theorem zdq {ch : List Addr} {Q : Unit → Shared → Prop} {E : Value → Shared → Prop} (I : Inv X pins σ H s) (hs : X.stack = X.env :: X.outer) (hf : X.env.frame = some X.env.locals) (hx : X.ex = []) (sm : Same X.H₀ H2) (f : Fl X.prog X.w X.stack ch H s C e H2 s2) (hch : ∀ b ∈ ch, b ∈ X.ex ∨ X.s₀.heap.objs.size ≤ b)
    (k : ∀ s3, Fl X.prog X.w X.outer [] X.H₀ X.s₀ C e H2 s3 → Q () s3) : wpAny (model X.prog X.w) X.A (leaving X.env (.ref e)) Q E s2 := by
  have fr : X.A.frames = some (X.env :: X.outer) := by rw [I.ok.frames, hs]
  obtain ⟨os, bare, un2, hok, sm2, B, fl, W, S⟩ := f
  rw [hs] at un2 W S
  have un : Un (frs X.outer) [] X.H₀ H X.s₀.heap s.heap := by have := I.base; rw [hx] at this; exact this
  have ltL : ∀ b ob, X.s₀.heap.get? b = some ob → b ≠ X.env.locals := fun b ob q z => by
    rw [z] at q
    exact absurd (Heap.lt_size q) (Nat.not_lt.mpr I.ok.above)
  have nch : ∀ b ob, X.s₀.heap.get? b = some ob → b ∉ ch := fun b ob q z => by
    rcases hch b z with y | y
    · rw [hx] at y; cases y
    · exact absurd (Heap.lt_size q) (Nat.not_lt.mpr y)
  have mem : ∀ b, b ∈ frs (X.env :: X.outer) ↔ b = X.env.locals ∨ b ∈ frs X.outer := fun b => by rw [zaC hf, List.mem_cons]
  have uc : Un (frs X.outer) [] X.H₀ H2 X.s₀.heap s2.heap := {
    keep := fun b o q n nb hx => un2.keep b o (un.keep b o q n nb hx) (un.free b o q n hx) (fun z => ((mem b).mp z).elim (ltL b o q) nb) (nch b o q)
    slot := fun b o q n hb hx => by
      obtain ⟨sl, e1⟩ := un.slot b o q n hb hx
      obtain ⟨sl2, e2⟩ := un2.slot b _ e1 (un.free b o q n hx) ((mem b).mpr (.inr hb)) (nch b o q)
      exact ⟨sl2, e2⟩
    free := fun b o q n hx => by
      obtain ⟨o1, e1⟩ := un.there b o q hx
      exact un2.free b o1 e1 (un.free b o q n hx) (nch b o q)
    there := fun b o q hx => by
      obtain ⟨o1, e1⟩ := un.there b o q hx
      exact un2.there b o1 e1 (nch b o q)
    tups := fun b xs q => un2.tups b xs (un.tups b xs q)
    frzs := fun b o u q => un2.frzs b o u (un.frzs b o u q)
    tbls := fun b ps q => by
      obtain ⟨m1, q1⟩ := un.tbls b ps q
      obtain ⟨m2, q2⟩ := un2.tbls b _ q1
      exact ⟨m1 ++ m2, by rw [q2, Array.append_assoc]⟩ }
  have S2 : Safe X.outer [] X.H₀ H2 X.s₀.heap s2.heap B := ⟨S.tr, fun b ob q n nb _ => S.un b ob (un.keep b ob q n nb (by simp)) (un.free b ob q n (by simp)) (fun z => ((mem b).mp z).elim (ltL b ob q) nb) (nch b ob q)⟩
  refine zjF fr hf W fun h3 W3 up => k _ ⟨os.trans I.os, bare, S2.step uc sm W.ff.2.2 W3.st up, S2.hok hok W3.st, sm, B, _, W3, ⟨fun b o ob q r => ?_, S2.un⟩⟩
  obtain ⟨ob1, r1⟩ := kQ (hok b o q)
  have r2 := S2.tr b o ob1 q r1
  rw [W3.st b ob1 r2] at r
  cases r
  exact r2
end
end L2.Y
namespace L2.Y
open PySem PySem.Spec PySem.Calls PyProof.Rows PySem.W
inductive RX (X : Cx) (σ : St) (H : Hp) (C : Addr) : Value → Shared → Prop
  | made {pins : List (Addr × Obj)} {s : Shared} {e : Addr} {h2 : Heap} {tk : Nat} {args : List Value} : Inv X pins σ H s → Heap.MadeExcOf s.heap h2 e (.ref C) args → RX X σ H C (.ref e) { s with heap := h2, toks := tk }
  | pass {pins : List (Addr × Obj)} {ch : List Addr} {H2 : Hp} {s s2 : Shared} {e : Addr} : Inv X pins σ H s → (∀ b ∈ ch, (b ∈ X.ex ∨ X.s₀.heap.objs.size ≤ b) ∧ b ≠ X.env.locals ∧ (∀ x c, X.env.cells.lookup x = some c → c ≠ b) ∧ ∀ p ∈ X.pn ++ pins, p.1 ≠ b) → Fl X.prog X.w X.stack ch H s C e H2 s2 → RX X σ H C (.ref e) s2
noncomputable def RXok (X : Cx) (x : GX) (σ : St) (H : Hp) : Prop := ∃ F O ρ c, SR X.K F O ρ σ H ∧ x ρ = some c ∧ ∀ C O' σ' H' e s', X.mg c.1 = some (.ref C) → SR X.K F O' c.2 σ' H' → RX X σ' H' C e s' → X.xe e s'
noncomputable def PXe (X : Cx) (e : Expr) (x : GX) : Prop := PE X e (fun σ H _ => RXok X x σ H)
noncomputable def PX (X : Cx) (st : Stmt) (x : GX) : Prop := PS X st (fun _ σ H => RXok X x σ H)
noncomputable def PXs (X : Cx) (st : List Stmt) (x : GX) : Prop := PSs X st (fun _ σ H => RXok X x σ H)
section
variable {X : Cx} {st : Stmt} {rest : List Stmt} {g : GS} {x y : GX} {e : Expr} {pos : Pos}
theorem zjh {σ : St} {H : Hp} : ¬ RXok X xNo σ H := fun ⟨_, _, _, _, _, q, _⟩ => nomatch q
theorem zkA : PX X st xNo := fun _ _ _ _ _ _ h => (zjh h).elim
theorem zcU {sts : List Stmt} : PXs X sts xNo := fun _ _ _ _ _ _ h => (zjh h).elim
theorem qd (h : PX X st x) : PXs X (st :: rest) x := fun pins s σ H D I q => wpAny_execs_cons (thn (h pins s σ H { nx := fun _ _ => False, rt := fun _ _ => False } I q) fun f s1 z => by
  cases f with
  | next => obtain ⟨_, _, _, z⟩ := z; exact z.elim
  | ret v => obtain ⟨_, _, _, _, _, z⟩ := z; exact z.elim
  | brk => obtain ⟨_, _, _, z⟩ := z; exact z.elim
  | cont => obtain ⟨_, _, _, z⟩ := z; exact z.elim)
theorem ya (hn : PSd X st g) (hx : PX X st x) (hr : PXs X rest y) : PXs X (st :: rest) (xSeq g x y) := fun pins s σ H D I ⟨F, O, ρ, c, r, e, k⟩ => by
  unfold xSeq at e
  split at e
  · rename_i c' q
    cases e
    exact qd hx pins s σ H D I ⟨F, O, ρ, _, r, q, k⟩
  · split at e
    · rename_i ρ' q
      exact zcw hn hr pins s σ H D I ⟨F, O, ρ, .nxt ρ', r, q, fun O' σ' H' r' => ⟨F, O', ρ', c, r', e, k⟩⟩
    · cases e
theorem zg5 {c : Expr} {a b : List Stmt} {gt : Env' → Option Bool} (hc : PTd X c gt) (ha : PXs X a x) (hb : PXs X b y) : PX X (.If c a b pos) (xIf gt x y) := PS.imp (zjA hc ha hb) fun D σ H ⟨F, O, ρ, cc, r, e, k⟩ => by
  obtain ⟨b1, e1, e2⟩ := Option.bind_eq_some_iff.mp e
  refine ⟨F, O, ρ, b1, r, e1, fun H1 s1 => ?_⟩
  cases b1 with
  | true => exact iteT ⟨F, O, ρ, cc, r.same s1, e2, k⟩
  | false => exact iteF ⟨F, O, ρ, cc, r.same s1, e2, k⟩
theorem zil (h : PXe X e x) : PX X (.Return (some e) pos) x := PS.imp (zhe h) fun _ _ _ q => q
theorem zcr {tg : Expr} (h : PXe X e x) (hs : swapsWithSole [tg] e pos.line X.env = pure false := by rfl) (hw : swappedStores [tg] e X.env = pure none := by rfl) (h1 : (assignEach [tg] X.env).map (·.2) = [assign tg X.env] := by rfl) : PX X (.Assign [tg] e pos) x :=
  PS.imp (zbm (g := fun _ _ _ _ => False) h (fun _ _ _ _ _ _ _ _ _ z => z.elim) hs hw h1) fun _ _ _ q => q
noncomputable def spX (K : Frag) (mg : Str → Option Value) (n : Nat) (f : List D → Option Str) : Sp := fun vs H _ E => ∃ O ds c C, Dom O H ∧ Reps K (hide O H) ds vs ∧ ds.length = n ∧ f ds = some c ∧ mg c = some (.ref C) ∧ ∀ H', Same H H' → E (.ref C) none H'
theorem zd8 {CX : CXT} {k : Nat} {f : Addr} {fd : FuncData} {ps : List Str} {sp : Sp} {E : XK} {pins : List (Addr × Obj)} {σ : St} {H : Hp} {s : Shared} {Q : VK} {us : List Value} {vs : List V} (F : FnOk X.prog X.w X.K X.mg X.base CX k f fd ps sp) (hr : Room k X.A) (hb : Binds X.K fd ps []) (hx : ∀ e s', CX X.stack H s E e s' → X.xe e s')
    (I : Inv X pins σ H s) (r : Vals vs us) (h : sp vs H Q E) : wpAny (model X.prog X.w) X.A (call (.ref f) us) (EP X pins σ Q) X.xe s := by
  have hl : us.length = ps.length := by rw [← r.length]; exact F.len _ _ _ _ h
  have hb' := hb s us I.kIn (by rw [List.append_nil]; exact hl)
  rw [List.append_nil] at hb'
  refine wpAny_call (codeAny_mono (F.run X.A X.stack s H ⟨us, []⟩ us vs Q E hr I.env0 hb' r h) fun r s' hq => ?_)
  cases r with
  | error e => exact hx e s' hq
  | ok fl =>
    cases fl with
    | ret u => exact I.after hq
    | next => exact False.elim hq
    | brk => exact False.elim hq
    | cont => exact False.elim hq
theorem zgJ {k n : Nat} {f : Addr} {fd : FuncData} {ps : List Str} {fn : List D → Option Str} {nm : Str} {p : Pos} {es : List Expr} {ga : Env' → Option (List D)} (hcl : ∀ ds c, fn ds = some c → ∃ C, X.mg c = some (.ref C)) (F : FnOk X.prog X.w X.K X.mg X.base (CXr X.prog X.w) k f fd ps (spX X.K X.mg n fn)) (hr : Room k X.A) (hg : Gl X nm) (hm : X.mg nm = some (.ref f)) (hk : PySem.W.keepIn X.K (.ref f) = true) (hb : Binds X.K fd ps [])
    (ha : PAd X (e :: es) ga) (hdb : (nm == ("__debug__" : Str)) = false := by decide) (he : starEach (e :: es) X.env = (false, eval e X.env) :: starEach es X.env := by exact jI rfl) (hpl : (backTo pos (starEach es X.env)).any (·.1) = false := by rfl) :
    PXe X (.Call (.Name nm p) (e :: es) [] pos) (zgY n fn ga) := by
  intro pins s σ H Q I ⟨F', O, ρ, c, r, ee, kx⟩
  obtain ⟨ds, e1, e2⟩ := Option.bind_eq_some_iff.mp ee
  split at e2
  · rename_i hl
    obtain ⟨c', e3, rfl⟩ := Option.map_eq_some_iff.mp e2
    obtain ⟨C, hC⟩ := hcl ds c' e3
    refine wpAny_Call_Name_kw (yp I hg hm ?_ hdb)
    refine PySem.W.callWith_K (h₀ := X.base) I.ok.mod.kin hk (thn (ha pos pins s σ H (fun vs H1 => Same H H1 ∧ Reps X.K (hide O H1) ds vs) I ⟨F', O, ρ, ds, r, e1, fun vs H1 s1 b1 => ⟨s1, b1⟩⟩) fun us s1 ⟨vs, H1, I1, rv, sm, b1⟩ => ⟨I1.kIn, ?_⟩) he hpl
    refine zd8 (E := fun Cv _ _ => Cv = .ref C) F hr hb (fun e' s' ⟨a, C', H', hea, fl, hE⟩ => ?_) I1 rv ⟨O, ds, c', C, (r.same sm).dom, b1, hl, e3, hC, fun H' s2 => rfl⟩
    cases hE
    subst hea
    exact kx C O σ H1 _ s' hC (r.same sm) (.pass (ch := []) I1 (fun b hb => absurd hb (by simp)) fl)
  · cases e2
end
abbrev cxR (P : Program) (w : World) (K : Frag) (mg : Str → Option Value) (base : Heap) (N : List Str) (qual : Str) (st : Stmt) (f : Addr) (cdv : Value) (A : Around) (outer : List Env) (s : Shared) (H : Hp) (E : XK) : Cx :=
  cxOf (CXr P w) P w K mg base N qual (zc st) f cdv A outer s H E
section
variable {P : Program} {w : World} {K : Frag} {mg : Str → Option Value} {base : Heap}
theorem zfI {x qual : Str} {st : Stmt} {f : Addr} {fd : FuncData} {N ps : List Str} {k : Nat} {g : GX} (F : Fun K x qual st f fd) (S : FnScope N ps (zc st))
    (hb : ∀ (cdv : Value) (A : Around) (outer : List Env) (s : Shared) (H : Hp) (E : XK), Room k (A.deeper (envOfC qual (zc st) s.heap.objs.size f cdv)) → PXs (cxR P w K mg base N qual st f cdv A outer s H E) (zj st) g) :
    FnOk P w K mg base (CXr P w) (k + 1) f fd ps (spX K mg ps.length (runX N.length g)) := by
  have hpl : ps.length ≤ N.length := by have := congrArg List.length S.pre; rw [List.length_take] at this; omega
  obtain ⟨oc, od, kV, doc, pm, an, cdv, ct, osl, rfl, lk, hcd⟩ := F.ex
  refine zja lk hcd S (fun vs H Q E h => ?_) fun A outer s H vs Q E hr h => ?_
  · obtain ⟨O, ds, c, C, _, r, hl, _⟩ := h
    rw [← r.length]; exact hl
  · obtain ⟨O, ds, c, C, hO, r, hl, e, hC, kE⟩ := h
    obtain ⟨⟨c', ρ'⟩, e', rfl⟩ := Option.map_eq_some_iff.mp e
    refine ⟨_, hb cdv A outer s H E hr, ⟨H, O, hide O H⟩, O, jm N.length ds, (c', ρ'), zcu hO r (by omega), e', fun C' O' σ' H' e' s' hC' sr rx => ?_⟩
    have eq : C' = C := by
      have q := hC'.symm.trans hC
      injection q with q
      injection q
    subst eq
    cases rx with
    | made I m => exact zdr I rfl rfl rfl sr.hb m fun s3 fl => ⟨_, _, _, rfl, fl, kE _ fl.sm⟩
    | pass I hch fl => exact zdq I rfl rfl rfl (sr.hb.trans fl.sm) fl (fun b hb => (hch b hb).1) fun s3 fl => ⟨_, _, _, rfl, fl, kE _ fl.sm⟩
end
end L2.Y
namespace L2.Y
open PySem PySem.Spec PySem.Calls PyProof.Rows PySem.W
noncomputable def strK (es : Array DictEntry) : Bool := es.toList.all fun e => match e.key with | .str _ _ => true | _ => false
noncomputable def kO (K : PySem.W.Frag) (N : Addr) : Bool := match K.lookup N with
  | some ⟨_, _, .dict es _, _⟩ => strK es && (nsFind es "__init__").isNone
  | _ => false
theorem zbf {K : PySem.W.Frag} {N : Addr} (e : kO K N = true) : ∃ m, (∀ h : Heap, K.In h → h.Ns N m) ∧ m "__init__" = none := by
  unfold kO at e
  split at e
  · rename_i c d es ep sl q
    rw [Bool.and_eq_true] at e
    refine ⟨nsFind es, fun h X => ⟨_, es, ep, X _ _ q, rfl, fun x hx => ?_, fun _ => rfl⟩, by simpa using e.2⟩
    have := List.all_eq_true.mp e.1 x (by simpa using hx)
    split at this
    · rename_i n t hk
      exact ⟨n, t, hk⟩
    · cases this
  · cases e
inductive TailK (K : PySem.W.Frag) : List Value → Prop
  | base : TailK K VE
  | own {A : Addr} {c0 : Value} {dd : Option Addr} {cd : ClassData} {sl : Array (Option Value)} {tl : List Value} : K.lookup A = some { cls := c0, dict := dd, data := .cls cd, slots := sl } → kO K cd.ns = true → TailK K tl → TailK K (.ref A :: tl)
theorem TailK.tail {K : PySem.W.Frag} {h : Heap} (X : K.In h) {tl : List Value} (T : TailK K tl) : OwnTail h VE tl := by
  induction T with
  | base => exact .base
  | own hA hN _ ih =>
    obtain ⟨m, h1, h2⟩ := zbf hN
    exact .own (X _ _ hA) (h1 _ X) h2 ih
structure ExR (K : PySem.W.Frag) (C : Addr) : Prop where
  ex : ∃ nm q N bs bm hdct sn sub ab col dd k0 k1 k2 k3 k5, K.lookup C = some (excClassObj nm q C N bs bm hdct sn sub ab col dd k0 k1 k2 k3 k5 "ValueError.__new__") ∧ kO K N = true ∧ TailK K bm
section
variable {X : Cx}
theorem vj {cn : Str} {C : Addr} {msg : Str} {j np cp cpos pos} (R : ExR X.K C) (hm : X.mg cn = some (.ref C)) (hc : X.calm = true) (hg : Gl X cn) (hd : (cn == ("__debug__" : Str)) = false := by decide)
    (hs : starEach [.Constant (.str msg) j cp] X.env = [(false, eval (.Constant (.str msg) j cp) X.env)] := by rfl) : PX X (.Raise (some (.Call (.Name cn np) [.Constant (.str msg) j cp] [] cpos)) none pos) (wu cn) := by
  intro pins s σ H D I ⟨F', O, ρ, c, r, e, k⟩
  cases e
  obtain ⟨nm, q, N, bs, bm, hdct, sn, sub, ab, col, dd, k0, k1, k2, k3, k5, lk, ni, T⟩ := R.ex
  obtain ⟨mN, hN, hni⟩ := zbf ni
  have hbase : bm.contains (.type "BaseException") = true := (T.tail I.kIn).hasType (by decide)
  refine wpAny_Raise_call_subU (B := "ValueError") (Bn := "ValueError") (C := C) (bmB := VE) (mN := mN) (nm := nm) (q := q) (N := N) (bs := bs) (hdct := hdct) (sn := sn) (sub := sub) (ab := ab) (col := col) (dd := dd) (k0 := k0) (k1 := k1) (k2 := k2) (k3 := k3) (k5 := k5) F.excBase_ValueError (by decide) F.excBase_ValueError hbase (I.ok.hd hc) (by rw [hs]; rfl) hni (yp I hg hm ⟨rfl, ?_⟩ hd)
  have pa := qv (X := X) (zcG (x := msg) (j := j) (pos := cp)) wr hs cpos pins s σ H (fun vs H1 => vs.length = 1 ∧ H1 = H) I ⟨rfl, rfl⟩
  rw [hs] at pa ⊢
  refine evalArgs_plain (thn pa fun us s1 ⟨vs, H1, I1, rv, hl, hH⟩ => ?_)
  obtain rfl : H1 = H := hH
  exact ⟨rfl, by show us.length ≤ sizeLine; rw [← rv.length, hl]; decide, I1.kIn _ _ lk, hN _ I1.kIn, T.tail I1.kIn, fun h' e m => k C O σ H1 _ _ hm r (RX.made (tk := s1.toks) I1 m)⟩
end
end L2.Y
namespace L2.Y
open PySem PySem.Spec PySem.Calls PyProof.Rows PySem.W
section
variable {X : Cx} {pins : List (Addr × Obj)} {σ : St} {H H2 : Hp} {s s2 : Shared} {C e0 : Addr}
theorem ziC {M : Model} {A : Around} {E : Value → Shared → Prop} {n : Str} {i : Nat} {pos : Pos} {Q : Unit → Shared → Prop} (I : Inv X pins σ H s) (hN : X.N.Nodup) (hi : X.N[i]? = some n) (hk : X.env.kindOf n = some .local) (k : ∀ s', Inv X pins (σ.set i none) H s' → Q () s') :
    wpAny M A (do bindName X.env n .none; unbindBehindTheSuite X.env n pos) Q E s := by
  obtain ⟨m, hn, hl⟩ := id I.loc
  have hcls : (X.env.scope.kind == .class || (X.env.scope.kind == .module && X.env.locals != X.env.globals)) = false := by rw [I.ok.kind]; rfl
  obtain ⟨oL, _, _, hoL, _⟩ := id hn
  refine wpAny_nameGoes_keeps hk hn hcls fun h' v hn' hs => ?_
  have old : ∀ b o, X.s₀.heap.get? b = some o → b ≠ X.env.locals := fun b o e => Nat.ne_of_lt (Nat.lt_of_lt_of_le (Heap.lt_size e) I.ok.above)
  refine k _ ⟨I.ok, I.os, I.bare, ⟨fun b o e z hb hx => (hs.2 b (old b o e)).trans (I.base.keep b o e z hb hx), fun b o e z hb hx => ?_, I.base.free, fun b o e hx => ?_, I.base.tups, I.base.frzs, I.base.tbls⟩, ⟨_, hn', fun j y w e1 e2 e3 => ?_⟩, fun y c e => ?_, I.free, I.freeC, fun p hp => ?_, fun b ob e => ?_, by rw [List.length_set]; exact I.len⟩
  · obtain ⟨sl, e1⟩ := I.base.slot b o e z hb hx
    exact ⟨sl, (hs.2 b (old b o e)).trans e1⟩
  · obtain ⟨o', e1⟩ := I.base.there b o e hx
    exact ⟨o', (hs.2 b (old b o e)).trans e1⟩
  · by_cases hj : j = i
    · subst hj
      by_cases hlt : j < σ.length
      · rw [List.getElem?_set_self hlt] at e2; cases e2
      · rw [List.getElem?_eq_none (by rw [List.length_set]; omega)] at e2; cases e2
    · rw [List.getElem?_set_ne (Ne.symm hj)] at e2
      obtain ⟨u, r, q⟩ := hl j y w e1 e2 e3
      refine ⟨u, r, ?_⟩
      rcases q with ⟨kk, e⟩ | ⟨kk, c, e, z⟩
      · refine .inl ⟨kk, ?_⟩
        have : y ≠ n := fun e => hj (zaT hN e1 (e ▸ hi))
        simp [this, e]
      · exact .inr ⟨kk, c, e, z.sameBut hs (I.cne y c e)⟩
  · obtain ⟨w', z⟩ := I.cell y c e
    exact ⟨w', z.sameBut hs (I.cne y c e)⟩
  · obtain ⟨e, z, ne, nf, d⟩ := I.pin p hp
    exact ⟨(hs.2 p.1 ne).trans e, z, ne, nf, d⟩
  · refine (I.hok b ob e).stay (fun c w' hc q => (hs.2 c ?_).trans q) (fun _ q => q) fun _ _ q => q
    rintro rfl
    rcases hc with hc | hc
    · rw [← hc, I.free] at e; cases e
    · rw [I.free] at hc; cases hc
structure Hold (X : Cx) (pins : List (Addr × Obj)) (σ : St) (H2 : Hp) (C e0 : Addr) (B : Heap) (s1 : Shared) : Prop where
  inv : ∀ h' tk, B.StaysIn h' → s1.heap.UpToSlots h' → Inv X pins σ H2 { s1 with heap := h', toks := tk }
  none : H2 e0 = none
  out : ∀ h', Way1 B X.stack e0 (.ref C) .none h' → e0 ≠ X.env.locals ∧ e0 ∉ X.fs
  note : ∀ {Q : Unit → Shared → Prop} {E : Value → Shared → Prop}, (∀ h3, Way1 B X.stack e0 (.ref C) (rawInt X.env.locals) h3 → s1.heap.UpToSlots h3 → Q () { s1 with heap := h3 }) → wpAny (model X.prog X.w) X.A (noteFrame (.ref e0) X.env) Q E s1
theorem zeY {l : List Env} {B h : Heap} {cls fl : Value} (W : Way1 B l e0 cls fl h) : e0 ∉ frs l := fun z => by
  obtain ⟨oe, vs, T, oT, ts, he, _, hd, _⟩ := W.tr
  obtain ⟨_, o, ho, hn⟩ := W.ff.mem z
  rw [he] at ho; cases ho
  exact hn vs hd
theorem RX.hold {ev : Value} {s1 : Shared} (rx : RX X σ H C ev s1) (hs : X.stack = X.env :: X.outer) (hf : X.env.frame = some X.env.locals) : ∃ e0 pins H2 B, ev = .ref e0 ∧ Same H H2 ∧ Hold X pins σ H2 C e0 B s1 := by
  have outs : ∀ {e0 : Addr} {B h' : Heap}, Way1 B X.stack e0 (.ref C) .none h' → e0 ≠ X.env.locals ∧ e0 ∉ X.fs := fun W => by
    have z := zeY W
    rw [hs, zaC hf] at z
    exact ⟨fun q => z (by rw [q]; exact List.mem_cons_self), fun q => z (List.mem_cons_of_mem _ q)⟩
  cases rx with
  | @pass pins ch H2 s s2 e0 I hch f =>
    obtain ⟨os, bare, un2, hok, sm2, B, fl, W, S⟩ := f
    refine ⟨e0, pins, H2, B, rfl, sm2, fun h' tk st up => ?_, ?_, fun h' W' => outs W', fun {Q E} k => ?_⟩
    · exact I.call' (s' := { s1 with heap := h', toks := tk }) (ch := ch) os (S.step un2 sm2 W.ff st up) (S.hok hok st) bare hch
    · cases z : H2 e0 with
      | none => rfl
      | some o =>
        obtain ⟨ob, q⟩ := kQ (hok e0 o z)
        have := S.tr e0 o ob z q
        rw [W.no] at this; cases this
    · rw [hs] at W k
      exact zhN (by rw [I.ok.frames, hs]) hf W k
  | @made pins s e0 h2 tk args I m =>
    have hl : s.heap.FunFrames X.base (X.env :: X.outer) := by rw [← hs]; exact I.stack
    have hin : ∀ env ∈ (X.env :: X.outer), ∀ b, env.frame = some b → b ∈ frs (X.env :: X.outer) := fun env he b hb => List.mem_filterMap.mpr ⟨env, he, hb⟩
    have ff := funFrames_hide (as := frs (X.env :: X.outer)) hl hin
    have S : Safe X.stack [] H H s.heap s.heap (hideAll s.heap (frs (X.env :: X.outer))) := ⟨fun b o ob q r => hideAll_get _ r (fun z => by rw [← hs] at z; rw [I.stkFree b z] at q; cases q), fun b ob q n nb _ => hideAll_get _ q (by rw [← hs]; exact nb)⟩
    have ff' : s.heap.FunFrames (hideAll s.heap (frs (X.env :: X.outer))) X.stack := by rw [hs]; exact ff
    have fresh : ∀ b, s.heap.get? b = none → (hideAll s.heap (frs (X.env :: X.outer))).get? b = none := fun b hb => by
      cases hq : (hideAll s.heap (frs (X.env :: X.outer))).get? b with
      | none => rfl
      | some o' => have := of_hideAll _ hq; rw [hb] at this; cases this
    refine ⟨e0, pins, H, hideAll s.heap (frs (X.env :: X.outer)), rfl, Same.refl _, fun h' tk' st up => ?_, ?_, fun h' W' => outs W', fun {Q E} k => ?_⟩
    · exact I.call' (s' := { s with heap := h', toks := tk' }) (ch := []) rfl (S.step Un.refl (Same.refl _) ff' st ((Heap.UpToSlots.of_keeps m.keeps).trans up)) (S.hok I.hok st) I.bare fun b z => absurd z (by simp)
    · cases z : H e0 with
      | none => rfl
      | some o =>
        obtain ⟨ob, q⟩ := kQ (I.hok e0 o z)
        rw [m.new] at q; cases q
    · obtain ⟨t, he, htn, ht⟩ := m.there
      rw [hs] at k
      exact zhA (s := { s with heap := h2, toks := tk }) (by rw [I.ok.frames, hs]) (ff.of_keeps fun b o hb _ => ⟨o, m.keeps b o hb, rfl⟩) hf he (fun b o q => m.keeps b o (of_hideAll _ q)) (fresh e0 m.new) rfl rfl rfl k
end
abbrev cxTr (X : Cx) (E : Value → Shared → Prop) (pn : List (Addr × Obj)) : Cx := { X with xe := E, pn := pn }
abbrev cxHd (X : Cx) (e0 : Addr) (oe : Obj) (E : Value → Shared → Prop) (pn : List (Addr × Obj)) : Cx := { X with A := X.A.mark (some (.ref e0)), calm := false, xe := E, pn := (e0, oe) :: pn }
section
variable {X : Cx} {pins : List (Addr × Obj)} {σ : St} {H : Hp} {s : Shared} {E : Value → Shared → Prop}
theorem zkw {pn : List (Addr × Obj)} (ok : X.Ok) : (cxTr X E pn).Ok := ⟨ok.mod, ok.kind, ok.glob, ok.blt, ok.above, ok.inj, ok.has, ok.cab, ok.hd, ok.frames, ok.stk, ok.exf, ok.bs, ok.bsz, ok.noex, ok.exfs, ok.funs, ok.frf⟩
theorem zkp {pn : List (Addr × Obj)} {e0 : Addr} {oe : Obj} (ok : X.Ok) : (cxHd X e0 oe E pn).Ok := ⟨ok.mod, ok.kind, ok.glob, ok.blt, ok.above, ok.inj, ok.has, ok.cab, fun z => (nomatch z), ok.frames, ok.stk, ok.exf, ok.bs, ok.bsz, ok.noex, ok.exfs, ok.funs, ok.frf⟩
theorem zha (I : Inv X pins σ H s) : Inv (cxTr X E (X.pn ++ pins)) [] σ H s := ⟨zkw I.ok, I.os, I.bare, I.base, I.loc, I.cell, I.free, I.freeC, fun p hp => I.pin p (by rw [List.append_nil] at hp; exact hp), I.hok, I.len⟩
theorem wc {pins' : List (Addr × Obj)} (I : Inv (cxTr X E (X.pn ++ pins)) pins' σ H s) (ok : X.Ok) : Inv X pins σ H s := ⟨ok, I.os, I.bare, I.base, I.loc, I.cell, I.free, I.freeC, fun p hp => I.pin p (List.mem_append_left _ hp), I.hok, I.len⟩
theorem zjS {e0 : Addr} {oe : Obj} (I : Inv X pins σ H s) (h1 : s.heap.get? e0 = some oe) (h2 : H e0 = none) (h3 : e0 ≠ X.env.locals) (h4 : e0 ∉ X.fs) (h5 : ∀ v, oe.data ≠ .cell v) : Inv (cxHd X e0 oe E (X.pn ++ pins)) [] σ H s :=
  ⟨zkp I.ok, I.os, I.bare, I.base, I.loc, I.cell, I.free, I.freeC, fun p hp => by
    rw [List.append_nil] at hp
    rcases List.mem_cons.mp hp with rfl | hp
    · exact ⟨h1, h2, h3, h4, h5⟩
    · exact I.pin p hp, I.hok, I.len⟩
theorem zf2 {e0 : Addr} {oe : Obj} {pins' : List (Addr × Obj)} (I : Inv (cxHd X e0 oe E (X.pn ++ pins)) pins' σ H s) (ok : X.Ok) : Inv X pins σ H s := ⟨ok, I.os, I.bare, I.base, I.loc, I.cell, I.free, I.freeC, fun p hp => I.pin p (List.mem_append_left _ (List.mem_cons_of_mem _ hp)), I.hok, I.len⟩
theorem zhS {E' : Value → Shared → Prop} {e0 : Addr} {oe : Obj} {pn : List (Addr × Obj)} (I : Inv (cxHd X e0 oe E pn) pins σ H s) : Inv (cxHd X e0 oe E' pn) pins σ H s := ⟨⟨I.ok.mod, I.ok.kind, I.ok.glob, I.ok.blt, I.ok.above, I.ok.inj, I.ok.has, I.ok.cab, fun z => (nomatch z), I.ok.frames, I.ok.stk, I.ok.exf, I.ok.bs, I.ok.bsz, I.ok.noex, I.ok.exfs, I.ok.funs, I.ok.frf⟩, I.os, I.bare, I.base, I.loc, I.cell, I.free, I.freeC, I.pin, I.hok, I.len⟩
theorem ziG {D : Ends} {f : Flow} {s' : Shared} (ok : X.Ok) (h : SP (cxTr X E (X.pn ++ pins)) [] D f s') : SP X pins D f s' := by
  cases f with
  | next => obtain ⟨σ', H', I, q⟩ := h; exact ⟨σ', H', wc I ok, q⟩
  | brk => obtain ⟨σ', H', I, q⟩ := h; exact ⟨σ', H', wc I ok, q⟩
  | cont => obtain ⟨σ', H', I, q⟩ := h; exact ⟨σ', H', wc I ok, q⟩
  | ret u => obtain ⟨v, σ', H', I, r, q⟩ := h; exact ⟨v, σ', H', wc I ok, r, q⟩
end
section
variable {X : Cx} {body : List Stmt} {b₀ : Stmt} {suite : List Stmt} {gb : GS} {xb : GX} {names : List Str} {cn : Str} {Cn : Addr} {np hpos pos : Pos}
theorem ziY {D : Ends} {pins : List (Addr × Obj)} {f : Flow} {s' : Shared} (h : SP X pins { D with nx := fun _ _ => False, bk := fun _ _ => False, ct := fun _ _ => False } f s') : ∃ u v σ' H', f = .ret u ∧ Inv X pins σ' H' s' ∧ RelV v u ∧ D.rt v H' := by
  cases f with
  | next => obtain ⟨_, _, _, q⟩ := h; exact q.elim
  | brk => obtain ⟨_, _, _, q⟩ := h; exact q.elim
  | cont => obtain ⟨_, _, _, q⟩ := h; exact q.elim
  | ret u => obtain ⟨v, σ', H', I, r, q⟩ := h; exact ⟨u, v, σ', H', rfl, I, r, q⟩
theorem zeQ {n : Str} {i : Nat} {gh : Nat → Str → GS} (hs : X.stack = X.env :: X.outer) (hf : X.env.frame = some X.env.locals) (hN : X.N.Nodup) (hi : X.N[i]? = some n) (hk : X.env.scope.names.lookup n = some .local) (hm : X.mg cn = some (.ref Cn)) (hg : Gl X cn)
    (hcls : ∀ c, names.contains c = true → ∃ C, X.mg c = some (.ref C) ∧ exmOne X.K (.ref C) (.ref Cn) = some true)
    (hb : ∀ E pn, PSsd (cxTr X E pn) body gb) (hx : ∀ E pn, PXs (cxTr X E pn) body xb)
    (hh : ∀ e0 oe vs C c E pn, names.contains c = true → X.mg c = some (.ref C) → oe.cls = .ref C → oe.data = .fields vs → vs[2]? = some .none → PSsd (cxHd X e0 oe E pn) (b₀ :: suite) (gh e0 c))
    (hu : ∀ (e0 : Nat) (c : Str) (ρ : Env') (d : D), ρ.length = X.N.length → gh 0 c (ρ.set i (some (.val (adrD 0)))) = some (.ret d) → gh e0 c (ρ.set i (some (.val (adrD e0)))) = some (.ret d))
    (hd : (cn == ("__debug__" : Str)) = false := by decide) : PSd X (.Try body [.ExceptHandler (some (.Name cn np)) (some n) (b₀ :: suite) hpos] [] [] pos) (sTry gb xb names i gh) := by
  intro pins s σ H D I ⟨F, O, ρ, out, r, e, k⟩
  have ok := I.ok
  refine wpAny_Try_except ?_
  unfold sTry at e
  split at e
  · rename_i o q
    cases e
    refine wpAny_mono (hb _ (X.pn ++ pins) [] s σ H D (zha I) ⟨F, O, ρ, _, r, q, k⟩) (fun f s1 z => ?_) fun _ _ z => z
    have z' := ziG ok z
    cases f with
    | next => exact wpAny_execs_nil z'
    | brk => exact z'
    | cont => exact z'
    | ret u => exact z'
  · obtain ⟨⟨c, ρ'⟩, e1, e2⟩ := Option.bind_eq_some_iff.mp e
    simp only at e2
    split at e2
    · rename_i hc
      obtain ⟨oh, e3, e4⟩ := Option.bind_eq_some_iff.mp e2
      have hoh : ∃ d, oh = .ret d ∧ out = .ret d := by
        cases oh with
        | ret d => cases e4; exact ⟨d, rfl, rfl⟩
        | nxt _ => cases e4
        | brk _ => cases e4
        | cnt _ => cases e4
      obtain ⟨d, rfl, rfl⟩ := hoh
      refine wpAny_mono (hx _ (X.pn ++ pins) [] s σ H { nx := fun _ _ => False, rt := fun _ _ => False } (zha I) ⟨F, O, ρ, (c, ρ'), r, e1, fun C O' σ' H' ev s1 hC sr rx => ?_⟩) (fun f s1 z => ?_) fun _ _ z => z
      · obtain ⟨C', hC', he⟩ := hcls c hc
        have eq : C' = C := by
          have q := hC'.symm.trans hC
          injection q with q
          injection q
        subst eq
        obtain ⟨e0, pins', H2, B, rfl, sm, hold⟩ := rx.hold hs hf
        refine hold.note fun h3 W3 u3 => zgR (s := { s1 with heap := h3 }) W3 fun h4 W4 u4 => ?_
        have up4 := u3.trans u4
        have I4 : Inv X pins σ' H2 { s1 with heap := h4 } := wc (hold.inv h4 s1.toks W4.st up4) ok
        refine wpAny_handleBy_cons (codeAny_handlers_test ?_) (by intro q; cases q)
        have tr4 : ExAt e0 C' h4 := by
          obtain ⟨oe, vs, T, oT, ts, h1, h2, h3', _⟩ := W4.tr
          exact ⟨oe, vs, h1, h2, h3'⟩
        have I4m : Inv { X with A := X.A.mark (some (.ref e0)), calm := false, xe := fun _ _ => False } pins σ' H2 { s1 with heap := h4 } := ⟨⟨ok.mod, ok.kind, ok.glob, ok.blt, ok.above, ok.inj, ok.has, ok.cab, fun z => (nomatch z), ok.frames, ok.stk, ok.exf, ok.bs, ok.bsz, ok.noex, ok.exfs, ok.funs, ok.frf⟩, I4.os, I4.bare, I4.base, I4.loc, I4.cell, I4.free, I4.freeC, I4.pin, I4.hok, I4.len⟩
        refine yp (X := { X with A := X.A.mark (some (.ref e0)), calm := false, xe := fun _ _ => False }) I4m hg hm ?_ hd
        refine (exm_one (M := model X.prog X.w) I4.kIn tr4.ty he).here ?_
        refine codeAny_handlers_suite_as (zgR (s := { s1 with heap := h4 }) W4 fun h5 W5 u5 => ?_)
        have up5 := up4.trans u5
        have I5 : Inv X pins σ' H2 { s1 with heap := h5 } := wc (hold.inv h5 s1.toks W5.st up5) ok
        obtain ⟨oe, vs, T, oT, ts, h1, h2, h3', _, h5', _⟩ := W5.tr
        obtain ⟨ne, nf⟩ := hold.out h5 W5
        refine zdh (X := cxHd X e0 oe (fun _ _ => False) (X.pn ++ pins)) (zjS I5 h1 hold.none ne nf fun v z => by rw [h3'] at z; cases z) hN hi (.inl hk) (v := .ref e0) (u := .ref e0) rfl (fun s6 I6 => ?_) (.inr hk)
        have r6 := (sr.same sm).setVal (i := i) (d := adrD e0) (v := .ref e0) (Rep.adr e0)
        have len : ρ'.length = X.N.length := by rw [← sr.len]; have := I5.len; exact this
        refine wpAny_mono (hh e0 oe vs C' c _ (X.pn ++ pins) hc hC h2 h3' h5' [] s6 _ H2 { D with nx := fun _ _ => False, bk := fun _ _ => False, ct := fun _ _ => False } (zhS I6) ⟨F, O', _, .ret d, r6, hu e0 c ρ' d len e3, k⟩) (fun f s7 z => ?_) fun _ _ z => z
        obtain ⟨u, v, σ7, H7, rfl, I7, rv, q⟩ := ziY z
        exact ziC (zf2 I7 ok) hN hi hk fun s8 I8 => ⟨v, _, H7, I8, rv, q⟩
      · cases f with
        | next => obtain ⟨_, _, _, q⟩ := z; exact q.elim
        | brk => obtain ⟨_, _, _, q⟩ := z; exact q.elim
        | cont => obtain ⟨_, _, _, q⟩ := z; exact q.elim
        | ret u => obtain ⟨_, _, _, _, _, q⟩ := z; exact q.elim
    · cases e2
end
end L2.Y
namespace L2.Y
open PySem PySem.Spec PySem.Calls PyProof.Rows PySem.W
theorem zas : entryFor table "proto.unchain" = some Builtin.«proto.unchain» := entryFor_of_tree (by kernel_rfl)
section
variable {prog : Program} {w : World} {A : Around} {E : Value → Shared → Prop} {s : Shared} {it l e0 : Addr} {i : Nat} {items : Array Value} {oe : Obj} {vs : Array Value}
theorem zfW {Q : Option Value → Shared → Prop} (hh : A.handled = some (.ref e0)) (he : s.heap.get? e0 = some oe) (hde : oe.data = .fields vs) (h2 : vs[2]? = some .none) (ne : e0 ≠ it) (W : s.heap.IsListIter it l i) (T : s.heap.IsList l items) (hx : items[i]? = none)
    (k : ∀ h', Heap.ExtBut it s.heap h' → Q none { s with heap := h' }) : wpAny (model prog w) A (pyNext (.ref it)) Q E s := by
  obtain ⟨o, ho, hc, hd⟩ := id W
  obtain ⟨ol, hol, _, nl, hdl⟩ := T
  unfold pyNext
  refine wpAny_bind (wpAny_attempt (wpAny_callSpecial?_slot (name := Str.ofString "__next__") W.typeIs slot_listiter_next (wpAny_call_entry slot_listiter_next W.typeIs entry_listiter_next ?_ (args_listiter_next _))))
  show wpAny _ _ (field (.ref it) 0 >>= _) _ _ s
  refine wpAny_bind (wpAny_field ho hd (x := .ref l) rfl ?_)
  show wpAny _ _ (if (Value.ref l == Value.none) = true then _ else _) _ _ s
  rw [if_neg (show ¬ ((Value.ref l == Value.none) = true) from Bool.false_ne_true)]
  show wpAny _ _ (field (.ref it) 1 >>= _) _ _ s
  refine wpAny_bind (wpAny_field ho hd (x := .int i 0) rfl ?_)
  show wpAny _ _ (seqItems? (.ref l) >>= _) _ _ s
  refine wpAny_bind (wpAny_seqItems hol hdl ?_)
  simp only [Int.toNat_natCast, hx]
  refine wpAny_bind (wpAny_rule (wpAny_bind (wpAny_setField ho hd (by simp) ?_)))
  show wpAny _ _ (newExc (.type "StopIteration") [] >>= _) _ _ _
  refine wpAny_bind ?_
  simp only [newExc, newTuple]
  refine wpAny_bind (wpAny_newObj_type ?_ (by size_fits))
  refine wpAny_bind (m := firstArgMember _ _) (wpAny_of_eq (a := Value.none) (by first | rfl | (simp only [firstArgMember]; rfl)) ?_)
  refine wpAny_newObj_type ?_ (by size_fits)
  simp only [raiseNew]
  refine wpAny_bind (wpAny_handled ?_)
  rw [show A.in1.handled = some (.ref e0) from hh]
  generalize hB : (s.heap.update it (Obj.mapFields fun x => x.setIfInBounds 0 Value.none)).push { cls := Value.type "tuple", data := Data.seq #[] } = hb
  have e1 : hb.get? e0 = some oe := by rw [← hB]; exact Heap.get?_push_of_some _ ((Heap.get?_update_other _ _ (Ne.symm ne)).trans he)
  have nx : e0 ≠ hb.objs.size := Nat.ne_of_lt (Heap.lt_size e1)
  dsimp only
  rw [if_pos (show (Value.ref e0 != Value.ref hb.objs.size) = true from by simp [nx])]
  generalize hO : ({ cls := Value.type "StopIteration", data := _ } : Obj) = ob
  have dat : ∃ ws : Array Value, ob.data = .fields ws ∧ 2 < ws.size ∧ ob.cls = .type "StopIteration" := by rw [← hO]; exact ⟨_, rfl, by rw [Array.size_append]; exact Nat.lt_of_lt_of_le (show 2 < 6 by decide) (Nat.le_add_right _ _), rfl⟩
  obtain ⟨ws, hw, hw2, hcl⟩ := dat
  have e2 : (hb.push ob).get? e0 = some oe := Heap.get?_push_of_some _ e1
  have x2 : (hb.push ob).get? hb.objs.size = some ob := Heap.get?_push_size _ (Obj.isFreed_of_fields hw)
  refine wpAny_bind (wpAny_holding (wpAny_runValue (codeAny_builtin zas ?_)))
  show wpAny _ _ (field (.ref e0) 2 >>= _) _ _ _
  refine wpAny_bind (wpAny_field e2 hde h2 ?_)
  rw [if_pos (show (Value.none == Value.none) = true from rfl)]
  refine wpAny_pure ?_
  unfold updateField
  refine wpAny_bind (wpAny_bind (wpAny_load x2 ?_))
  rw [hw]
  dsimp only
  rw [if_pos hw2]
  refine wpAny_update x2 (wpAny_throw ?_)
  have x3 := Heap.get?_update_self (Obj.mapFields fun x => x.setIfInBounds 2 (Value.ref e0)) x2 (Obj.isFreed_of_fields (Obj.data_mapFields hw _))
  refine wpAny_bind (wpAny_isInstance (T := "StopIteration") (b := true) ⟨_, x3, (Obj.cls_mapFields ..).trans hcl⟩ isSubtype_stop ?_)
  refine wpAny_pure (k _ fun b o hbn q => ?_)
  have lt : b < hb.objs.size := by
    have q2 : hb.get? b = some o := by rw [← hB]; exact Heap.get?_push_of_some _ ((Heap.get?_update_other _ _ (Ne.symm hbn)).trans q)
    exact Heap.lt_size q2
  rw [Heap.get?_update_other _ _ (Nat.ne_of_gt lt)]
  refine Heap.get?_push_of_some _ ?_
  rw [← hB]
  exact Heap.get?_push_of_some _ ((Heap.get?_update_other _ _ (Ne.symm hbn)).trans q)
end
end L2.Y
namespace L2.Y
open PySem PySem.Spec PySem.Calls PyProof.Rows PySem.W
theorem zcf {prog : Program} {w : World} {A : Around} {e0 : Addr} {oe : Obj} {vs : Array Value} (hh : A.handled = some (.ref e0)) (hde : oe.data = .fields vs) (h2 : vs[2]? = some .none) (I ax : Addr) (hne : ax ≠ I) (ne : e0 ≠ I) (items : Array Value) :
    Walks prog w A I [I, ax, e0] [I] items.size (fun i v => items[i]? = some v) (fun i h => h.IsListIter I ax i ∧ h.IsList ax items ∧ h.get? e0 = some oe) where
  sub := fun b hb => by simp at hb; simp [hb]
  frame := fun _ _ _ st hk => ⟨st.1.at fun o e => hk I (by simp) o e, st.2.1.at fun o e => hk ax (by simp) o e, hk e0 (by simp) _ st.2.2⟩
  item := fun i s Q E hi st hQ => by
    refine wpAny_pyNext_list_item st.1 st.2.1 (x := items[i]) (by simp [hi]) fun h' hit' hs' => ?_
    exact hQ _ h' s.toks (by simp [hi]) ⟨hit', st.2.1.extBut hs'.extBut hne, hs'.extBut _ _ ne st.2.2⟩ fun b o hb e => hs'.extBut b o (fun h => hb (by simp [h])) e
  done := fun s Q E st hQ => zfW hh st.2.2 hde h2 ne st.1 st.2.1 (by simp) fun h' he' => hQ h' s.toks fun b o hb e => he' b o (fun h => hb (by simp [h])) e
  self := fun _ _ _ _ st hQ => wpAny_pyIter_listiter st.1 hQ
section
variable {X : Cx} {e0 : Addr} {oe : Obj} {vs : Array Value} {E : Value → Shared → Prop} {pn : List (Addr × Obj)}
theorem zdE (hde : oe.data = .fields vs) (h2 : vs[2]? = some .none) : yj (cxHd X e0 oe E pn) (.builtin "any") anyD := by
  intro pins s σ H O xs us ds d Q I hO rv bs e k
  unfold anyD at e
  split at e
  · obtain ⟨bl, e1, e2⟩ := Option.map_eq_some_iff.mp e
    subst e2
    cases wB e1
    obtain ⟨v, rfl, b⟩ := bs.inv1
    obtain ⟨a, ys, rfl, sq, rs⟩ := b.lst
    obtain ⟨u, rfl, ru⟩ := vals1 rv
    obtain rfl : u = Value.ref a := ru
    obtain ⟨its, r, pl, hz⟩ := I.list sq
    have hb := zaX rs r
    subst hb
    have hl := pl.isList
    have hlt : a < s.heap.objs.size := by obtain ⟨_, e, _⟩ := hl; exact Heap.lt_size e
    obtain ⟨he, _⟩ := I.pin (e0, oe) (by simp)
    have hlt0 : e0 < s.heap.objs.size := Heap.lt_size he
    refine call_any_walk (wpAny_pyIter_list hl ?_)
    refine ⟨s.heap.objs.size, [s.heap.objs.size, a, e0], [s.heap.objs.size], (bl.map Value.bool).toArray.size, _, _, fun i => (bl[i]?).getD false, rfl, zcf (A := (cxHd X e0 oe E pn).A.in1) rfl hde h2 _ a (Nat.ne_of_lt hlt) (Nat.ne_of_lt hlt0) _,
      ⟨⟨_, Heap.get?_push_size _ rfl, rfl, rfl⟩, hl.push _, Heap.get?_push_of_some _ he⟩, fun i v s' Q' E' hP hQ => ?_, fun h' tk hk => ?_⟩
    · have hP' : (bl.map Value.bool)[i]? = some v := by simpa using hP
      rw [List.getElem?_map] at hP'
      obtain ⟨b0, hb0, rfl⟩ := Option.map_eq_some_iff.mp hP'
      simp only [hb0, Option.getD_some] at hQ
      exact wpAny_truthy_bool hQ
    · have e : ((List.range (bl.map Value.bool).toArray.size).any fun i => (bl[i]?).getD false) = bl.any id := by
        rw [List.size_toArray, List.length_map]; exact PyProof.Rows.LSm.range_any bl
      rw [e]
      exact qU (I.kept (t' := tk) (PyProof.Rows.LSm.kept_iter hk)) k
  · cases e
theorem ziE {K : Frag} {H : Hp} {z : Str} {a : Int} {v : V} (h : Rep K H (.dict [(.none, .str z), (.none, .int a)]) v) : ∃ n : Nat, a = n ∧ v = .ref n := by
  generalize hd : (PyData.dict [(.none, .str z), (.none, .int a)] : D) = d at h
  cases h with
  | non => cases hd
  | bl b => cases hd
  | int i => cases hd
  | str x => cases hd
  | tup h r => cases hd
  | lst h r => cases hd
  | dK h r =>
    rename_i kvs ds
    exfalso
    injection hd with hd
    cases kvs with
    | nil => simp at hd
    | cons p kvs =>
      cases ds with
      | nil => simp at hd
      | cons d ds =>
        rw [List.map_cons, List.zip_cons_cons] at hd
        injection hd with h1 _
        injection h1 with h1 _
        cases q : p.1 <;> rw [q] at h1 <;> cases h1
  | dT h r => injection hd with hd; injection hd with h1 _; injection h1 with _ h1; cases h1
  | dF h r => injection hd with hd; injection hd with h1 _; injection h1 with _ h1; cases h1
  | scr h r => injection hd with hd; injection hd with h1 _; injection h1 with _ h1; cases h1
  | adr n => injection hd with hd; injection hd with _ h1; injection h1 with h1 _; injection h1 with _ h1; injection h1 with h1; exact ⟨n, h1, rfl⟩
theorem xZ {C : Addr} {c : Value} {w : V} {b : Bool} {i : Nat} {nm cx : Str} {p q1 q2 pos : Pos} (kx : ExK X.K C) (hko : kitOne X.K (.ref C) c = some b) (hcl : oe.cls = .ref C) (hde : oe.data = .fields vs) (hv : PE (cxHd X e0 oe E pn) (.Name nm q1) (tVar i)) (hw : PE (cxHd X e0 oe E pn) (.Name cx q2) (tC w)) (rw' : RelV w c)
    (hg : Gl X "isinstance") (hm : X.mg "isinstance" = none)
    (hb : bootBuiltins "isinstance" = some (.builtin "isinstance")) (he : starEach [.Name nm q1, .Name cx q2] X.env = (false, eval (.Name nm q1) X.env) :: starEach [.Name cx q2] X.env := by rfl) (he2 : starEach [.Name cx q2] X.env = [(false, eval (.Name cx q2) X.env)] := by rfl) (hpl : (backTo pos (starEach [.Name cx q2] X.env)).any (·.1) = false := by rfl)
    (huniq : ∀ u, RelV w u → u = c) :
    PD (cxHd X e0 oe E pn) (.Call (.Name "isinstance" p) [.Name nm q1, .Name cx q2] [] pos) (gExc i e0 b) := by
  have hc : xA (cxHd X e0 oe E pn) (.builtin "isinstance") (fun xs H Q => xs = [.ref e0, w] ∧ Q (.bl b) H) := by
    intro pins s σ H xs us Q I rv ⟨ex, q⟩
    subst ex
    cases rv with
    | @cons _ u1 _ _ r1 rr =>
      obtain ⟨u2, rfl, r2⟩ := vals1 rr
      obtain rfl : u1 = Value.ref e0 := r1
      obtain rfl := huniq u2 r2
      obtain ⟨hp, _⟩ := I.pin (e0, oe) (by simp)
      exact kia_one (zf0 kx) I.kIn ⟨oe, vs, hp, hcl, hde⟩ hko (fun z => nomatch z) fun tk => ⟨.bl b, H, I.tok tk, rfl, q⟩
  refine PE.imp (yW (X := cxHd X e0 oe E pn) hc hg hm hb (qv hv (qv hw wr he2) he) (by decide) (by decide) he hpl) fun σ H Q ⟨F, O, ρ, d, r, e, k⟩ => ?_
  unfold gExc at e
  split at e
  · rename_i z a hgv
    split at e
    · rename_i hza
      cases e
      unfold gVar at hgv
      split at hgv
      · rename_i d' hd'
        cases hgv
        obtain ⟨v, h1, h2⟩ := r.val i _ hd'
        obtain ⟨n, hn, rfl⟩ := ziE h2
        have : n = e0 := by omega
        subst this
        exact ⟨_, h1, rfl, k _ H (Same.refl _) (.bl b)⟩
      · cases hgv
    · cases e
  · cases e
end
end L2.Y
namespace L2.Y
open PySem PySem.Spec PySem.Calls PyProof.Rows PySem.W
section
variable {X : Cx}
variable {body : List Stmt} {b₀ : Stmt} {suite : List Stmt} {gb gh : GS} {xb : GX} {names : List Str} {cn : Str} {Cn : Addr} {np hpos pos : Pos}
end
end L2.Y
namespace L2.Y
open PySem PySem.Spec PySem.Calls PyProof.Rows PySem.W
theorem zc5 {n c : Str} (h : [n].contains c = true) : c = n := by simpa using h
theorem zjj {mg : Str → Option Value} {c : Str} {C C' : Addr} (h : mg c = some (.ref C)) (h' : mg c = some (.ref C')) : C = C' := by
  have q := h.symm.trans h'
  injection q with q
  injection q
theorem vM : bootBuiltins "ValueError" = some (.type "ValueError") := by decide +kernel
noncomputable def Only (n : Str) (x : GX) : Prop := ∀ ρ c, x ρ = some c → c.1 = n
theorem vL {n : Str} : Only n xNo := fun _ _ h => nomatch h
theorem xT {n : Str} : Only n (wu n) := fun _ _ h => by cases h; rfl
theorem za2 {n : Str} {c : Env' → Option Bool} {x y : GX} (hx : Only n x) (hy : Only n y) : Only n (xIf c x y) := fun ρ r h => by
  obtain ⟨b, _, e⟩ := Option.bind_eq_some_iff.mp h
  cases b with
  | true => exact hx ρ r e
  | false => exact hy ρ r e
theorem wO {n : Str} {g : GS} {x y : GX} (hx : Only n x) (hy : Only n y) : Only n (xSeq g x y) := fun ρ r h => by
  unfold xSeq at h
  split at h
  · rename_i c q
    cases h
    exact hx ρ _ q
  · split at h
    · exact hy _ r h
    · cases h
theorem zaY {n : Str} {k : Nat} {x : GX} (hx : Only n x) {ds : List D} {c : Str} (h : runX k x ds = some c) : c = n := by
  obtain ⟨r, e, rfl⟩ := Option.map_eq_some_iff.mp h
  exact hx _ r e
end L2.Y
namespace L2.Y
open PySem PySem.Spec PySem.Calls PyProof.Rows PySem.W
theorem zbs {K : PySem.W.Frag} {N : Addr} {c : Value} {d : Option Addr} {es : Array DictEntry} {ep : Nat} {sl : Array (Option Value)} (l : K.lookup N = some ⟨c, d, .dict es ep, sl⟩) (e : (strK es && (nsFind es "__init__").isNone) = true) : kO K N = true := by
  unfold kO
  rw [l]
  exact e
theorem zbA {K : PySem.W.Frag} {t : Value} {D : Addr} {b : Bool} (hc : isClsIn K D = true) (ht : typeIn K (.ref D) = some (.type "type")) (hs : subIn K t (.ref D) = some b) : kitCls K t (.ref D) = some b := by
  have e : ((clsIn K D).isSome && typeIn K (.ref D) == some (.type "type")) = true := by
    rw [show (clsIn K D).isSome = true from hc, ht]
    simp
  unfold kitCls
  dsimp only
  rw [if_pos e]
  exact hs
theorem ziQ {K : PySem.W.Frag} {C D : Addr} {b : Bool} (hc : isClsIn K D = true) (ht : typeIn K (.ref D) = some (.type "type")) (hb : subIn K (.ref D) (.type "BaseException") = some true) (hs : subIn K (.ref C) (.ref D) = some b) : exmOne K (.ref C) (.ref D) = some b := by
  unfold exmOne
  rw [hb]
  rw [if_pos (by simp)]
  exact zbA hc ht hs
theorem za6 {K : PySem.W.Frag} {C D : Addr} {b : Bool} (hc : isClsIn K D = true) (ht : typeIn K (.ref D) = some (.type "type")) (hs : subIn K (.ref C) (.ref D) = some b) (ne : Nat.beq C D = false) : kitOne K (.ref C) (.ref D) = some b := by
  unfold kitOne
  rw [if_neg (fun e => by
    have e : (Value.ref C) = .ref D := by simpa using e
    injection e with e
    subst e
    rw [Nat.beq_refl] at ne
    cases ne)]
  exact zbA hc ht hs
theorem zi8 {K : PySem.W.Frag} {C : Addr} {T : String} {b : Bool} (hm : kitMeta T = true) (hs : subIn K (.ref C) (.type T) = some b) : kitOne K (.ref C) (.type T) = some b := by
  unfold kitOne
  rw [if_neg (fun e => by
    have e : (Value.ref C) = .type T := by simpa using e
    cases e)]
  unfold kitCls
  dsimp only
  rw [if_pos hm]
  exact hs
end L2.Y
namespace L2.Y
open PySem PySem.Spec PySem.Calls PyProof.Rows PySem.W
section
variable {X : Cx}
end
end L2.Y
namespace L2.Y
open PySem PySem.Spec PySem.Calls PyProof.Rows PySem.W
section
variable {X : Cx} {e : Expr} {es : List Expr} {pos : Pos}
theorem ze4 {K : PySem.W.Frag} {H : Hp} : ∀ {ds : List D} {xs : List V} {us : List Value} {ys : List Str}, Reps K H ds xs → Vals xs us → ds.mapM strQ = some ys → StrsAre us ys
  | [], _, _, ys, .nil, .nil, h => by
    cases (show ys = [] by simpa using h.symm)
    exact .nil
  | d :: ds, _, _, ys, .cons r rs, .cons v vs, h => by
    rw [List.mapM_cons] at h
    obtain ⟨y, e1, h⟩ := Option.bind_eq_some_iff.mp h
    obtain ⟨ys', e2, h⟩ := Option.bind_eq_some_iff.mp h
    cases h
    cases d with
    | str z =>
      cases e1
      cases r
      obtain ⟨t, rfl⟩ := v
      exact .cons _ _ (ze4 rs vs e2)
    | _ => cases e1
theorem zak {sep : Str} {j cp apos cpos} {g : Env' → Option D} (h : PB X e g)
    (hbase : attributeBase (.Constant (.str sep) j cp) "join" X.env (eval (.Constant (.str sep) j cp) X.env) = eval (.Constant (.str sep) j cp) X.env := by rfl)
    (hfew : ((backTo cpos (starEach [e] X.env)).all (fun x => !x.1) && (backToKw cpos (keywordEach [] X.env)).all (fun x => x.1.isSome)
      && decide ([e].length + ([] : List Keyword).length + (if ([] : List Keyword).isEmpty then 0 else 1) < 30)) = true := by rfl)
    (hline : (apos.endLine == cpos.line) = true := by rfl) (hs : starEach [e] X.env = [(false, eval e X.env)] := by rfl) :
    PD X (.Call (.Attribute (.Constant (.str sep) j cp) "join" apos) [e] [] cpos) (g2 vH (gK (.str sep)) g) := by
  refine PE.imp (zf9 (T := "str") (id := "str.join") (r := fun x xs H Q => ∃ O ds ys p, Dom O H ∧ x = .str sep ∧ xs = [p] ∧ RepB X.K O H (.list ds) p ∧ ds.mapM strQ = some ys ∧ (ys.map (·.length)).sum + ys.length * sep.length ≤ 16777216 ∧ Q (.str (Str.join sep ys)) H)
    F.plainAttrs_str F.slot_str_join F.type_str_join ?_ (zcG (x := sep) (j := j) (pos := cp)) (qv h wr hs) hbase hfew hline hs rfl) fun σ H Q ⟨F, O, ρ, d, r, ed, k⟩ => ?_
  · intro pins s σ H x xs v us Q I rv rvs ⟨O, ds, ys, p, dm, ex, exs, rb, em, hz, q⟩
    subst ex exs
    obtain ⟨t, rfl⟩ := rv
    obtain ⟨u, rfl, ru⟩ := Vals.one rvs
    obtain ⟨a, vs, rfl, sq, rs⟩ := rb.lst
    obtain ⟨its, r', pl, _⟩ := I.list sq
    cases ru
    refine join_list (ys := ys) pl.isList (ze4 rs r' em) hz fun t' kk => ?_
    refine ⟨.str _, H, I.tok kk, ⟨t', rfl⟩, ?_⟩
    rw [show Txt.join sep ys = Str.join sep ys from StrLaws.glued_eq_join sep ys]
    exact q
  · obtain ⟨x, y, e1, e2, e3⟩ := yo ed
    cases e1
    unfold vH at e3
    split at e3
    case h_2 => cases e3
    rename_i z ds q1
    cases q1
    obtain ⟨ys, e4, e5⟩ := Option.bind_eq_some_iff.mp e3
    split at e5
    case isFalse => cases e5
    rename_i hz
    cases e5
    refine ⟨rfl, F, O, ρ, .list ds, r, e2, fun v H' sm rb => ⟨O, ds, ys, v, (r.same sm).dom, rfl, rfl, rb, e4, hz, k _ H' sm (.str _)⟩⟩
end
end L2.Y
namespace L2.Y
open PySem PySem.Spec PySem.Calls PyProof.Rows PySem.W
section
variable {M : Model} {A : Around} {E : Value → Shared → Prop} {s : Shared} {base : Heap} {l : List Env} {e : Addr} {cls fl : Value}
theorem zi9 {Q : Unit → Shared → Prop} (fo : Option Addr) (W : Way1 base l e cls fl s.heap) (k : ∀ h' fl', Way1 base l e cls fl' h' → s.heap.UpToSlots h' → Q () { s with heap := h' }) : wpAny M A (setFlight (.ref e) fo) Q E s := by
  obtain ⟨hkb, hen, hl, oe, vs, T, oT, ts, he, hcls, hd, h1, h2, hnT, hTe, hT, hdT, h3⟩ := W
  have z3 : 3 < ts.size := (Array.getElem?_eq_some_iff.mp h3).1
  have other : ∀ b, b ≠ T → (s.heap.update T (Obj.mapFields (·.setIfInBounds 3 (fo.elim Value.none fun f => rawInt f)))).get? b = s.heap.get? b := fun b hb => Heap.get?_update_other _ _ (Ne.symm hb)
  have norec : ∀ b o, s.heap.get? b = some o → (∀ vs, o.data ≠ .fields vs) → b ≠ T := fun b o hb hnf q => by
    rw [q, hT] at hb; injection hb with hb; subst hb; exact hnf ts hdT
  unfold setFlight
  refine wpAny_bind (wpAny_field he hd h1 ?_)
  rw [if_pos (show (Value.ref T != Value.none) = true from by simp)]
  refine wpAny_setField hT hdT z3 (k _ (fo.elim Value.none fun f => rawInt f) ⟨fun b o q => (other b fun z => by rw [z, hnT] at q; cases q).trans (hkb b o q), hen, hl.of_keeps fun b o hb hnf => ⟨o, (other b (norec b o hb hnf)).trans hb, rfl⟩, ?_⟩ fun b o hb hnf => ⟨o.slots, (other b (norec b o hb hnf)).trans hb⟩)
  exact ⟨oe, vs, T, _, _, (other e (Ne.symm hTe)).trans he, hcls, hd, h1, h2, hnT, hTe, Heap.get?_update_self _ hT (Obj.isFreed_of_fields (Obj.data_mapFields hdT _)), Obj.data_mapFields hdT _, by simp [z3]⟩
theorem ziF {α : Type} {what : String} {cenv : Env} {Q : α → Shared → Prop} (W : Way1 base l e cls fl s.heap) (k : ∀ h' fl', Way1 base l e cls fl' h' → s.heap.UpToSlots h' → E (.ref e) { s with heap := h' }) : wpAny M A (PySem.passOn what (.ref e) cenv : Sem α) Q E s := by
  obtain ⟨_, _, _, oe, ws, T, oT, ts, he, hc, hd, h1, _⟩ := id W
  unfold PySem.passOn
  refine wpAny_bind (wpAny_field he hd h1 ?_)
  rw [if_neg (show ¬ ((Value.ref T == Value.none) = true) from by simp)]
  first
    | exact wpAny_bind (wpAny_pure (wpAny_bind (zi9 _ W fun h' fl' w u => wpAny_throw (k h' fl' w u))))
    | exact wpAny_bind (zi9 _ W fun h' fl' w u => wpAny_throw (k h' fl' w u))
theorem zfY (ev : Value) (scope : Scope) (cl : List (Str × Addr)) (C : Addr) (env : Env) : noteFrame ev (compEnvC scope cl C env) = noteFrame ev env := rfl
end
section
variable {P : Program} {w : World} {l : List Env} {ch : List Addr} {H H2 : Hp} {s s2 : Shared} {C e : Addr} {h3 : Heap} {fl' : Value} {tk : Nat}
theorem Fl.on (f : Fl P w l ch H s C e H2 s2) : ∃ B fl, Way1 B l e (.ref C) fl s2.heap ∧ ∀ h3 fl' tk, Way1 B l e (.ref C) fl' h3 → s2.heap.UpToSlots h3 → Fl P w l ch H s C e H2 { s2 with heap := h3, toks := tk } := by
  obtain ⟨os, bare, un2, hok, sm2, B, fl, W, S⟩ := f
  refine ⟨B, fl, W, fun h3 fl' tk W3 up => ⟨os, bare, S.step un2 sm2 W.ff W3.st up, S.hok hok W3.st, sm2, B, _, W3, ⟨fun b o ob q r => ?_, S.un⟩⟩⟩
  obtain ⟨ob1, r1⟩ := kQ (hok b o q)
  have r2 := S.tr b o ob1 q r1
  rw [W3.st b ob1 r2] at r
  cases r
  exact r2
theorem FunFrames.less {h B B' : Heap} (hb : ∀ b, B.get? b = none → B'.get? b = none) : ∀ {l : List Env}, h.FunFrames B l → h.FunFrames B' l
  | [], _ => trivial
  | env :: l, hl => by
    obtain ⟨h1, h2, h3⟩ := hl
    obtain ⟨L, o, q1, q2, q3⟩ := h2
    exact ⟨h1, ⟨L, o, q1, hb L q2, q3⟩, FunFrames.less hb h3⟩
theorem Fl.beside {D : Addr} {h' : Heap} {m : Str → Option Value} (f : Fl P w l ch H s C e H2 s2) (hD : s2.heap.Ns D m) (hn : H2 D = none) (hl : D ∉ frs l) (sb : Heap.SameBut D s2.heap h') : Fl P w l (D :: ch) H s C e H2 { s2 with heap := h' } := by
  obtain ⟨os, bare, un2, hok, sm2, B, fl, W, S⟩ := f
  obtain ⟨oD, es, ep, hoD, hdD, _⟩ := hD
  have nf : ∀ b o vs, s2.heap.get? b = some o → o.data = .fields vs → b ≠ D := fun b o vs q hd z => by
    rw [z, hoD] at q; cases q
    rw [hdD] at hd; cases hd
  have eq : ∀ b, b ≠ D → h'.get? b = s2.heap.get? b := sb.2
  have tn : ∀ b o, H2 b = some o → b ≠ D := fun b o q z => by rw [z, hn] at q; cases q
  have cons : ∀ {b}, b ∉ D :: ch → b ≠ D ∧ b ∉ ch := fun hb => ⟨fun z => hb (by simp [z]), fun z => hb (List.mem_cons_of_mem _ z)⟩
  refine ⟨os, bare, ?_, fun b o q => (hok b o q).stay (fun c v hc r => ?_) (fun c r => r) fun c xs r => r, sm2, hideAll B [D], fl, ?_, ⟨fun b o ob q r => ?_, fun b ob q n hb hx => ?_⟩⟩
  · exact {
      keep := fun b o q n hb hx => (eq b (cons hx).1).trans (un2.keep b o q n hb (cons hx).2)
      slot := fun b o q n hb hx => by
        obtain ⟨sl, e1⟩ := un2.slot b o q n hb (cons hx).2
        exact ⟨sl, (eq b (cons hx).1).trans e1⟩
      free := fun b o q n hx => un2.free b o q n (cons hx).2
      there := fun b o q hx => by
        obtain ⟨o', e1⟩ := un2.there b o q (cons hx).2
        exact ⟨o', (eq b (cons hx).1).trans e1⟩
      tups := un2.tups
      frzs := un2.frzs
      tbls := un2.tbls }
  · have ne : c ≠ D := by
      rcases hc with rfl | hc
      · exact tn _ _ q
      · exact tn _ _ hc
    exact (eq c ne).trans r
  · obtain ⟨st, no, ff, oe, vs, T, oT, ts, he, hcl, hd, h1, h2, hnT, hTe, hT, hdT, h3⟩ := W
    have less : ∀ b, B.get? b = none → (hideAll B [D]).get? b = none := fun b hb => by
      cases hq : (hideAll B [D]).get? b with
      | none => rfl
      | some o' => have := of_hideAll _ hq; rw [hb] at this; cases this
    refine ⟨fun b o q => ?_, less _ no, FunFrames.less less ?_, oe, vs, T, oT, ts, (eq e (nf _ _ _ he hd)).trans he, hcl, hd, h1, h2, less _ hnT, hTe, (eq T (nf _ _ _ hT hdT)).trans hT, hdT, h3⟩
    · by_cases z : b = D
      · rw [z, hideAll_none [D] (by simp)] at q; cases q
      · exact (eq b z).trans (st b o (of_hideAll _ q))
    · have key : ∀ l' : List Env, (∀ b ∈ frs l', b ≠ D) → s2.heap.FunFrames B l' → h'.FunFrames B l' := by
        intro l'
        induction l' with
        | nil => intro _ _; trivial
        | cons env r ih =>
          intro hn' ⟨k1, ⟨L, o, q1, q2, q3, q4⟩, k3⟩
          refine ⟨k1, ⟨L, o, q1, q2, (eq L (hn' L ?_)).trans q3, q4⟩, ih (fun b hb => hn' b ?_) k3⟩
          · unfold frs; rw [List.filterMap_cons, q1]; exact List.mem_cons_self
          · unfold frs; rw [List.filterMap_cons, q1]; exact List.mem_cons_of_mem _ hb
      exact key l (fun b hb z => hl (z ▸ hb)) ff
  · have ne := tn b o q
    exact hideAll_get _ (S.tr b o ob q ((eq b ne).symm.trans r)) (by simpa using ne)
  · exact hideAll_get _ (S.un b ob q n hb (cons hx).2) (by simpa using (cons hx).1)
end
theorem RX.noted {Y : Cx} {σ : St} {H : Hp} {C L : Addr} {ev : Value} {s' : Shared} {env : Env} {outer : List Env} {Q : Unit → Shared → Prop} {E : Value → Shared → Prop} (rx : RX Y σ H C ev s') (hs : Y.stack = env :: outer) (hf : env.frame = some L)
    (k : ∀ pins ch e0 H2 s1 s2, ev = .ref e0 → Inv Y pins σ H s1 → (∀ b ∈ ch, (b ∈ Y.ex ∨ Y.s₀.heap.objs.size ≤ b) ∧ b ≠ Y.env.locals ∧ (∀ x c, Y.env.cells.lookup x = some c → c ≠ b) ∧ ∀ p ∈ Y.pn ++ pins, p.1 ≠ b) → Fl Y.prog Y.w Y.stack ch H s1 C e0 H2 s2 → Q () s2) : wpAny (model Y.prog Y.w) Y.A (noteFrame ev env) Q E s' := by
  cases rx with
  | @pass pins ch H2 s s2 e0 I hch f =>
    obtain ⟨B, fl, W, go⟩ := f.on
    rw [hs] at W
    refine zhN (by rw [I.ok.frames, hs]) hf W fun h3 W3 up => k pins ch e0 H2 s _ rfl I hch (go h3 _ s'.toks (by rw [hs]; exact W3) up)
  | @made pins s e0 h2 tk args I m =>
    have hl : s.heap.FunFrames Y.base (env :: outer) := by rw [← hs]; exact I.stack
    have hin : ∀ en ∈ (env :: outer), ∀ b, en.frame = some b → b ∈ frs (env :: outer) := fun en he b hb => List.mem_filterMap.mpr ⟨en, he, hb⟩
    have ff := funFrames_hide (as := frs (env :: outer)) hl hin
    have S : Safe Y.stack [] H H s.heap s.heap (hideAll s.heap (frs (env :: outer))) := ⟨fun b o ob q r => hideAll_get _ r (fun z => by rw [← hs] at z; rw [I.stkFree b z] at q; cases q), fun b ob q n nb _ => hideAll_get _ q (by rw [← hs]; exact nb)⟩
    have ff' : s.heap.FunFrames (hideAll s.heap (frs (env :: outer))) Y.stack := by rw [hs]; exact ff
    have fresh : ∀ b, s.heap.get? b = none → (hideAll s.heap (frs (env :: outer))).get? b = none := fun b hb => by
      cases hq : (hideAll s.heap (frs (env :: outer))).get? b with
      | none => rfl
      | some o' => have := of_hideAll _ hq; rw [hb] at this; cases this
    obtain ⟨t, he, htn, ht⟩ := m.there
    refine zhA (s := { s with heap := h2, toks := tk }) (by rw [I.ok.frames, hs]) (ff.of_keeps fun b o hb _ => ⟨o, m.keeps b o hb, rfl⟩) hf he (fun b o q => m.keeps b o (of_hideAll _ q)) (fresh e0 m.new) rfl rfl rfl fun h3 W3 up => ?_
    have up' := (Heap.UpToSlots.of_keeps m.keeps).trans up
    refine k pins [] e0 H s _ rfl I (fun b hb => absurd hb (by simp)) ⟨rfl, I.bare, S.step Un.refl (Same.refl _) ff' W3.st up', S.hok I.hok W3.st, Same.refl _, hideAll s.heap (frs (env :: outer)), _, by rw [hs]; exact W3, ⟨fun b o ob q r => ?_, S.un⟩⟩
    obtain ⟨ob1, r1⟩ := kQ (I.hok b o q)
    have r2 := S.tr b o ob1 q r1
    rw [W3.st b ob1 r2] at r
    cases r
    exact r2
end L2.Y
namespace L2.Y
open PySem PySem.Spec PySem.Calls PyProof.Rows PySem.W
abbrev cxX (X : Cx) (N : List Str) (scope : Scope) (cl : List (Str × Addr)) (C : Addr) (s : Shared) (H : Hp) (fp : List Addr) (E : Value → Shared → Prop) : Cx := { cxC X N scope cl C s H fp with xe := E }
theorem _root_.L2.Inv.toE {X : Cx} {pins : List (Addr × Obj)} {σ : St} {H : Hp} {s : Shared} (E : Value → Shared → Prop) (I : Inv X pins σ H s) : Inv { X with xe := E } pins σ H s :=
  have ok := I.ok
  ⟨⟨ok.mod, ok.kind, ok.glob, ok.blt, ok.above, ok.inj, ok.has, ok.cab, ok.hd, ok.frames, ok.stk, ok.exf, ok.bs, ok.bsz, ok.noex, ok.exfs, ok.funs, ok.frf⟩, I.os, I.bare, I.base, I.loc, I.cell, I.free, I.freeC, I.pin, I.hok, I.len⟩
theorem _root_.L2.Inv.ofE {X : Cx} {pins : List (Addr × Obj)} {σ : St} {H : Hp} {s : Shared} {E : Value → Shared → Prop} (I : Inv { X with xe := E } pins σ H s) : Inv X pins σ H s :=
  have ok := I.ok
  ⟨⟨ok.mod, ok.kind, ok.glob, ok.blt, ok.above, ok.inj, ok.has, ok.cab, ok.hd, ok.frames, ok.stk, ok.exf, ok.bs, ok.bsz, ok.noex, ok.exfs, ok.funs, ok.frf⟩, I.os, I.bare, I.base, I.loc, I.cell, I.free, I.freeC, I.pin, I.hok, I.len⟩
section
variable {X : Cx} {pins : List (Addr × Obj)} {σ : St} {H : Hp} {s : Shared} {scope : Scope} {own N : List Str} {caps : List Nat} {cl : List (Str × Addr)} {fp : List Addr}
variable {tg iter elt : Expr} {ifs : List Expr} {pos : Pos} {g : TG} {tt : TT} {te : TE} {J : It} {it : Addr} {tn : Nat → Heap → Prop}
theorem zdw {D C : Addr} {R : Result → Shared → Prop} (hc : X.calm = true) (T : Turn X.prog X.w X.K tg J fp it tn)
    (hg : PG (cxC X N scope cl C s H fp) tg g) (ht : PIf (cxC X N scope cl C s H fp) ifs tt) (he : PE (cxX X N scope cl C s H fp (notedBy (model X.prog X.w) X.A (compEnvC scope cl C X.env) fun x s' => R (.error x) s')) elt te) {Q : Hp → Prop} {σ0 : St} {H0 : Hp} {s1 : Shared} (I0 : Inv (cxC X N scope cl C s H fp) [] σ0 H0 s1) (t0 : tn 0 s1.heap)
    (f0 : ∀ b ∈ fp, H0 b = none) (hfp : ∀ b ∈ fp, b ≠ C ∧ b ∉ frs X.stack ∧ ∀ x c, cl.lookup x = some c → c ≠ b) (hw : kN g tt te J D σ0 H0 Q)
    (hR : ∀ σ' H' s', Inv (cxC X N scope cl C s H fp) [] σ' H' s' → Q H' → R (.ok .next) s') :
    codeAny (model X.prog X.w) X.A (.compLoop (.ListComp elt [⟨tg, iter, ifs, 0⟩] scope pos) 0 (.ref it) (.ref D) (compEnvC scope cl C X.env)) R s1 := by
  obtain ⟨W, ⟨m0, w0⟩, turn⟩ := hw
  have stat : ∀ {H' : Hp}, (∀ b ∈ fp, H' b = none) → ∀ b ∈ fp, FpOk (cxC X N scope cl C s H fp) [] H' b := fun hn b hb => ⟨hn b hb, (hfp b hb).1, (hfp b hb).2.1, .inl hb, (hfp b hb).2.2, fun p hp => absurd (show p ∈ ([] : List (Addr × Obj)) from hp) (by simp)⟩
  have nox : ∀ {α : Type} {t : Sem α} {Q : α → Shared → Prop} {E : Value → Shared → Prop} {s : Shared}, wpAny (model X.prog X.w) X.A t Q (fun _ _ => False) s → wpAny (model X.prog X.w) X.A t Q E s := fun h => wpAny_mono h (fun _ _ q => q) fun _ _ q => q.elim
  refine codeAny_loop rfl (fun n s' => ∃ i σ' H', Inv (cxC X N scope cl C s H fp) [] σ' H' s' ∧ tn i s'.heap ∧ (∀ b ∈ fp, H' b = none) ∧ W i n σ' H') (fun n s3 hI => ?_) m0 ⟨0, σ0, H0, I0, t0, f0, w0⟩
  obtain ⟨i, σ3, H3, I3, st3, fr3, w3⟩ := hI
  show wpAny _ X.A ((compTurn (.ListComp elt [⟨tg, iter, ifs, 0⟩] scope pos) 0 (.ref it) (.ref D) (compEnvC scope cl C X.env)).onRaise (fun x => do noteFrame x (compEnvC scope cl C X.env); theTreesLotGoes x)) _ _ s3
  refine wpAny_noted ?_
  rw [compTurn_list]
  refine wpAny_bind (wpAny_standAt (wpAny_bind ?_))
  rcases turn i n σ3 H3 w3 with ⟨stop, qn⟩ | ⟨go, Nx, hN, step⟩
  · refine nox (thn (T.done (cxC X N scope cl C s H fp) rfl rfl rfl hc i [] s3 σ3 H3 _ I3 (stat fr3) st3 stop) fun r s4 ⟨hr, I4⟩ => ?_)
    subst hr
    exact wpAny_pure (hR _ _ _ I4 qn)
  · refine nox (thn (T.item (cxC X N scope cl C s H fp) rfl rfl rfl hc i [] s3 σ3 H3 _ I3 (stat fr3) st3 go) fun r s4 ⟨u, hr, h4⟩ => ?_)
    subst hr
    refine wpAny_bind (nox (thn h4 fun _ s5 ⟨x, H5, I5, r5, y5, st5, fr5⟩ => ?_))
    have I5' := I5.pinned (stat fr5) (T.obj _ _ st5)
    refine wpAny_bind (nox (thn (hg _ s5 σ3 H5 x u _ I5' r5 (step x H5 y5)) fun _ s6 ⟨σ6, H6, I6, q6⟩ => ?_))
    refine wpAny_bind (nox (thn (ht _ s6 σ6 H6 _ I6 q6) fun ok s7 ⟨H7, I7, q7⟩ => ?_))
    have again : ∀ {σ7 : St} {H7 : Hp} {s7 : Shared}, Inv (cxC X N scope cl C s H fp) ([] ++ zab fp s5.heap) σ7 H7 s7 → Nx σ7 H7 → ∃ m, m < n ∧ ∃ i σ' H', Inv (cxC X N scope cl C s H fp) [] σ' H' s7 ∧ tn i s7.heap ∧ (∀ b ∈ fp, H' b = none) ∧ W i m σ' H' := fun {σ7 H7 s7} I7 n7 => by
      obtain ⟨m', hm, w7⟩ := hN σ7 H7 n7
      refine ⟨m', hm, i + 1, σ7, H7, I7.unpinned, T.keep _ _ _ st5 fun b hb o e => (I7.pin (b, o) (List.mem_append_right _ (List.mem_append_right _ (qG hb e)))).1, fun b hb => ?_, w7⟩
      obtain ⟨o, e, d⟩ := T.obj _ _ st5 b hb
      exact (I7.pin (b, o) (List.mem_append_right _ (List.mem_append_right _ (qG hb e)))).2.1
    cases ok with
    | false =>
      simp only [Bool.false_eq_true, if_false] at q7 ⊢
      exact wpAny_pure ⟨rfl, again I7 q7⟩
    | true =>
      simp only [if_true] at q7 ⊢
      refine wpAny_bind (wpAny_bind (thn (he _ s7 σ6 H7 _ (I7.toE _) q7) fun v s8 ⟨y, H8, I8', r8, ys, e8, z8, n8⟩ => ?_))
      have I8 := I8'.ofE
      refine wpAny_bind (nox (thn (vZ (X := cxC X N scope cl C s H fp) _ s8 σ6 H8 (.ref D) [y] (.ref D) [v] (fun _ H' => Nx σ6 H') I8 rfl (.cons r8 .nil) ⟨D, ys, y, rfl, rfl, e8, z8, n8⟩) fun _ s9 ⟨_, H9, I9, _, n9⟩ => ?_))
      exact wpAny_pure (wpAny_pure ⟨rfl, again I9 n9⟩)
end
end L2.Y
namespace L2.Y
open PySem PySem.Spec PySem.Calls PyProof.Rows PySem.W
noncomputable def RXf (X : Cx) (f : Env' → Option Str) (σ : St) (H : Hp) : Prop := ∃ F O ρ c, SR X.K F O ρ σ H ∧ f ρ = some c ∧ ∀ C H' e s', X.mg c = some (.ref C) → Same H H' → RX X σ H' C e s' → X.xe e s'
noncomputable def PXf (X : Cx) (e : Expr) (f : Env' → Option Str) : Prop := PE X e (fun σ H _ => RXf X f σ H)
section
variable {X : Cx} {e : Expr} {pos : Pos}
theorem PXf.x {f : Env' → Option Str} (h : PXf X e f) : PXe X e (xE f) := PE.imp h fun σ H _ ⟨F, O, ρ, c, r, ee, k⟩ => by
  obtain ⟨c', e1, rfl⟩ := Option.map_eq_some_iff.mp ee
  exact ⟨F, O, ρ, c', r, e1, fun C H' e s' hm sm rx => k C O σ H' e s' hm (r.same sm) rx⟩
theorem zaw {k n : Nat} {f : Addr} {fd : FuncData} {ps : List Str} {fn : List D → Option Str} {nm : Str} {p : Pos} {es : List Expr} {ga : Env' → Option (List D)} (hcl : ∀ ds c, fn ds = some c → ∃ C, X.mg c = some (.ref C)) (F : FnOk X.prog X.w X.K X.mg X.base (CXr X.prog X.w) k f fd ps (spX X.K X.mg n fn)) (hr : Room k X.A) (hg : Gl X nm) (hm : X.mg nm = some (.ref f)) (hk : PySem.W.keepIn X.K (.ref f) = true) (hb : Binds X.K fd ps [])
    (ha : PAd X (e :: es) ga) (hdb : (nm == ("__debug__" : Str)) = false := by decide) (he : starEach (e :: es) X.env = (false, eval e X.env) :: starEach es X.env := by exact jI rfl) (hpl : (backTo pos (starEach es X.env)).any (·.1) = false := by rfl) :
    PXf X (.Call (.Name nm p) (e :: es) [] pos) (yh n fn ga) := by
  intro pins s σ H Q I ⟨F', O, ρ, c, r, ee, kx⟩
  obtain ⟨ds, e1, e2⟩ := Option.bind_eq_some_iff.mp ee
  split at e2
  · rename_i hl
    obtain ⟨C, hC⟩ := hcl ds c e2
    refine wpAny_Call_Name_kw (yp I hg hm ?_ hdb)
    refine PySem.W.callWith_K (h₀ := X.base) I.ok.mod.kin hk (thn (ha pos pins s σ H (fun vs H1 => Same H H1 ∧ Reps X.K (hide O H1) ds vs) I ⟨F', O, ρ, ds, r, e1, fun vs H1 s1 b1 => ⟨s1, b1⟩⟩) fun us s1 ⟨vs, H1, I1, rv, sm, b1⟩ => ⟨I1.kIn, ?_⟩) he hpl
    refine zd8 (E := fun Cv _ _ => Cv = .ref C) F hr hb (fun e' s' ⟨a, C', H', hea, fl, hE⟩ => ?_) I1 rv ⟨O, ds, c, C, (r.same sm).dom, b1, hl, e2, hC, fun H' s2 => rfl⟩
    cases hE
    subst hea
    exact kx C H1 _ s' hC sm (.pass (ch := []) I1 (fun b hb => absurd hb (by simp)) fl)
  · cases e2
end
section
variable {X : Cx} {pins : List (Addr × Obj)} {σ : St} {H : Hp} {s : Shared} {scope : Scope} {own N : List Str} {caps : List Nat} {cl : List (Str × Addr)} {fp : List Addr}
variable {tg iter elt : Expr} {ifs : List Expr} {pos : Pos} {g : TG} {tt : TT} {te : TE} {J : It} {it : Addr} {tn : Nat → Heap → Prop}
theorem zgI {E Ey : Value → Shared → Prop} {use : Option (Value → Sem Unit)} {Qu : Value → Shared → Prop} {D C : Addr} {H3 H' : Hp} {s3 s' : Shared} {σ' : St} {ev : Value} (hs : X.stack = X.env :: X.outer) (hf : X.env.frame = some X.env.locals) (I3 : Inv X pins σ H3 s3) (fp3 : ∀ b ∈ fp, FpOk X pins H3 b)
    (rx : RX (cxX X N scope cl s3.heap.objs.size s3 H3 fp Ey) σ' H' C ev s') (kE : ∀ s', RX X σ H' C ev s' → E ev s') :
    notedBy (model X.prog X.w) X.A (compEnvC scope cl s3.heap.objs.size X.env) (fun x s' => compPost (model X.prog X.w) X.A E use Qu (.ref D) s3.heap.objs.size (.error x) s') ev s' := by
  unfold notedBy
  rw [zfY]
  refine RX.noted (Y := cxX X N scope cl s3.heap.objs.size s3 H3 fp Ey) (env := X.env) (outer := X.outer) rx hs hf fun pins' ch e0 H2 s1 s2 ee J hch f => ?_
  subst ee
  have J0 : Inv (cxC X N scope cl s3.heap.objs.size s3 H3 fp) [] σ' H' s1 := by
    have j := J.ofE
    exact ⟨j.ok, j.os, j.bare, j.base, j.loc, j.cell, j.free, j.freeC, fun p hp => absurd (show p ∈ ([] : List (Addr × Obj)) from hp) (by simp), j.hok, j.len⟩
  have I1 := yw I3 fp3 J0
  have hn : H' s3.heap.objs.size = none := J0.free
  have nfr : s3.heap.objs.size ∉ frs X.stack := fun z => by
    obtain ⟨_, o, ho, _⟩ := I3.stack.mem z
    exact absurd (Heap.lt_size ho) (Nat.lt_irrefl _)
  have nch : s3.heap.objs.size ∉ ch := fun z => (hch _ z).2.1 rfl
  obtain ⟨m, hm, _⟩ := J0.loc
  have hm : s1.heap.Ns s3.heap.objs.size m := hm
  obtain ⟨oD, es, ep, hoD, rest⟩ := hm
  have hoD2 : s2.heap.get? s3.heap.objs.size = some oD := f.un.keep _ _ hoD hn nfr nch
  have hm2 : s2.heap.Ns s3.heap.objs.size m := ⟨oD, es, ep, hoD2, rest⟩
  refine ⟨m, hm2, fun h' sb cenv hce => ?_⟩
  have f2 := f.beside hm2 (f.un.free _ _ hoD hn nch) nfr sb
  obtain ⟨B, fl, W, go⟩ := f2.on
  refine ziF W fun h4 fl4 W4 up4 => kE _ (.pass (ch := s3.heap.objs.size :: ch) I1 (fun b hb => ?_) (go h4 fl4 _ W4 up4))
  rcases List.mem_cons.mp hb with rfl | hb
  · obtain ⟨_, f1, _, f3, f4, f5⟩ := I3.fpOk (H' := fun _ => none) (Nat.le_refl _) rfl
    exact ⟨f3, f1, f4, f5⟩
  · rcases (hch b hb).1 with z | z
    · obtain ⟨_, f1, _, f3, f4, f5⟩ := fp3 b z
      exact ⟨f3, f1, f4, f5⟩
    · obtain ⟨_, f1, _, f3, f4, f5⟩ := I3.fpOk (H' := fun _ => none) (b := b) z rfl
      exact ⟨f3, f1, f4, f5⟩
theorem zdP {Q : VK} {use : Option (Value → Sem Unit)} {Qu : Value → Shared → Prop} {E : Value → Shared → Prop} {itv : Value} {s2 : Shared} (S : CompOk X scope own caps N) (hc : X.calm = true)
    (hg : jt X N scope fun Y => PG Y tg g) (ht : jt X N scope fun Y => PIf Y ifs tt) (he : ∀ C s H fp D, Inv X pins σ H s → C = s.heap.objs.size → (∀ b ∈ fp, FpOk X pins H b) → PE (cxX X N scope cl C s H fp (notedBy (model X.prog X.w) X.A (compEnvC scope cl C X.env) fun x s' => compPost (model X.prog X.w) X.A E use Qu (.ref D) C (.error x) s')) elt te)
    (hcl1 : ∀ x c, cl.lookup x = some c → X.env.cells.lookup x = some c) (hcl2 : ∀ x, scope.names.lookup x = some .free → (cl.lookup x).isSome = true)
    (h : PIE X pins σ tg (fun J H1 => ∀ D, H1 D = none → kN g tt te J D (capS own.length caps σ) (upd H1 D (.lst [])) fun H' => Q (.ref D) H') itv s2)
    (fin : ∀ D C s' H', Inv X pins σ H' s' → Q (.ref D) H' → (∃ m, s'.heap.Ns C m) → FpOk X pins H' C → compPost (model X.prog X.w) X.A E use Qu (.ref D) C (.ok .next) s') :
    wpAny (model X.prog X.w) X.A (newList []) (fun acc s₃ => wpAny (model X.prog X.w) X.A (newFunctionEnv scope X.env.globals cl [] X.env.qual none .none (some X.env)) (fun cenv s₄ =>
      codeAny (model X.prog X.w) X.A (.compStart (.ListComp elt [⟨tg, iter, ifs, 0⟩] scope pos) 0 itv acc { cenv with scope := relabel scope X.env }) (compPost (model X.prog X.w) X.A E use Qu acc cenv.locals) s₄) E s₃) E s2 := by
  obtain ⟨it, fp, tn, J, H2, rfl, I2, T, st2, f2, rr⟩ := h
  have hD : H2 s2.heap.objs.size = none := I2.hok.fresh (Nat.le_refl _)
  have ltf : ∀ b ∈ fp, b < s2.heap.objs.size := fun b hb => by
    obtain ⟨o, e, _⟩ := T.obj _ _ st2 b hb
    exact Heap.lt_size e
  refine wpAny_newObj_type (wpAny_newFunctionEnv S.nocell (by intro y hy; simp at hy) (fun h₁ hns₁ hsb₁ => ?_) S.kind)
  dsimp only at hns₁ hsb₁ ⊢
  have I3 : Inv X pins σ (upd H2 s2.heap.objs.size (.lst [])) { s2 with heap := s2.heap.push { cls := .type "list", dict := none, data := .seq ([] : List Value).toArray } } := Inv.newL (its := []) I2 .nil (Nat.zero_le _) s2.toks
  generalize hs3 : ({ s2 with heap := s2.heap.push { cls := .type "list", dict := none, data := .seq ([] : List Value).toArray } } : Shared) = s3 at I3
  have e3 : s3.heap = s2.heap.push { cls := .type "list", dict := none, data := .seq ([] : List Value).toArray } := by rw [← hs3]
  rw [← e3] at hns₁ hsb₁ ⊢
  have fp3 : ∀ b ∈ fp, FpOk X pins (upd H2 s2.heap.objs.size (.lst [])) b := fun b hb => ⟨by rw [zv (Nat.ne_of_lt (ltf b hb))]; exact (f2 b hb).1, (f2 b hb).2⟩
  have old3 : ∀ b o, s2.heap.get? b = some o → s3.heap.get? b = some o := fun b o e => by rw [e3]; exact Heap.get?_push_of_some _ e
  have lt3 : ∀ b ∈ fp, b < s3.heap.objs.size := fun b hb => by rw [e3, Heap.size_push]; exact Nat.lt_succ_of_lt (ltf b hb)
  have hk : ∀ b o, s3.heap.get? b = some o → h₁.get? b = some o := fun b o e => hsb₁.extBut b o (Nat.ne_of_lt (Heap.lt_size e)) (Heap.get?_push_of_some _ e)
  have I4 : Inv (cxC X N scope cl s3.heap.objs.size s3 (upd H2 s2.heap.objs.size (.lst [])) fp) [] (capS own.length caps σ) (upd H2 s2.heap.objs.size (.lst [])) { s3 with heap := h₁, toks := s3.toks + ([] : List (Str × Value)).length } := zcN S I3 hcl1 hcl2 fp3 lt3 hns₁ hk
  have st4 : tn 0 h₁ := T.keep _ _ _ st2 fun b hb o e => hk b o (old3 b o e)
  have loop : codeAny (model X.prog X.w) X.A (.compLoop (.ListComp elt [⟨tg, iter, ifs, 0⟩] scope pos) 0 (.ref it) (.ref s2.heap.objs.size) (compEnvC scope cl s3.heap.objs.size X.env)) (compPost (model X.prog X.w) X.A E use Qu (.ref s2.heap.objs.size) s3.heap.objs.size) { s3 with heap := h₁, toks := s3.toks + ([] : List (Str × Value)).length } := by
    refine zdw (D := s2.heap.objs.size) hc T (hg _ _ _ _ _) (ht _ _ _ _ _) (he _ _ _ _ _ I3 rfl fp3) I4 st4 (fun b hb => (fp3 b hb).1) (fun b hb => ⟨Nat.ne_of_lt (lt3 b hb), fun hb' => ?_, fun x c e => (fp3 b hb).2.2.2.2.1 x c (hcl1 _ _ e)⟩) (rr _ hD) fun σ' H' s' J q => ?_
    · obtain ⟨_, f1, f2, _⟩ := fp3 b hb
      rcases List.mem_cons.mp (I3.stkSub b hb') with z | z
      · exact f1 z
      · exact f2 z
    · obtain ⟨m, hm, _⟩ := J.loc
      exact fin _ _ s' H' (yw I3 fp3 J) q ⟨m, hm⟩ (I3.fpOk (Nat.le_refl _) J.free)
  have es : ({ s2 with heap := h₁, toks := s2.toks + ([] : List (Str × Value)).length } : Shared) = { s3 with heap := h₁, toks := s3.toks + ([] : List (Str × Value)).length } := by rw [← hs3]
  rw [es]
  exact codeAny_compStart_list loop (T.self X.A 0 _ _ _ st4 loop)
end
end L2.Y
namespace L2.Y
open PySem PySem.Spec PySem.Calls PyProof.Rows PySem.W
noncomputable def tDX (K : Frag) (ge : Env' → Option D) (fx : Env' → Option Str) (c : Str) (Hs : Hp) : TE := fun σ' H' Q' => tD K ge σ' H' Q' ∨ ∃ F' O' ρ', SR K F' O' ρ' σ' H' ∧ fx ρ' = some c ∧ Same Hs H'
theorem zfg {K : Frag} {n : Nat} {caps : List Nat} {gi : Env' → Option (List D)} {h : GT} {gt : Env' → Option Bool} {ge : Env' → Option D} {fx : Env' → Option Str} {σ : St} {H : Hp} {F : Fx} {O : List Addr} {ρ : Env'} {c : Str} (nd : caps.Nodup) (ov : Over n h) (r : SR K F O ρ σ H) (e : yR n caps gi h gt ge fx ρ = some c) :
    tId K gi σ H fun J H1 => ∀ D, H1 D = none → kN (tGd K h) (tTd K gt) (tDX K ge fx c H) J D (capS n caps σ) (upd H1 D (.lst [])) fun _ => False := by
  obtain ⟨ds, e1, e2⟩ := Option.bind_eq_some_iff.mp e
  split at e2
  case isFalse => cases e2
  rename_i hz
  refine ⟨F, O, ρ, ds, r, e1, fun J H1 s1 it D hD => ?_⟩
  have r1 := r.same s1
  have hHD : H D = none := s1.free hD
  have h0D : F.H0 D = none := r1.hb.free hD
  have hDO : D ∉ O := r1.fresh hD
  refine ⟨fun i m σ' H' => m = ds.length - i ∧ i ≤ ds.length ∧ Same H1 H' ∧ ∃ dn vs, H' D = some (.lst vs) ∧ Reps K (hide (D :: O) H') dn vs ∧ dn.length ≤ i ∧ SR K { H0 := F.H0, Oc := D :: F.Oc, V0 := hide O H1 } (D :: O) (capS n caps ρ) σ' H' ∧ xj h gt ge fx (capS n caps ρ) (ds.drop i) = some c,
    ⟨ds.length, rfl, Nat.zero_le _, jn hD, [], [], zS, .nil, Nat.le_refl _, SR.comp nd r1 hD, e2⟩, ?_⟩
  rintro i m σ2 H2 ⟨rfl, hi, sm, dn, vs, hD2, rd, hdn, r2, e3⟩
  have sB : Same (hide O H1) H2 := r2.vb.trans jY
  by_cases hlt : i < ds.length
  · refine .inr ⟨it.go i H2 sB hlt, ?_⟩
    rw [List.drop_eq_getElem_cons hlt] at e3
    obtain ⟨ρ3, e4, e5⟩ := Option.bind_eq_some_iff.mp e3
    obtain ⟨b, e6, e7⟩ := Option.bind_eq_some_iff.mp e5
    obtain ⟨ol, oo⟩ := ov _ _ _ e4
    have back : ∀ {σ' H'}, SR K { H0 := F.H0, Oc := D :: F.Oc, V0 := hide O H1 } (D :: O) ρ3 σ' H' → SR K { H0 := F.H0, Oc := D :: F.Oc, V0 := hide O H1 } (D :: O) (capS n caps ρ) σ' H' := fun {σ' H'} r' => r'.forget ol.symm fun j en ej => by
      obtain ⟨kk, jj, rfl, hj, hv⟩ := qD ej
      rw [oo _ (Nat.le_add_right _ _)]; exact ej
    refine ⟨fun σ' H' => Same H1 H' ∧ ∃ dn vs, H' D = some (.lst vs) ∧ Reps K (hide (D :: O) H') dn vs ∧ dn.length ≤ i + 1 ∧ SR K { H0 := F.H0, Oc := D :: F.Oc, V0 := hide O H1 } (D :: O) (capS n caps ρ) σ' H' ∧ xj h gt ge fx (capS n caps ρ) (ds.drop (i + 1)) = some c,
      fun σ' H' hh => ⟨ds.length - (i + 1), by omega, rfl, hlt, hh⟩, fun x H' y => ?_⟩
    obtain ⟨s5, r5, b5⟩ := zay r2 (it.yld i H2 x H' ds[i] sB (by simp [hlt]) y)
    refine ⟨_, _, _, ds[i], ρ3, r5, b5, e4, fun σ6 r6 => ⟨_, _, ρ3, b, r6, e6, fun H7 s7 => ?_⟩⟩
    have s27 : Same H2 H7 := s5.trans s7
    cases b with
    | false =>
      refine iteF ⟨sm.trans s27, dn, vs, s27 _ _ hD2, rd.same (zZ s27), Nat.le_succ_of_le hdn, back (r6.same s7), e7⟩
    | true =>
      have e7 : (match fx ρ3 with | some c => some c | none => (ge ρ3).bind fun _ => xj h gt ge fx (capS n caps ρ) (ds.drop (i + 1))) = some c := e7
      split at e7
      · rename_i c' q
        cases e7
        exact iteT (.inr ⟨_, _, ρ3, r6.same s7, q, s1.trans (sm.trans s27)⟩)
      · obtain ⟨yd, e8, e10⟩ := Option.bind_eq_some_iff.mp e7
        refine iteT (.inl ⟨_, _, ρ3, yd, r6.same s7, e8, fun v H8 s8 b8 => ⟨vs, s8 _ _ (s27 _ _ hD2), ?_, ?_⟩⟩)
        · rw [← rd.length]; omega
        · have s28 : Same H2 H8 := s27.trans s8
          have eh : hide (D :: O) (upd H8 D (.lst (vs ++ [v]))) = hide (D :: O) H8 := zX List.mem_cons_self
          refine ⟨fun bb u eb => ?_, dn ++ [yd], vs ++ [v], zS, ?_, ?_, ?_, e10⟩
          · rw [zv (zE eb hD)]; exact s28 _ _ (sm _ _ eb)
          · rw [eh]; exact (rd.same (zZ s28)).append (.cons b8 .nil)
          · rw [List.length_append, List.length_singleton]; omega
          · exact SR.accUpd (back ((r6.same s7).same s8)) h0D List.mem_cons_self fun _ z => nomatch z
  · have ei : i = ds.length := by omega
    subst ei
    rw [List.drop_length] at e3
    cases e3
section
variable {X : Cx} {scope : Scope} {own N : List Str} {caps : List Nat} {tg iter elt : Expr} {ifs : List Expr} {pos : Pos} {gi : Env' → Option (List D)} {h : GT} {gt : Env' → Option Bool} {ge : Env' → Option D} {fx : Env' → Option Str}
noncomputable def zcZ (X : Cx) (N : List Str) (scope : Scope) (P : Cx → Prop) : Prop := ∀ cl C s H fp E, P (cxX X N scope cl C s H fp E)
theorem zct (S : CompOk X scope own caps N) (nd : caps.Nodup) (ov : Over own.length h) (hc : X.calm = true) (hst : X.stack = X.env :: X.outer) (hf : X.env.frame = some X.env.locals) (hi : PId X tg iter gi) (hg : jt X N scope fun Y => PGd Y tg h) (ht : jt X N scope fun Y => PIfd Y ifs gt) (hd : zcZ X N scope fun Y => PD Y elt ge) (hx : zcZ X N scope fun Y => PXf Y elt fx)
    (hs : ∀ x, foldedSetIterable iter X.env x = pure x := by intro _; rfl) : PXf X (.ListComp elt [⟨tg, iter, ifs, 0⟩] scope pos) (yR own.length caps gi h gt ge fx) := by
  intro pins s σ H Q I ⟨F, O, ρ, c, r, e, k⟩
  obtain ⟨cl, hcl, hcl1, hcl2⟩ := xl (env := X.env) (scope := scope) fun y hy hf => I.ok.has y.1 (S.free y hy hf)
  rw [eval_ListComp]
  refine wpAny_comprehension_free (use := none) rfl hs hcl S.kind S.names (thn (hi pins s σ H _ I (zfg nd ov r e)) fun xv s1 h1 => thn h1 fun itv s2 h2 => ?_)
  refine zdP (Q := fun _ _ => False) (g := tGd X.K h) (tt := tTd X.K gt) (te := tDX X.K ge fx c H) S hc (fun cl C s H fp => hg cl C s H fp) (fun cl C s H fp => ht cl C s H fp) (fun C s3 H3 fp D I3 hC fp3 => ?_) hcl1 hcl2 h2 fun D C s' H' I' q => q.elim
  subst hC
  intro pins' s' σ' H' Q' I' q
  rcases q with q | ⟨F', O', ρ', r', e', sm⟩
  · exact hd cl _ s3 H3 fp _ pins' s' σ' H' Q' I' q
  · exact hx cl _ s3 H3 fp _ pins' s' σ' H' Q' I' ⟨F', O', ρ', c, r', e', fun C' H'' ev s'' hm smm rx => zgI hst hf I3 fp3 rx fun s4 rx4 => k C' H'' ev s4 hm (sm.trans smm) rx4⟩
end
end L2.Y
namespace L2.Y
open PySem PySem.Spec PySem.Calls PyProof.Rows PySem.W
section
variable {X : Cx} {e a b : Expr} {f : Env' → Option Str} {p pos : Pos}
theorem zbq (h : PXf X e f) (hg : Gl X "tuple") (hm : X.mg "tuple" = none) (hv : bootBuiltins "tuple" = some (.type "tuple")) (he : starEach [e] X.env = [(false, eval e X.env)] := by rfl) : PXf X (.Call (.Name "tuple" p) [e] [] pos) f :=
  PE.imp (zbN (r := fun _ _ _ => False) (fun _ _ _ _ _ _ _ _ _ z => z.elim) hg hm hv (qv h wr he) (by decide) (by decide) he (by rfl)) fun _ _ _ q => q
theorem zid {gb : Env' → Option D} (h : PXf X a f) (hb : PB X b gb) (hs : zaO b) : PXf X (.Subscript a b pos) f :=
  PE.imp (zia (r := fun _ _ _ _ => False) (fun _ _ _ _ _ _ _ _ _ _ _ _ _ _ z => z.elim) h hb hs) fun _ _ _ q => q
end
noncomputable def zg2 (n : Str) (f : Env' → Option Str) : Prop := ∀ ρ c, f ρ = some c → c = n
theorem zfM {n : Str} {f : Env' → Option Str} (h : zg2 n f) : Only n (xE f) := fun ρ c e => by
  obtain ⟨c', e1, rfl⟩ := Option.map_eq_some_iff.mp e
  exact h ρ c' e1
theorem yu {n : Str} {k : Nat} {f : List D → Option Str} {g : Env' → Option (List D)} (h : ∀ ds c, f ds = some c → c = n) : zg2 n (yh k f g) := fun ρ c e => by
  obtain ⟨ds, _, e2⟩ := Option.bind_eq_some_iff.mp e
  split at e2
  · exact h ds c e2
  · cases e2
theorem kC {n : Str} {k : Nat} {caps : List Nat} {gi : Env' → Option (List D)} {h : GT} {gt : Env' → Option Bool} {ge : Env' → Option D} {fx : Env' → Option Str} (hx : zg2 n fx) : zg2 n (yR k caps gi h gt ge fx) := fun ρ c e => by
  obtain ⟨ds, _, e2⟩ := Option.bind_eq_some_iff.mp e
  split at e2
  case isFalse => cases e2
  have key : ∀ (ρ0 : Env') (ds : List D), xj h gt ge fx ρ0 ds = some c → c = n := by
    intro ρ0 ds
    induction ds with
    | nil => intro z; cases z
    | cons d ds ih =>
      intro z
      obtain ⟨ρ1, _, z⟩ := Option.bind_eq_some_iff.mp z
      obtain ⟨b, _, z⟩ := Option.bind_eq_some_iff.mp z
      cases b with
      | false => exact ih z
      | true =>
        have z : (match fx ρ1 with | some c => some c | none => (ge ρ1).bind fun _ => xj h gt ge fx ρ0 ds) = some c := z
        split at z
        · rename_i c' q
          cases z
          exact hx ρ1 c q
        · obtain ⟨_, _, z⟩ := Option.bind_eq_some_iff.mp z
          exact ih z
  exact key _ _ e2
end L2.Y
namespace L2.Y
open PySem PySem.Spec PySem.Calls PyProof.Rows PySem.W PySem.Builtin.Str
section
variable {prog : Program} {w : World} {A : Around} {E : Value → Shared → Prop} {s : Shared} {x y : Str} {t u : Tok} {Q : Value → Shared → Prop}
theorem zfc (ok : zcq x y = true)
    (k : ∀ (l : List (Str × Tok)) (n : Nat), l.map (·.1) = Txt.split x y → Q (.ref s.heap.objs.size) { s with heap := s.heap.push { cls := .type "list", data := .seq (strValues l).toArray }, toks := n }) : wpAny (model prog w) A (call (.builtin "str.split") [.str x t, .str y u]) Q E s := by
  unfold zcq at ok
  simp only [Bool.and_eq_true, decide_eq_true_eq, Bool.not_eq_true'] at ok
  obtain ⟨⟨⟨hx, hy⟩, hn⟩, _⟩ := ok
  by_cases no : (decide (x.length < y.length) || decide (strKind x < strKind y)) = true
  · have z : Txt.split x y = [x] := if_pos no
    exact call_meets F.slot_str_split (typeIs_str _ _ _) F.entry_str_split (F.args_str_split_2 _ _) (meets_str_split_cannot_occur x y t u no) (k [(x, t)] s.toks (by rw [z]; rfl))
  · have no' := Bool.not_eq_true _ |>.mp no
    by_cases em : (occurrences x y 0 x.length (x.length + 1)).isEmpty = true
    · have z : Txt.split x y = [x] := (if_neg no).trans (if_pos em)
      exact call_meets F.slot_str_split (typeIs_str _ _ _) F.entry_str_split (F.args_str_split_2 _ _) (meets_str_split_not_found x y t u no' hy em) (k [(x, t)] s.toks (by rw [z]; rfl))
    · have em' := Bool.not_eq_true _ |>.mp em
      have z : Txt.split x y = partsBetween x (occurrences x y 0 x.length (x.length + 1)) y.length := (if_neg no).trans (if_neg em)
      have kk := k (numbered s.toks (partsBetween x (occurrences x y 0 x.length (x.length + 1)) y.length)) (s.toks + (partsBetween x (occurrences x y 0 x.length (x.length + 1)) y.length).length) ((numbered_texts _ _).trans z.symm)
      rw [← strsFrom_eq] at kk
      exact call_meets F.slot_str_split (typeIs_str _ _ _) F.entry_str_split (F.args_str_split_2 _ _) (meets_str_split_sep x y t u no' hy em' hx hn) kk
end
theorem zbp : ∀ l : List (Str × Tok), Vals ((l.map (·.1)).map V.str) (strValues l)
  | [] => .nil
  | p :: l => .cons ⟨p.2, rfl⟩ (zbp l)
theorem zb2 {K : PySem.W.Frag} {H : Hp} : ∀ ys : List Str, Reps K H (ys.map PyData.str) (ys.map V.str)
  | [] => .nil
  | y :: ys => .cons (.str y) (zb2 ys)
section
variable {X : Cx} {e : Expr}
theorem vk {sep : Str} {j cp apos cpos} {g : Env' → Option D} (h : PD X e g)
    (hbase : attributeBase e "split" X.env (eval e X.env) = eval e X.env := by rfl)
    (hline : (apos.endLine == cpos.line) = true := by rfl) (hs : starEach [.Constant (.str sep) j cp] X.env = [(false, eval (.Constant (.str sep) j cp) X.env)] := by rfl) :
    PFr X (.Call (.Attribute e "split" apos) [.Constant (.str sep) j cp] [] cpos) (splF sep g) := by
  refine PE.imp (zf9 (T := "str") (id := "str.split") (r := fun x xs H Q => ∃ z, x = .str z ∧ xs = [.str sep] ∧ zcq z sep = true ∧ ∀ l, H l = none → Q (.ref l) (upd H l (.lst ((Txt.split z sep).map V.str))))
    F.plainAttrs_str F.slot_str_split F.type_str_split ?_ h (qv (zcG (x := sep) (j := j) (pos := cp)) wr hs) hbase rfl hline hs rfl) fun σ H Q ⟨F, O, ρ, ds, r, ed, k⟩ => ?_
  · intro pins s σ H x xs v us Q I rv rvs ⟨z, ex, exs, ok, q⟩
    subst ex exs
    obtain ⟨t, rfl⟩ := rv
    obtain ⟨u, rfl, ru⟩ := Vals.one rvs
    obtain ⟨t', rfl⟩ := ru
    refine zfc ok fun l n el => ?_
    have hv : Vals ((Txt.split z sep).map V.str) (strValues l) := by rw [← el]; exact zbp l
    have hlen : ((Txt.split z sep).map V.str).length ≤ sizeLine := by
      unfold zcq at ok
      simp only [Bool.and_eq_true, decide_eq_true_eq] at ok
      rw [List.length_map]
      exact ok.2
    refine ⟨.ref _, _, I.laid (o := .lst ((Txt.split z sep).map V.str)) (fun b o e => Heap.get?_push_of_some _ e) (Nat.le_refl _) ?_, rfl, q _ (I.hok.fresh (Nat.le_refl _))⟩
    exact ⟨hlen, strValues l, 0, hv, Heap.get?_push_size _ rfl⟩
  · obtain ⟨d, e1, e2⟩ := Option.bind_eq_some_iff.mp ed
    cases d with
    | str z =>
      dsimp only at e2
      split at e2
      case isFalse => cases e2
      rename_i ok
      cases e2
      refine ⟨F, O, ρ, .str z, r, e1, fun v H' sm rp => ?_⟩
      cases rp
      exact ⟨rfl, z, rfl, rfl, ok, fun l hl => k l _ H' sm hl (zb2 _)⟩
    | _ => cases e2
end
end L2.Y
namespace L2.Y
open PySem PySem.Spec PySem.Calls PyProof.Rows PySem.W PySem.Builtin.Str
section
variable {X : Cx} {e a : Expr} {pos : Pos}
theorem kK : OpD X (compareOp .NotIn) zbQ := by
  intro pins s σ H O x y v u dx dy d Q I hO rx ry bx by' e k
  unfold zbQ at e
  split at e
  case h_2 => cases e
  cases e
  cases bx.str
  cases by'.str
  obtain ⟨t, rfl⟩ := rx
  obtain ⟨t', rfl⟩ := ry
  exact P.notIn_str ⟨.bl _, H, I, rfl, k _ H (Same.refl _) (.bl _)⟩
theorem zgw {o : Expr} {apos cpos : Pos} {ga gb : Env' → Option D} (ho : PD X o ga) (h : PD X e gb)
    (hbase : attributeBase o "index" X.env (eval o X.env) = eval o X.env := by rfl)
    (hfew : ((backTo cpos (starEach [e] X.env)).all (fun x => !x.1) && (backToKw cpos (keywordEach [] X.env)).all (fun x => x.1.isSome)
      && decide ([e].length + ([] : List Keyword).length + (if ([] : List Keyword).isEmpty then 0 else 1) < 30)) = true := by rfl)
    (hline : (apos.endLine == cpos.line) = true := by rfl) (hs : starEach [e] X.env = [(false, eval e X.env)] := by rfl) :
    PD X (.Call (.Attribute o "index" apos) [e] [] cpos) (g2 zd2 ga gb) := by
  refine PE.imp (zf9 (T := "str") (id := "str.index") (r := fun x xs H Q => ∃ z y i rest, x = .str z ∧ xs = [.str y] ∧ occurrences z y 0 z.length 1 = i :: rest ∧ Q (.int i) H)
    F.plainAttrs_str F.slot_str_index F.type_str_index ?_ ho (qv h wr hs) hbase hfew hline hs rfl) fun σ H Q ⟨F, O, ρ, d, r, ed, k⟩ => ?_
  · intro pins s σ H x xs v us Q I rv rvs ⟨z, y, i, rest, ex, exs, oc, q⟩
    subst ex exs
    obtain ⟨t, rfl⟩ := rv
    obtain ⟨u, rfl, ru⟩ := Vals.one rvs
    obtain ⟨t', rfl⟩ := ru
    exact SC.index oc ⟨.int i, H, I.tok _, ⟨_, rfl⟩, q⟩
  · obtain ⟨x, y, e1, e2, e3⟩ := yo ed
    unfold zd2 at e3
    split at e3
    case h_2 => cases e3
    rename_i z y'
    obtain ⟨i, e4, rfl⟩ := Option.map_eq_some_iff.mp e3
    obtain ⟨rest, oc⟩ : ∃ rest, occurrences z y' 0 z.length 1 = i :: rest := by
      cases q : occurrences z y' 0 z.length 1 with
      | nil => rw [q] at e4; cases e4
      | cons b r => rw [q] at e4; cases e4; exact ⟨r, rfl⟩
    refine ⟨F, O, ρ, .str z, r, e1, fun v H' sm rp => ?_⟩
    cases rp
    refine ⟨rfl, F, O, ρ, .str y', r.same sm, e2, fun v2 H2 sm2 rp2 => ?_⟩
    cases rp2
    exact ⟨z, y', i, rest, rfl, rfl, oc, k _ H2 (sm.trans sm2) (.int _)⟩
theorem zaA {x z : Str} (hg : Gl X x) (hm : ∃ t, X.mg x = some (.str z t)) (hd : (x == ("__debug__" : Str)) = false) : PD X (.Name x pos) (gK (.str z)) := we (wA (v := .str z) hg hm.choose_spec ⟨_, rfl⟩ hd) fun _ => .str z
theorem part_of {v : Value} {o : Option Int} (h : IsPart v o) : ∃ l : Option (Int × Tok), partValue l = v ∧ l.map (·.1) = o := by
  cases h with
  | none => exact ⟨none, rfl, rfl⟩
  | int i t => exact ⟨some (i, t), rfl, rfl⟩
theorem zkD : SlR X (fun x lo hi H Q => ∃ z, x = .str z ∧ z.length ≤ 16777216 ∧ Q (.str (Txt.slice z lo hi)) H) := by
  intro pins s σ H x v vl vu lo hi sl Q I rx hs pl pu ⟨z, ex, hz, q⟩
  subst ex
  obtain ⟨t, rfl⟩ := rx
  obtain ⟨l, rfl, rfl⟩ := part_of pl
  obtain ⟨u, rfl, rfl⟩ := part_of pu
  exact ⟨"str", _, F.slot_str_getitem.lookup, typeIs_str _ _ _, wpAny_getItem_str_slice (l := l) (u := u) (st := none) hs rfl (post_val_or_str ⟨Nat.le_trans (Txt.slice_le z _ _) hz, fun t' k => ⟨.str _, H, I.tok k, ⟨t', rfl⟩, q⟩⟩)⟩
theorem yk {lo hi : Option Expr} {p2 : Pos} {ga : Env' → Option D} {gl gh : GO} (he : PB X e ga) (hl : POd X lo gl) (hu : POd X hi gh) : PD X (.Subscript e (.Slice lo hi none p2) pos) (gSlS ga gl gh) :=
  PE.imp (zcz zkD he hl hu) fun σ H Q ⟨F, O, ρ, d, r, ee, k⟩ => by
    obtain ⟨dx, e1, ee⟩ := Option.bind_eq_some_iff.mp ee
    obtain ⟨l, e2, ee⟩ := Option.bind_eq_some_iff.mp ee
    obtain ⟨h, e3, ee⟩ := Option.bind_eq_some_iff.mp ee
    refine ⟨F, O, ρ, dx, r, e1, fun x H1 s1 b1 => ⟨F, O, ρ, l, r.same s1, e2, fun H2 s2 => ⟨F, O, ρ, h, (r.same s1).same s2, e3, fun H3 s3 => ?_⟩⟩⟩
    unfold slS at ee
    split at ee
    case h_2 => cases ee
    split at ee
    case isFalse => cases ee
    rename_i hz
    cases ee
    cases b1.str
    exact ⟨_, rfl, hz, k _ H3 (s1.trans (s2.trans s3)) (.str _)⟩
end
end L2.Y
namespace L2.Y
open PySem PySem.Spec PySem.Calls PyProof.Rows PySem.W
section
variable {X : Cx}
theorem zeE : OpD X (compareOp .Is) isND := by
  intro pins s σ H O x y v u dx dy d Q I hO rx ry bx by' e k
  have hy : dy = .none := by
    cases dy with
    | none => rfl
    | _ => cases dx <;> cases e
  subst hy
  have ey : y = .non := by
    cases by' with
    | val h => cases h; rfl
    | own _ h => cases h
  subst ey
  refine zjz pins s σ H x .non v u Q I rx ry ⟨rfl, ?_⟩
  have fin : ∀ b : Bool, decide (x = .non) = b → d = .bool b → Q (.bl (decide (x = V.non))) H := fun b hb hd => by
    rw [hb]
    exact k _ H (Same.refl _) (by rw [hd]; exact .bl b)
  cases dx with
  | none =>
    cases e
    have : x = .non := by
      cases bx with
      | val h => cases h; rfl
      | own _ h => cases h
    exact fin true (by rw [this]; rfl) rfl
  | bool b =>
    cases e
    have : x = .bl b := by
      cases bx with
      | val h => cases h; rfl
      | own _ h => cases h
    exact fin false (by rw [this]; rfl) rfl
  | int i => cases e; exact fin false (by rw [bx.int]; rfl) rfl
  | str z => cases e; exact fin false (by rw [bx.str]; rfl) rfl
  | tuple ds =>
    cases e
    obtain ⟨a, xs, rfl, _⟩ := bx.tup
    exact fin false rfl rfl
  | list ds =>
    cases e
    obtain ⟨a, xs, rfl, _⟩ := bx.lst
    exact fin false rfl rfl
  | _ => cases e
end
end L2.Y
namespace L2.Y
open PySem PySem.Spec PySem.Calls PyProof.Rows PySem.W
noncomputable def Itc (lo c : Int) (n : Nat) : It := ⟨fun i _ => i < n, fun i H x H' => H' = H ∧ x = .int (lo + i * c), fun i _ => n ≤ i⟩
theorem zdN {P : Program} {w : World} {K : PySem.W.Frag} {tg : Expr} (p : Addr) (lo c : Int) (n : Nat) : Turn P w K tg (Itc lo c n) [p] p (fun i h => IsRangeIter h p (lo + (i : Nat) * c) ((n : Int) - (i : Nat)) c) where
  mem := List.mem_singleton_self p
  obj := fun i h is b hb => by
    obtain rfl : b = p := List.mem_singleton.mp hb
    exact ⟨_, is, fun v z => nomatch (show Data.fields _ = Data.cell v from z)⟩
  keep := fun i h h' is k => k p (List.mem_singleton_self p) _ is
  item := by
    intro X e1 e2 e3 calm i pins s σ H E I fpo is go
    subst e1 e2 e3
    obtain ⟨g0, g1, g2, g3, g4, g5⟩ := fpo p (List.mem_singleton_self p)
    refine (Walks.range (prog := X.prog) (w := X.w) (I.ok.hd calm) p lo c n).item i s _ _ go is fun v h' tk ⟨t, ev⟩ is' kk => ?_
    subst ev
    have J : Inv X pins σ H { s with heap := h', toks := tk } := I.turned (fun b o hb q => kk b o (fun z => hb (List.mem_singleton.mp z)) q) g0 g1 g3 g4 g5
    exact ⟨_, rfl, zeT (s := { s with heap := h', toks := tk }) (n := "range_iterator") is' rfl rfl (by decide) ⟨.int (lo + i * c), H, J, ⟨t, rfl⟩, ⟨rfl, rfl⟩, is', fun b hb => (fpo b hb).1⟩⟩
  done := by
    intro X e1 e2 e3 calm i pins s σ H E I fpo is st
    subst e1 e2 e3
    obtain ⟨g0, g1, g2, g3, g4, g5⟩ := fpo p (List.mem_singleton_self p)
    exact wpAny_pyNext_range_end (I.ok.hd calm) is (by have : n ≤ i := st; omega) fun h' kb => ⟨rfl, I.turned (t' := s.toks) (fun b o hb q => kb b o hb q) g0 g1 g3 g4 g5⟩
  self := fun _ _ _ _ _ is q => wpAny_pyIter_rangeiter is q
theorem yy (lo c : Int) (n : Nat) : (jz lo c n).length = n := by simp [jz]
theorem zd3 {K : PySem.W.Frag} {B : Hp} (lo c : Int) (n : Nat) : ItD K B (Itc lo c n) (jz lo c n) where
  go := fun i H s hi => by rw [yy] at hi; exact hi
  yld := fun i H x H' d s hd y => by
    obtain ⟨rfl, rfl⟩ := y
    have hi : i < n := by
      have := (List.getElem?_eq_some_iff.mp hd).1
      rwa [yy] at this
    have e : (jz lo c n)[i]? = some (.int (lo + i * c)) := by simp [jz, hi]
    rw [hd] at e; cases e
    exact .old fun _ _ _ => .int _
  stop := fun H s => by rw [yy]; exact Nat.le_refl _
theorem zcT {a b c : Int} (hc : 0 < c) : Builtin.Range.rangeSize a b c = if a < b then (b - a - 1) / c + 1 else 0 := if_pos hc
section
variable {X : Cx} {tg : Expr} {p pos : Pos}
theorem zaZ {a b c : Expr} {ga : Env' → Option (List D)} (hg : Gl X "range") (hm : X.mg "range" = none) (ha : PAd X [a, b, c] ga) (hs : starEach [a, b, c] X.env = (false, eval a X.env) :: starEach [b, c] X.env := by rfl) (hs2 : (backTo pos (starEach [b, c] X.env)).any (·.1) = false := by rfl) :
    PId X tg (.Call (.Name "range" p) [a, b, c] [] pos) (gItA wj ga) := by
  intro pins s σ H R I ⟨F, O, ρ, ds, r, e, k⟩
  obtain ⟨as, e1, e2⟩ := Option.bind_eq_some_iff.mp e
  unfold wj at e2
  split at e2
  case h_2 => cases e2
  rename_i lo hi st
  split at e2
  case isFalse => cases e2
  rename_i hb
  cases e2
  obtain ⟨b1, b2, b3, b4, b5, b6⟩ := hb
  refine Call_ (vE I hg hm boot_range (PyProof.Rows.callWith_type1 (thn (ha pos pins s σ H (fun vs H1 => vs = [.int lo, .int hi, .int st] ∧ Same H H1) I ⟨F, O, ρ, _, r, e1, fun vs H1 sm rb => ⟨by
    cases rb with
    | cons r1 rb =>
      cases rb with
      | cons r2 rb =>
        obtain ⟨v, rfl, rv⟩ := rb.inv1
        cases r1
        cases r2
        cases rv
        rfl, sm⟩⟩) fun us s1 ⟨vs, H1, I1, rv, ev, sm⟩ => ?_) hs hs2))
  subst ev
  cases rv with
  | cons r1 rr =>
    cases rr with
    | cons r2 rr =>
      obtain ⟨u, rfl, r3⟩ := Vals.one rr
      obtain ⟨t1, rfl⟩ := r1
      obtain ⟨t2, rfl⟩ := r2
      obtain ⟨t3, rfl⟩ := r3
      have hq : 0 ≤ (if lo < hi then (hi - lo - 1) / st + 1 else 0) ∧ (if lo < hi then (hi - lo - 1) / st + 1 else 0) ≤ 2147483648 := by
        split
        · have := Int.ediv_nonneg (a := hi - lo - 1) (b := st) (by omega) (by omega)
          have := Int.ediv_le_self st (a := hi - lo - 1) (by omega)
          omega
        · omega
      refine call_range_3 (by omega) ?_ (.inl (PyProof.noPylong_small (by omega)))
      refine wpAny_pyIter_range (IsRange.new ..) ?_ ?_
      · unfold Builtin.Range.small
        rw [zcT b1]
        simp only [Builtin.Range.rangeFitsLong, Bool.and_eq_true, Bool.or_eq_true, decide_eq_true_eq, beq_iff_eq]
        refine ⟨⟨⟨⟨by omega, by omega⟩, by omega⟩, by omega, by omega⟩, .inr ?_⟩
        rw [if_pos (show st > 0 from b1), decide_eq_true (by omega), decide_eq_true (by omega)]
        rfl
      · have I2 : Inv X pins σ H1 { s1 with heap := s1.heap.push { cls := .type "range", data := .fields #[.int lo t1, .int hi t2, .int st t3] }, toks := s1.toks } := I1.kept fun b o e => Heap.get?_push_of_some _ e
        refine ⟨_, [_], _, Itc lo st (if lo < hi then (hi - lo - 1) / st + 1 else 0).toNat, H1, rfl, I2.kept (t' := s1.toks) fun b o e => Heap.get?_push_of_some _ e, zdN _ lo st _, ?_, fun b hb => ?_, k _ H1 sm (zd3 lo st _)⟩
        · show IsRangeIter _ _ (lo + ((0 : Nat) : Int) * st) (((((if lo < hi then (hi - lo - 1) / st + 1 else 0).toNat : Nat)) : Int) - ((0 : Nat) : Int)) st
          rw [show lo + ((0 : Nat) : Int) * st = lo by simp, show ((((if lo < hi then (hi - lo - 1) / st + 1 else 0).toNat : Nat) : Int) - ((0 : Nat) : Int)) = Builtin.Range.rangeSize lo hi st by rw [zcT b1]; omega]
          exact Heap.get?_push_size _ rfl
        · obtain rfl := List.mem_singleton.mp hb
          exact I2.fpOk (Nat.le_refl _) (I2.hok.fresh (Nat.le_refl _))
end
end L2.Y
namespace L2.Y
open PySem PySem.Spec PyProof.Rows
theorem pgn {X : Cx} {i : Nat} {x : Str} {pos : Pos} (nd : X.N.Nodup) (hi : X.N[i]? = some x := by rfl) (hx : Loc X.env.scope x := by first | exact Or.inl rfl | exact Or.inr rfl) (hf : X.fn x = true ∨ X.env.scope.names.lookup x = some .local := by first | exact .inl rfl | exact .inr rfl | assumption) : PG X (.Name x pos) (zaq i) := jU nd hi hx hf
end L2.Y
set_option maxHeartbeats 4000000
section
namespace L2.Y
open PySem
noncomputable def kS : GS :=
    (sRet (qP (g1 (isI zbT) (gVar 0)) (zcb (g1 (isI kg) (gVar 0)))))
noncomputable def F_is_whole : List D → Option D := jc 1 kS
noncomputable def qZ : GS :=
    (sRet (qP (gA (zA 1 F_is_whole) (zb (gVar 0) gNil)) (kH leD leD (gVar 1) (gVar 0) (gVar 2))))
noncomputable def F_is_whole_within : List D → Option D := jc 3 qZ
noncomputable def qy : GS :=
    (sRet (qP (g1 (isI jx) (gVar 0)) (g2 eqD (gA lenD (zb (gVar 0) gNil)) (gVar 1))))
noncomputable def F_is_tuple_of_length : List D → Option D := jc 2 qy
noncomputable def wd : GS :=
    (sSeq (sIf (jr (gTr (gA (zA 2 F_is_tuple_of_length) (zb (gVar 0) (zb (gK (.int 3)) gNil)))))
    (sRet (gK (.bool false)))
    sNil)
    (sSeq (sAsg (hTup 3 (jG (hName 2) (jG (hName 3) (jG (hName 4) hNil)))) (gVar 0))
    (sSeq (sIf (gOrT (jr (gTr (gA (zA 3 F_is_whole_within) (zb (gVar 2) (zb (gK (.int 0)) (zb (gVar 1) gNil)))))) (jr (gTr (gA (zA 3 F_is_whole_within) (zb (gVar 3) (zb (gK (.int 0)) (zb (gVar 1) gNil)))))))
    (sRet (gK (.bool false)))
    sNil)
    (sRet (qP (g2 ltD (gVar 2) (gVar 3)) (gA (zA 3 F_is_whole_within) (zb (gVar 4) (zb (gK (.int 1)) (zb (gK (.int 4)) gNil)))))))))
noncomputable def F_is_tie : List D → Option D := jc 5 wd
noncomputable def xN : GS :=
    (sSeq (zjW 1 (qh 1 [] (gIt seqD (gVar 0)) (hName 0) zV (gSl (gVar 0) zy (zl (gK (.int 2))))))
    (sRet (gA allD (zb (gLs (qh 2 [] (gItA zipD (zb (gVar 1) (zb (gSl (gVar 1) (zl (gK (.int 1))) zy) gNil))) (hTup 2 (jG (hName 0) (jG (hName 1) hNil))) zV (g2 ltD (gVar 0) (gVar 1)))) gNil))))
noncomputable def F_are_rising : List D → Option D := jc 2 xN
noncomputable def zU : GS :=
    (sIf (gOrT (gBo (g2 dinK (gVar 4) (qk 2))) (gBo (g2 dinK (gVar 5) (qk 2))))
    (sSeq (zbH 2 (gVar 4) (gK (.bool true)))
    (zbH 2 (gVar 5) (gK (.bool true))))
    sNil)
noncomputable def jg : GS :=
    (sFor (gIt seqD (gVar 1)) (hTup 3 (jG (hName 4) (jG (hName 5) (jG (hName 6) hNil))))
    zU)
noncomputable def jZ : GS :=
    (sSeq (zex 2 (gK (.int 0)) (gK (.bool true)))
    (sSeq (sFor (gItA kt (zb (gVar 0) gNil)) (hName 3)
    jg)
    (sRet (g2 eqD (gA lenK (zb (qk 2) gNil)) (g2 addD (gVar 0) (gK (.int 1)))))))
noncomputable def F_all_lead_to_ditch : List D → Option D := jc 7 jZ
noncomputable def yg : GS :=
    (sSeq (sIf (jr (gTr (gA (zA 2 F_is_tuple_of_length) (zb (gVar 0) (zb (gK (.int 2)) gNil)))))
    (sRet (gK (.bool false)))
    sNil)
    (sSeq (sAsg (hTup 2 (jG (hName 1) (jG (hName 2) hNil))) (gVar 0))
    (sSeq (sIf (gOrT (jr (gTr (gA (zA 3 F_is_whole_within) (zb (gVar 1) (zb (gK (.int 1)) (zb (gK (.int 5)) gNil)))))) (jr (gTr (g1 (isI jx) (gVar 2)))))
    (sRet (gK (.bool false)))
    sNil)
    (sSeq (sIf (jr (gTr (gA allD (zb (gLs (qh 1 [1] (gIt seqD (gVar 2)) (hName 0) zV (gA (zA 2 F_is_tie) (zb (gVar 0) (zb (gVar 1) gNil))))) gNil))))
    (sRet (gK (.bool false)))
    sNil)
    (sRet (qP (gA (zA 1 F_are_rising) (zb (gVar 2) gNil)) (gA (zA 2 F_all_lead_to_ditch) (zb (gVar 1) (zb (gVar 2) gNil)))))))))
noncomputable def F_is_yard : List D → Option D := jc 3 yg
noncomputable def qb : GX :=
    (xIf (gOrT (gBo (g2 neD (gA lenD (zb (gVar 0) gNil)) (gK (.int 1)))) (gBo (g2 zbQ (gVar 0) (gK (.str "0123456789")))))
    (wu "NoText")
    xNo)
noncomputable def jC : List D → Option Str := runX 1 qb
noncomputable def qQ : GS :=
    (sSeq (sIf (gOrT (gBo (g2 neD (gA lenD (zb (gVar 0) gNil)) (gK (.int 1)))) (gBo (g2 zbQ (gVar 0) (gK (.str "0123456789")))))
    sNo
    sNil)
    (sRet (g2 zd2 (gK (.str "0123456789")) (gVar 0))))
noncomputable def F_number_of : List D → Option D := jc 1 qQ
noncomputable def ja : GX :=
    (xSeq (sIf (gBo (g2 neD (g2 ixD (gVar 1) (gK (.int 0))) (gVar 0)))
    sNo
    sNil)
    (xIf (gBo (g2 neD (g2 ixD (gVar 1) (gK (.int 0))) (gVar 0)))
    (wu "NoText")
    xNo)
    (xE (yR 1 [] (gIt seqD (gSl (gVar 1) (zl (gK (.int 1))) zy)) (hName 0) zV (gA (zA 1 F_number_of) (zb (gVar 0) gNil)) (yh 1 jC (zb (gVar 0) gNil)))))
noncomputable def zp : List D → Option Str := runX 2 ja
noncomputable def zY : GS :=
    (sSeq (sIf (gBo (g2 neD (g2 ixD (gVar 1) (gK (.int 0))) (gVar 0)))
    sNo
    sNil)
    (sRet (gA ym (zb (gLs (qh 1 [] (gIt seqD (gSl (gVar 1) (zl (gK (.int 1))) zy)) (hName 0) zV (gA (zA 1 F_number_of) (zb (gVar 0) gNil)))) gNil))))
noncomputable def F_numbers_behind : List D → Option D := jc 2 zY
noncomputable def kh : GX :=
    (xSeq (sAsg (hName 1) (gLs (splF " " (gVar 0))))
    xNo
    (xSeq (sIf (gBo (g2 neD (g2 modD (gA lenD (zb (gVar 1) gNil)) (gK (.int 4))) (gK (.int 2))))
    sNo
    sNil)
    (xIf (gBo (g2 neD (g2 modD (gA lenD (zb (gVar 1) gNil)) (gK (.int 4))) (gK (.int 2))))
    (wu "NoText")
    xNo)
    (xSeq (sAsg (hName 2) (g2 ixD (gA (zA 2 F_numbers_behind) (zb (gK (.str "yard")) (zb (gSl (gVar 1) zy (zl (gK (.int 2)))) gNil))) (gK (.int 0))))
    (xE (yh 2 zp (zb (gK (.str "yard")) (zb (gSl (gVar 1) zy (zl (gK (.int 2)))) gNil))))
    (xSeq (sAsg (hName 3) (gA ym (zb (gLs (qh 1 [1] (gItA wj (zb (gK (.int 2)) (zb (gA lenD (zb (gVar 1) gNil)) (zb (gK (.int 4)) gNil)))) (hName 0) zV (gA (zA 2 F_numbers_behind) (zb (gK (.str "link")) (zb (gSl (gVar 1) (zl (gVar 0)) (zl (g2 addD (gVar 0) (gK (.int 4))))) gNil))))) gNil)))
    (xE (yR 1 [1] (gItA wj (zb (gK (.int 2)) (zb (gA lenD (zb (gVar 1) gNil)) (zb (gK (.int 4)) gNil)))) (hName 0) zV (gA (zA 2 F_numbers_behind) (zb (gK (.str "link")) (zb (gSl (gVar 1) (zl (gVar 0)) (zl (g2 addD (gVar 0) (gK (.int 4))))) gNil))) (yh 2 zp (zb (gK (.str "link")) (zb (gSl (gVar 1) (zl (gVar 0)) (zl (g2 addD (gVar 0) (gK (.int 4))))) gNil)))))
    (xIf (jr (gTr (gA (zA 1 F_is_yard) (zb (gA tupD (zb (gVar 2) (zb (gVar 3) gNil))) gNil))))
    (wu "NoText")
    xNo)))))
noncomputable def yE : List D → Option Str := runX 4 kh
noncomputable def zbP : GS :=
    (sSeq (sAsg (hName 1) (gLs (splF " " (gVar 0))))
    (sSeq (sIf (gBo (g2 neD (g2 modD (gA lenD (zb (gVar 1) gNil)) (gK (.int 4))) (gK (.int 2))))
    sNo
    sNil)
    (sSeq (sAsg (hName 2) (g2 ixD (gA (zA 2 F_numbers_behind) (zb (gK (.str "yard")) (zb (gSl (gVar 1) zy (zl (gK (.int 2)))) gNil))) (gK (.int 0))))
    (sSeq (sAsg (hName 3) (gA ym (zb (gLs (qh 1 [1] (gItA wj (zb (gK (.int 2)) (zb (gA lenD (zb (gVar 1) gNil)) (zb (gK (.int 4)) gNil)))) (hName 0) zV (gA (zA 2 F_numbers_behind) (zb (gK (.str "link")) (zb (gSl (gVar 1) (zl (gVar 0)) (zl (g2 addD (gVar 0) (gK (.int 4))))) gNil))))) gNil)))
    (sSeq (sIf (jr (gTr (gA (zA 1 F_is_yard) (zb (gA tupD (zb (gVar 2) (zb (gVar 3) gNil))) gNil))))
    sNo
    sNil)
    (sRet (gA tupD (zb (gVar 2) (zb (gVar 3) gNil)))))))))
noncomputable def F_read : List D → Option D := jc 4 zbP
noncomputable def xk : GS :=
    (sSeq (sIf (gBo (g2 ltD (gVar 1) (gA lenS (zb (gVar 0) gNil))))
    (sRet (g2 ixS (gVar 0) (gVar 1)))
    sNil)
    (sRet (gK (.int 0))))
noncomputable def F_law_cell_at : List D → Option D := jc 2 xk
noncomputable def kd : GS :=
    (sSeq (sAsg (hName 2) (g2 modD (g2 yx (g2 addD (g2 addD (gA (zA 2 F_law_cell_at) (zb (gVar 0) (zb (gVar 1) gNil))) (g2 yx (gK (.int 7919)) (gVar 1))) (gK (.int 1))) (gK (.int 48271))) (gK (.int 2147483647))))
    (sRet (g2 modD (g2 addD (g2 addD (g2 yx (gVar 2) (gVar 2)) (g2 yx (gK (.int 7)) (gVar 2))) (gVar 1)) (gK (.int 2147483629)))))
noncomputable def F_law_mixed : List D → Option D := jc 3 kd
noncomputable def vF : GS :=
    (sSeq (sAsg (hName 2) (g2 modD (g2 yx (g2 addD (g2 addD (gVar 0) (g2 yx (gK (.int 104729)) (gVar 1))) (gK (.int 17))) (gK (.int 69621))) (gK (.int 2147483647))))
    (sRet (g2 modD (g2 addD (g2 addD (g2 yx (gVar 2) (gVar 2)) (g2 yx (gK (.int 3)) (gVar 2))) (gVar 1)) (gK (.int 2147483629)))))
noncomputable def F_law_drawn : List D → Option D := jc 3 vF
noncomputable def xF : GS :=
    (zbj 4 (gA tupD (zb (g2 modD (gA (zA 2 F_law_drawn) (zb (gVar 0) (zb (gVar 5) gNil))) (gVar 5)) (zb (gVar 5) gNil))) (g2 addD (gK (.int 1)) (g2 modD (gA (zA 2 F_law_drawn) (zb (gVar 0) (zb (g2 addD (gK (.int 10)) (gVar 5)) gNil))) (gVar 2))))
noncomputable def jB : GS :=
    (sSeq (sAsg (hName 7) (g2 modD (gA (zA 2 F_law_drawn) (zb (gVar 0) (zb (g2 addD (gK (.int 20)) (gVar 6)) gNil))) (g2 addD (gVar 3) (gK (.int 1)))))
    (sSeq (sAsg (hName 8) (g2 modD (gA (zA 2 F_law_drawn) (zb (gVar 0) (zb (g2 addD (gK (.int 30)) (gVar 6)) gNil))) (g2 addD (gVar 3) (gK (.int 1)))))
    (sIf (gBo (g2 ltD (gVar 7) (gVar 8)))
    (zbj 4 (gA tupD (zb (gVar 7) (zb (gVar 8) gNil))) (g2 addD (gK (.int 1)) (g2 modD (gA (zA 2 F_law_drawn) (zb (gVar 0) (zb (g2 addD (gK (.int 40)) (gVar 6)) gNil))) (gVar 2))))
    sNil)))
noncomputable def qt : GS :=
    (sSeq (sAsg (hName 10) (g2 addD (gK (.int 1)) (g2 modD (gA (zA 2 F_law_drawn) (zb (gVar 0) (zb (g2 addD (gK (.int 60)) (gVar 5)) gNil))) (gVar 5))))
    (sAsg (hName 9) (g2 addD (g2 addD (gSl (gVar 9) zy (zl (gVar 10))) (gLs (gLst (zb (gVar 5) gNil)))) (gSl (gVar 9) (zl (gVar 10)) zy))))
noncomputable def qR : GS :=
    (sSeq (sAsg (hName 12) (g2 ixD (gVar 9) (gVar 7)))
    (sSeq (sAsg (hName 13) (g2 ixD (gVar 9) (gVar 8)))
    (sApp 11 (gA tupD (zb (gA minD (zb (gVar 12) (zb (gVar 13) gNil))) (zb (gA maxD (zb (gVar 12) (zb (gVar 13) gNil))) (zb (g2 zgx (qk 4) (gA tupD (zb (gVar 7) (zb (gVar 8) gNil)))) gNil)))))))
noncomputable def yB : GS :=
    (sSeq (sAsg (hName 3) (g2 addD (gK (.int 1)) (g2 modD (gVar 0) (gVar 1))))
    (sSeq (zhu 4)
    (sSeq (sFor (gItA kc (zb (gK (.int 1)) (zb (g2 addD (gVar 3) (gK (.int 1))) gNil))) (hName 5)
    xF)
    (sSeq (sFor (gItA kt (zb (g2 modD (g2 vo (gVar 0) (gK (.int 7))) (gK (.int 4))) gNil)) (hName 6)
    jB)
    (sSeq (sAsg (hName 9) (gLs (gLst (zb (gK (.int 0)) gNil))))
    (sSeq (sFor (gItA kc (zb (gK (.int 1)) (zb (g2 addD (gVar 3) (gK (.int 1))) gNil))) (hName 5)
    qt)
    (sSeq (sOwn 11 (gLst gNil))
    (sSeq (zj0 4 (sFor (gIt zhc (gVar 4)) (hTup 2 (jG (hName 7) (jG (hName 8) hNil)))
    qR))
    (sRet (gA tupD (zb (gVar 3) (zb (gA ym (zb (gLs (gItL zar (zb (qk 11) gNil))) gNil)) gNil))))))))))))
noncomputable def F_law_yard : List D → Option D := jc 14 yB
noncomputable def yC : GS :=
    (sRet (qP (g1 (isI zbT) (gVar 0)) (qP (zcb (g1 (isI kg) (gVar 0))) (kH leD leD (gVar 1) (gVar 0) (gVar 2)))))
noncomputable def F_law_number : List D → Option D := jc 3 yC
noncomputable def jK : GS :=
    (sSeq (sIf (gOrT (jr (gTr (g1 (isI jx) (gVar 0)))) (gBo (g2 neD (gA lenD (zb (gVar 0) gNil)) (gK (.int 3)))))
    (sRet (gK (.bool false)))
    sNil)
    (sSeq (sIf (gOrT (jr (gTr (gA (zA 3 F_law_number) (zb (g2 ixD (gVar 0) (gK (.int 0))) (zb (gK (.int 0)) (zb (gVar 1) gNil)))))) (jr (gTr (gA (zA 3 F_law_number) (zb (g2 ixD (gVar 0) (gK (.int 1))) (zb (gK (.int 0)) (zb (gVar 1) gNil)))))))
    (sRet (gK (.bool false)))
    sNil)
    (sRet (qP (g2 ltD (g2 ixD (gVar 0) (gK (.int 0))) (g2 ixD (gVar 0) (gK (.int 1)))) (gA (zA 3 F_law_number) (zb (g2 ixD (gVar 0) (gK (.int 2))) (zb (gK (.int 1)) (zb (gK (.int 4)) gNil))))))))
noncomputable def F_law_is_link : List D → Option D := jc 2 jK
noncomputable def jy : GS :=
    (sSeq (sIf (zfF (gBo (g2 inD (gVar 4) (qk 2))) (gBo (g2 yF (gVar 5) (qk 2))))
    (sApp 2 (gVar 5))
    sNil)
    (sIf (zfF (gBo (g2 inD (gVar 5) (qk 2))) (gBo (g2 yF (gVar 4) (qk 2))))
    (sApp 2 (gVar 4))
    sNil))
noncomputable def jE : GS :=
    (sFor (gIt seqD (gVar 1)) (hTup 2 (jG (hName 4) (jG (hName 5) hNil)))
    jy)
noncomputable def qC : GS :=
    (sSeq (sIf (gOrT (jr (gTr (g1 (isI jx) (gVar 0)))) (gOrT (gBo (g2 neD (gA lenD (zb (gVar 0) gNil)) (gK (.int 2)))) (jr (gTr (gA (zA 3 F_law_number) (zb (g2 ixD (gVar 0) (gK (.int 0))) (zb (gK (.int 1)) (zb (gK (.int 5)) gNil))))))))
    (sRet (gK (.bool false)))
    sNil)
    (sSeq (sIf (gOrT (jr (gTr (g1 (isI jx) (g2 ixD (gVar 0) (gK (.int 1)))))) (gBo (g2 neD (gLs (qh 1 [0] (gIt seqD (g2 ixD (gVar 0) (gK (.int 1)))) (hName 0) (jr (gTr (gA (zA 2 F_law_is_link) (zb (gVar 0) (zb (g2 ixD (gVar 1) (gK (.int 0))) gNil))))) (gVar 0))) (gLs (gLst gNil)))))
    (sRet (gK (.bool false)))
    sNil)
    (sSeq (sAsg (hName 1) (gLs (qh 1 [] (gIt seqD (g2 ixD (gVar 0) (gK (.int 1)))) (hName 0) zV (gSl (gVar 0) zy (zl (gK (.int 2)))))))
    (sSeq (sIf (gBo (g2 neD (gLs (qh 1 [1] (gItA kc (zb (gK (.int 1)) (zb (gA lenD (zb (gVar 1) gNil)) gNil))) (hName 0) (gBo (g2 geD (g2 ixD (gVar 1) (g2 subD (gVar 0) (gK (.int 1)))) (g2 ixD (gVar 1) (gVar 0)))) (gVar 0))) (gLs (gLst gNil))))
    (sRet (gK (.bool false)))
    sNil)
    (sSeq (sOwn 2 (gLst (zb (gK (.int 0)) gNil)))
    (sSeq (sFor (gItA kt (zb (g2 ixD (gVar 0) (gK (.int 0))) gNil)) (hName 3)
    jE)
    (sRet (g2 eqD (gA lenD (zb (qk 2) gNil)) (g2 addD (g2 ixD (gVar 0) (gK (.int 0))) (gK (.int 1)))))))))))
noncomputable def F_law_is_yard : List D → Option D := jc 6 qC
noncomputable def jq : GS :=
    (sAsg (hName 1) (g2 addD (g2 addD (gVar 1) (gK (.str " "))) (gA strOfD (zb (gVar 3) gNil))))
noncomputable def jF : GS :=
    (sSeq (sAsg (hName 1) (g2 addD (gVar 1) (gK (.str " link"))))
    (sFor (gIt seqD (gVar 2)) (hName 3)
    jq))
noncomputable def xn : GS :=
    (sSeq (sAsg (hName 1) (g2 addD (gK (.str "yard ")) (gA strOfD (zb (g2 ixD (gVar 0) (gK (.int 0))) gNil))))
    (sSeq (sFor (gIt seqD (g2 ixD (gVar 0) (gK (.int 1)))) (hName 2)
    jF)
    (sRet (gVar 1))))
noncomputable def F_law_written : List D → Option D := jc 4 xn
noncomputable def xo : GS :=
    (sSeq (sAsg (hName 2) (gLs (splF " " (gVar 0))))
    (sSeq (sAsg (hName 3) (g2 modD (g2 vo (gVar 1) (gK (.int 8))) (gA lenD (zb (gVar 2) gNil))))
    (sSeq (sAsg (hName 4) (g2 modD (g2 vo (gVar 1) (gK (.int 8))) (g2 addD (gA lenD (zb (gVar 0) gNil)) (gK (.int 1)))))
    (sSeq (sAsg (hName 5) (g2 modD (gVar 1) (gK (.int 8))))
    (sSeq (sIf (gBo (g2 eqD (gVar 5) (gK (.int 0))))
    (sRet (g2 addD (gSlS (gVar 0) zy (zl (gVar 4))) (gSlS (gVar 0) (zl (g2 addD (gVar 4) (gK (.int 1)))) zy)))
    sNil)
    (sSeq (sIf (gBo (g2 ltD (gVar 5) (gK (.int 3))))
    (sSeq (sAsg (hName 6) (g2 ixD (gK (.str " 0123456-_y\n\t")) (g2 modD (g2 vo (gVar 1) (gK (.int 7))) (gK (.int 13)))))
    (sRet (g2 addD (g2 addD (gSlS (gVar 0) zy (zl (gVar 4))) (gVar 6)) (gSlS (gVar 0) (zl (g2 subD (g2 addD (gVar 4) (gVar 5)) (gK (.int 1)))) zy))))
    sNil)
    (sSeq (sIf (gBo (g2 eqD (gVar 5) (gK (.int 3))))
    (sRet (g2 vH (gK (.str " ")) (g2 addD (gSl (gVar 2) zy (zl (gVar 3))) (gSl (gVar 2) (zl (g2 addD (gVar 3) (gK (.int 1)))) zy))))
    sNil)
    (sSeq (sIf (gBo (g2 eqD (gVar 5) (gK (.int 4))))
    (sRet (g2 vH (gK (.str " ")) (g2 addD (g2 addD (gSl (gVar 2) zy (zl (gVar 3))) (gSl (gVar 2) (zl (gVar 3)) (zl (g2 addD (gVar 3) (gK (.int 1)))))) (gSl (gVar 2) (zl (gVar 3)) zy))))
    sNil)
    (sSeq (sIf (gBo (g2 eqD (gVar 5) (gK (.int 5))))
    (sSeq (sAsg (hName 7) (g2 addD (gSl (gVar 2) (zl (g2 addD (gVar 3) (gK (.int 1)))) (zl (g2 addD (gVar 3) (gK (.int 2))))) (gSl (gVar 2) (zl (gVar 3)) (zl (g2 addD (gVar 3) (gK (.int 1)))))))
    (sRet (g2 vH (gK (.str " ")) (g2 addD (g2 addD (gSl (gVar 2) zy (zl (gVar 3))) (gVar 7)) (gSl (gVar 2) (zl (g2 addD (gVar 3) (gK (.int 2)))) zy)))))
    sNil)
    (sSeq (sAsg (hName 8) (gLs (splF " " (gK (.str "yard link 0 1 2 3 4 5 6 00 01 -1 a")))))
    (sRet (g2 vH (gK (.str " ")) (g2 addD (g2 addD (gSl (gVar 2) zy (zl (gVar 3))) (gLs (gLst (zb (g2 ixD (gVar 8) (g2 modD (g2 vo (gVar 1) (gK (.int 7))) (gK (.int 13)))) gNil)))) (gSl (gVar 2) (zl (g2 addD (gVar 3) (gK (.int 1)))) zy))))))))))))))
noncomputable def F_law_changed : List D → Option D := jc 9 xo
noncomputable def xi : Nat → Str → GS := fun a _ =>
    (sSeq (sAsg (hName 3) (gLs (gLst (zb (gExc 2 a false) (zb (gExc 2 a false) (zb (gExc 2 a false) (zb (gExc 2 a false) gNil)))))))
    (sSeq (sAsg (hName 4) (qP (gExc 2 a true) (qP (gExc 2 a true) (zcb (gA anyD (zb (gVar 3) gNil))))))
    (sRet (g2 ixD (gLs (gLst (zb (gA tupD gNil) (zb (gK .none) gNil)))) (gA intOfD (zb (gVar 4) gNil))))))
noncomputable def qN : GS :=
    (sSeq (sTry (sAsg (hName 1) (gA (zA 1 F_read) (zb (gVar 0) gNil)))
    (zgY 1 yE (zb (gVar 0) gNil))
    ["NoText"] 2 xi)
    (sRet (g2 ixD (gLs (gLst (zb (gVar 1) (zb (gA tupD gNil) gNil)))) (gA intOfD (zb (g2 isND (gVar 1) (gK .none)) gNil)))))
noncomputable def F_law_found : List D → Option D := jc 5 qN
noncomputable def zck : GS :=
    (sAsg (hName 4) (gA (zA 2 F_law_changed) (zb (gVar 4) (zb (gA (zA 2 F_law_drawn) (zb (gVar 3) (zb (gVar 5) gNil))) gNil))))
noncomputable def zhK : GS :=
    (sSeq (sAsg (hName 1) (gA (zA 3 F_law_yard) (zb (gA (zA 2 F_law_mixed) (zb (gVar 0) (zb (gK (.int 0)) gNil))) (zb (gK (.int 5)) (zb (gK (.int 4)) gNil)))))
    (sSeq (sAsg (hName 2) (gA (zA 1 F_law_written) (zb (gVar 1) gNil)))
    (sSeq (sAsg (hName 3) (gA (zA 2 F_law_mixed) (zb (gVar 0) (zb (gK (.int 1)) gNil))))
    (sSeq (sAsg (hName 4) (gVar 2))
    (sSeq (sFor (gItA kt (zb (g2 yx (g2 modD (gVar 3) (gK (.int 3))) (g2 addD (gK (.int 1)) (g2 modD (g2 vo (gVar 3) (gK (.int 3))) (gK (.int 2))))) gNil)) (hName 5)
    zck)
    (sSeq (sAsg (hName 6) (gA (zA 1 F_law_found) (zb (gVar 4) gNil)))
    (sSeq (sIf (gBo (g2 eqD (gVar 4) (gVar 2)))
    (sRet (qP (g2 eqD (gVar 6) (gVar 1)) (gA (zA 1 F_law_is_yard) (zb (gVar 6) gNil))))
    sNil)
    (sRet (gOrV (g2 isND (gVar 6) (gK .none)) (qP (gA (zA 1 F_law_is_yard) (zb (gVar 6) gNil)) (g2 eqD (gA (zA 1 F_law_written) (zb (gVar 6) gNil)) (gVar 4))))))))))))
noncomputable def F_law : List D → Option D := jc 7 zhK
end L2.Y
end
namespace L2.Y
open PySem
noncomputable def za1 (ns : List Int) (k : Int) : Int := if k < ns.length then ns.getD k.toNat 0 else 0
theorem zhF (ns : List Int) (k : Int) (h0 : 0 ≤ k) : F_law_cell_at [scrD (ns.map .int), .int k] = some (.int (za1 ns k)) := by
  by_cases q : k < ns.length
  · have hk : k.toNat < ns.length := by omega
    have e : atI (ns.map PyData.int) k = some (.int (ns.getD k.toNat 0)) := yv h0 (by simp [hk])
    simp [F_law_cell_at, xk, jc, jm, sSeq, sIf, sRet, gBo, g2, wz, gVar, gA, zb, gNil, zhh, zkt, e, jT, q, za1]
  · simp [F_law_cell_at, xk, jc, jm, sSeq, sIf, sRet, gK, gBo, g2, wz, gVar, gA, zb, gNil, zhh, jT, q, za1, sNil]
noncomputable def mixI (ns : List Int) (k : Int) : Int := (((za1 ns k + 7919 * k + 1) * 48271 % 2147483647) * ((za1 ns k + 7919 * k + 1) * 48271 % 2147483647) + 7 * ((za1 ns k + 7919 * k + 1) * 48271 % 2147483647) + k) % 2147483629
theorem zf7 (ns : List Int) (k : Int) (h0 : 0 ≤ k) : F_law_mixed [scrD (ns.map .int), .int k] = some (.int (mixI ns k)) := by
  have b1 := Int.emod_nonneg ((za1 ns k + 7919 * k + 1) * 48271) (b := 2147483647) (by decide)
  have b2 := Int.emod_lt_of_pos ((za1 ns k + 7919 * k + 1) * 48271) (b := 2147483647) (by decide)
  unfold mixI
  simp [F_law_mixed, kd, jc, jm, sSeq, sAsg, sRet, gK, hName, gVar, gA, zb, gNil, g2, qa, zhF ns k h0, xD, kG, zI, zP]
  generalize (za1 ns k + 7919 * k + 1) * 48271 % 2147483647 = z at *
  rw [xD (by omega) (by omega)]
  simp [zI, zP]
theorem zh0 (ns : List Int) (k : Int) : 0 ≤ mixI ns k := Int.emod_nonneg _ (by decide)
noncomputable def zN (n k : Int) : Int := (((n + 104729 * k + 17) * 69621 % 2147483647) * ((n + 104729 * k + 17) * 69621 % 2147483647) + 3 * ((n + 104729 * k + 17) * 69621 % 2147483647) + k) % 2147483629
theorem qB (n k : Int) : F_law_drawn [.int n, .int k] = some (.int (zN n k)) := by
  have b1 := Int.emod_nonneg ((n + 104729 * k + 17) * 69621) (b := 2147483647) (by decide)
  have b2 := Int.emod_lt_of_pos ((n + 104729 * k + 17) * 69621) (b := 2147483647) (by decide)
  unfold zN
  simp [F_law_drawn, vF, jc, jm, sSeq, sAsg, sRet, gK, hName, gVar, g2, xD, kG, zI, zP]
  generalize (n + 104729 * k + 17) * 69621 % 2147483647 = z at *
  rw [xD (by omega) (by omega)]
  simp [zI, zP]
theorem zc4 (n k : Int) : 0 ≤ zN n k := Int.emod_nonneg _ (by decide)
noncomputable def pk (k : Int × Int) : D := .tuple [.int k.1, .int k.2]
noncomputable def fk (l : List ((Int × Int) × Int)) : List (D × D) := l.map fun e => (pk e.1, .int e.2)
theorem zdX (a b : Int × Int) : PyData.eqv (pk a) (pk b) = decide (a = b) := by
  obtain ⟨a1, a2⟩ := a
  obtain ⟨b1, b2⟩ := b
  simp only [pk, PyData.eqv, PyData.eqvAll, Prod.mk.injEq]
  by_cases h1 : a1 = b1 <;> by_cases h2 : a2 = b2 <;> simp [h1, h2]
noncomputable def putL (l : List ((Int × Int) × Int)) (k : Int × Int) (m : Int) : List ((Int × Int) × Int) := if (l.any fun e => decide (e.1 = k)) = true then l.map (fun e => if e.1 = k then (e.1, m) else e) else l ++ [(k, m)]
theorem ziN (l : List ((Int × Int) × Int)) (k : Int × Int) (m : Int) : putD (fk l) (pk k) (.int m) = fk (putL l k m) := by
  have ha : ((fk l).any fun p => PyData.eqv p.1 (pk k)) = l.any fun e => decide (e.1 = k) := by
    unfold fk
    rw [List.any_map]
    congr 1
    funext e
    exact zdX e.1 k
  unfold putD putL
  rw [ha]
  by_cases q : (l.any fun e => decide (e.1 = k)) = true
  · rw [if_pos q, if_pos q]
    unfold fk
    rw [List.map_map, List.map_map]
    apply List.map_congr_left
    intro e _
    simp only [Function.comp, zdX]
    by_cases h : e.1 = k <;> simp [h]
  · rw [if_neg q, if_neg q]
    unfold fk
    rw [List.map_append]
    rfl
theorem zgy (l : List ((Int × Int) × Int)) (k : Int × Int) : yi (fk l) (pk k) = (l.find? fun e => decide (e.1 = k)).map fun e => .int e.2 := by
  induction l with
  | nil => rfl
  | cons e l ih =>
    unfold yi fk at ih ⊢
    rw [List.map_cons, List.find?_cons, List.find?_cons]
    simp only [zdX]
    by_cases h : e.1 = k
    · simp [h]
    · simp [h]; simpa using ih
theorem vt (l : List ((Int × Int) × Int)) (k : Int × Int) (m : Int) : (putL l k m).map (·.1) = if k ∈ l.map (·.1) then l.map (·.1) else l.map (·.1) ++ [k] := by
  unfold putL
  by_cases q : (l.any fun e => decide (e.1 = k)) = true
  · have hm : k ∈ l.map (·.1) := by
      obtain ⟨e, he, h⟩ := List.any_eq_true.mp q
      exact List.mem_map.mpr ⟨e, he, of_decide_eq_true h⟩
    rw [if_pos q, if_pos hm, List.map_map]
    apply List.map_congr_left
    intro e _
    simp only [Function.comp]
    split <;> rfl
  · have hm : k ∉ l.map (·.1) := fun h => by
      obtain ⟨e, he, h⟩ := List.mem_map.mp h
      exact q (List.any_eq_true.mpr ⟨e, he, decide_eq_true h⟩)
    rw [if_neg q, if_neg hm, List.map_append]
    rfl
theorem zdC {l : List ((Int × Int) × Int)} {k : Int × Int} {m : Int} (h : (l.map (·.1)).Nodup) : ((putL l k m).map (·.1)).Nodup := by
  rw [vt]
  split
  · exact h
  · rename_i hk
    rw [List.nodup_append]
    exact ⟨h, by simp, fun a ha b hb => by simp at hb; subst hb; exact fun z => hk (z ▸ ha)⟩
theorem zcS (l : List ((Int × Int) × Int)) (k : Int × Int) (m : Int) : (putL l k m).length ≤ l.length + 1 := by
  unfold putL
  split
  · simp
  · simp
theorem zgQ {l : List ((Int × Int) × Int)} {k : Int × Int} {m : Int} {e : (Int × Int) × Int} (h : e ∈ putL l k m) : e = (k, m) ∨ e ∈ l := by
  unfold putL at h
  split at h
  · obtain ⟨e', he, rfl⟩ := List.mem_map.mp h
    by_cases q : e'.1 = k
    · rw [if_pos q]; left; rw [q]
    · rw [if_neg q]; exact .inr he
  · rcases List.mem_append.mp h with h | h
    · exact .inr h
    · left; simpa using h
theorem zgB {l : List ((Int × Int) × Int)} {k : Int × Int} {m : Int} : k ∈ (putL l k m).map (·.1) := by
  rw [vt]
  split
  · assumption
  · simp
theorem zcP {l : List ((Int × Int) × Int)} {k j : Int × Int} {m : Int} (h : j ∈ l.map (·.1)) : j ∈ (putL l k m).map (·.1) := by
  rw [vt]
  split
  · exact h
  · exact List.mem_append_left _ h
end L2.Y
namespace L2.Y
open PySem
abbrev vI (i : Int) : Option En := some (.val (.int i))
abbrev dT (l : List ((Int × Int) × Int)) : Option En := some (.own (.dict ((.none, .none) :: fk l)))
structure FoundOk (count wide : Int) (l : List ((Int × Int) × Int)) : Prop where
  nd : (l.map (·.1)).Nodup
  rng : ∀ e ∈ l, 0 ≤ e.1.1 ∧ e.1.1 < e.1.2 ∧ e.1.2 ≤ count ∧ 1 ≤ e.2 ∧ e.2 ≤ wide
theorem FoundOk.put {count wide : Int} {l : List ((Int × Int) × Int)} {a b m : Int} (h : FoundOk count wide l) (h1 : 0 ≤ a) (h2 : a < b) (h3 : b ≤ count) (h4 : 1 ≤ m) (h5 : m ≤ wide) : FoundOk count wide (putL l (a, b) m) := by
  refine ⟨zdC h.nd, fun e he => ?_⟩
  rcases zgQ he with q | q
  · subst q; exact ⟨h1, h2, h3, h4, h5⟩
  · exact h.rng e q
theorem zcY {i : Nat} {gk ge : Env' → Option D} {ρ : Env'} {l : List ((Int × Int) × Int)} {a b m : Int} (h1 : ge ρ = some (.int m)) (h2 : gk ρ = some (.tuple [.int a, .int b])) (h3 : ρ[i]? = some (dT l)) (h4 : l.length < 16777216) : zbj i gk ge ρ = some (.nxt (ρ.set i (dT (putL l (a, b) m)))) := by
  have e3 : ownD i ρ = some (.dict ((.none, .none) :: fk l)) := by unfold ownD; rw [h3]
  have hl : (fk l).length < sizeLine := by unfold fk; rw [List.length_map]; exact h4
  unfold zbj
  rw [h1, Option.bind_some, h2, Option.bind_some, e3, Option.bind_some]
  show (if (fk l).length < sizeLine then _ else none) = _
  rw [if_pos hl]
  have := ziN l (a, b) m
  unfold pk at this
  rw [this]
theorem zdG (n most wide count : Int) (hw : 1 ≤ wide) (hc : 0 ≤ count) (hc5 : count ≤ 100) : ∃ l x5, forF (hName 5) xF (zF 1 count.toNat) [vI n, vI most, vI wide, vI count, dT [], none, none, none, none, none, none, none, none, none] =
    some (.nxt [vI n, vI most, vI wide, vI count, dT l, x5, none, none, none, none, none, none, none, none]) ∧ FoundOk count wide l ∧ (∀ p : Int, 1 ≤ p → p ≤ count → ∃ a, (a, p) ∈ l.map (·.1)) ∧ (l.length : Int) ≤ count := by
  obtain ⟨ρ', e, l, x5, rfl, h1, h2, h3⟩ := wa (h := hName 5) (gb := xF) (fun i ρ => ∃ l x5, ρ = [vI n, vI most, vI wide, vI count, dT l, x5, none, none, none, none, none, none, none, none] ∧ FoundOk count wide l ∧ (∀ p : Int, 1 ≤ p → p ≤ i → ∃ a, (a, p) ∈ l.map (·.1)) ∧ l.length ≤ i)
    (zF 1 count.toNat) 0 [vI n, vI most, vI wide, vI count, dT [], none, none, none, none, none, none, none, none, none] ⟨[], none, rfl, ⟨List.nodup_nil, fun e h => by simp at h⟩, fun p h1 h2 => by omega, Nat.le_refl _⟩ (fun k d ρ hk ⟨l, x5, hr, f1, f2, f3⟩ => by
      obtain ⟨hlt, rfl⟩ := xU hk
      subst hr
      rw [Nat.zero_add] at f2 f3 ⊢
      have b1 := zc4 n (1 + k)
      have b2 := zc4 n (10 + (1 + k))
      have m1 := Int.emod_nonneg (zN n (1 + k)) (b := 1 + (k : Int)) (by omega)
      have m2 := Int.emod_lt_of_pos (zN n (1 + k)) (b := 1 + (k : Int)) (by omega)
      have m3 := Int.emod_nonneg (zN n (10 + (1 + k))) (b := wide) (by omega)
      have m4 := Int.emod_lt_of_pos (zN n (10 + (1 + k))) (b := wide) (by omega)
      refine ⟨_, _, rfl, zcY (l := l) (a := zN n (1 + k) % (1 + k)) (b := 1 + k) (m := 1 + zN n (10 + (1 + k)) % wide) ?_ ?_ rfl (by omega), putL l (zN n (1 + k) % (1 + k), 1 + k) (1 + zN n (10 + (1 + k)) % wide), _, rfl, f1.put m1 m2 (by omega) (by omega) (by omega), fun p p1 p2 => ?_, ?_⟩
      · have hw' : 0 < wide := by omega
        simp [g2, gK, gA, zb, gNil, gVar, qa, zI, qB, zP hw']
      · have hk' : (0 : Int) < 1 + k := by omega
        simp [g2, gK, gA, zb, gNil, gVar, qa, qB, zP hk', zj3]
      · by_cases q : p = 1 + k
        · subst q; exact ⟨_, zgB⟩
        · obtain ⟨a, ha⟩ := f2 p p1 (by push_cast at p2; omega)
          exact ⟨a, zcP ha⟩
      · have := zcS l (zN n (1 + k) % (1 + k), 1 + (k : Int)) (1 + zN n (10 + (1 + k)) % wide)
        omega)
  rw [qF, Nat.zero_add] at h2 h3
  exact ⟨l, x5, e, h1, fun p p1 p2 => h2 p p1 (by omega), by omega⟩
theorem zdD (n most wide count : Int) (hw : 1 ≤ wide) (hc : 0 ≤ count) (hc5 : count ≤ 100) (t : Nat) (ht : t ≤ 100) (l0 : List ((Int × Int) × Int)) (x5 : Option En) (h0 : FoundOk count wide l0) (hl0 : (l0.length : Int) ≤ count) : ∃ l x6 x7 x8, forF (hName 6) jB (zF 0 t) [vI n, vI most, vI wide, vI count, dT l0, x5, none, none, none, none, none, none, none, none] =
    some (.nxt [vI n, vI most, vI wide, vI count, dT l, x5, x6, x7, x8, none, none, none, none, none]) ∧ FoundOk count wide l ∧ (∀ k ∈ l0.map (·.1), k ∈ l.map (·.1)) ∧ (l.length : Int) ≤ count + t := by
  obtain ⟨ρ', e, l, x6, x7, x8, rfl, h1, h2, h3⟩ := wa (h := hName 6) (gb := jB) (fun i ρ => ∃ l x6 x7 x8, ρ = [vI n, vI most, vI wide, vI count, dT l, x5, x6, x7, x8, none, none, none, none, none] ∧ FoundOk count wide l ∧ (∀ k ∈ l0.map (·.1), k ∈ l.map (·.1)) ∧ (l.length : Int) ≤ count + i)
    (zF 0 t) 0 [vI n, vI most, vI wide, vI count, dT l0, x5, none, none, none, none, none, none, none, none] ⟨l0, none, none, none, rfl, h0, fun _ h => h, by omega⟩ (fun k d ρ hk ⟨l, x6, x7, x8, hr, f1, f2, f3⟩ => by
      obtain ⟨hlt, rfl⟩ := xU hk
      subst hr
      have m1 := Int.emod_nonneg (zN n (20 + (0 + k))) (b := count + 1) (by omega)
      have m2 := Int.emod_lt_of_pos (zN n (20 + (0 + k))) (b := count + 1) (by omega)
      have m3 := Int.emod_nonneg (zN n (30 + (0 + k))) (b := count + 1) (by omega)
      have m4 := Int.emod_lt_of_pos (zN n (30 + (0 + k))) (b := count + 1) (by omega)
      have m5 := Int.emod_nonneg (zN n (40 + (0 + k))) (b := wide) (by omega)
      have m6 := Int.emod_lt_of_pos (zN n (40 + (0 + k))) (b := wide) (by omega)
      have hc' : 0 < count + 1 := by omega
      have hw' : 0 < wide := by omega
      by_cases q : zN n (20 + (0 + k)) % (count + 1) < zN n (30 + (0 + k)) % (count + 1)
      · refine ⟨_, _, rfl, ?_, putL l (zN n (20 + (0 + k)) % (count + 1), zN n (30 + (0 + k)) % (count + 1)) (1 + zN n (40 + (0 + k)) % wide), vI (0 + k), vI (zN n (20 + (0 + k)) % (count + 1)), vI (zN n (30 + (0 + k)) % (count + 1)), rfl, f1.put m1 q (by omega) (by omega) (by omega), fun j hj => zcP (f2 j hj), ?_⟩
        · have ed := zcY (i := 4) (gk := gA tupD (zb (gVar 7) (zb (gVar 8) gNil))) (ge := g2 addD (gK (.int 1)) (g2 modD (gA (zA 2 F_law_drawn) (zb (gVar 0) (zb (g2 addD (gK (.int 40)) (gVar 6)) gNil))) (gVar 2)))
            (ρ := [vI n, vI most, vI wide, vI count, dT l, x5, vI (0 + k), vI (zN n (20 + (0 + k)) % (count + 1)), vI (zN n (30 + (0 + k)) % (count + 1)), none, none, none, none, none]) (l := l) (a := zN n (20 + (0 + k)) % (count + 1)) (b := zN n (30 + (0 + k)) % (count + 1)) (m := 1 + zN n (40 + (0 + k)) % wide)
            (by simp [g2, gK, gA, zb, gNil, gVar, qa, zI, qB, zP hw']) (by simp [g2, gK, gA, zb, gNil, gVar, zj3]) rfl (by omega)
          have e1 : sAsg (hName 7) (g2 modD (gA (zA 2 F_law_drawn) (zb (gVar 0) (zb (g2 addD (gK (.int 20)) (gVar 6)) gNil))) (g2 addD (gVar 3) (gK (.int 1)))) [vI n, vI most, vI wide, vI count, dT l, x5, vI (0 + k), x7, x8, none, none, none, none, none] = some (.nxt [vI n, vI most, vI wide, vI count, dT l, x5, vI (0 + k), vI (zN n (20 + (0 + k)) % (count + 1)), x8, none, none, none, none, none]) := by
            simp [sAsg, hName, g2, gK, gA, zb, gNil, gVar, qa, zI, qB, zP hc']
          have e2 : sAsg (hName 8) (g2 modD (gA (zA 2 F_law_drawn) (zb (gVar 0) (zb (g2 addD (gK (.int 30)) (gVar 6)) gNil))) (g2 addD (gVar 3) (gK (.int 1)))) [vI n, vI most, vI wide, vI count, dT l, x5, vI (0 + k), vI (zN n (20 + (0 + k)) % (count + 1)), x8, none, none, none, none, none] = some (.nxt [vI n, vI most, vI wide, vI count, dT l, x5, vI (0 + k), vI (zN n (20 + (0 + k)) % (count + 1)), vI (zN n (30 + (0 + k)) % (count + 1)), none, none, none, none, none]) := by
            simp [sAsg, hName, g2, gK, gA, zb, gNil, gVar, qa, zI, qB, zP hc']
          show jB [vI n, vI most, vI wide, vI count, dT l, x5, vI (0 + k), x7, x8, none, none, none, none, none] = _
          unfold jB
          rw [sSeq, e1, Option.bind_some]
          show sSeq _ _ _ = _
          rw [sSeq, e2, Option.bind_some]
          show sIf _ _ _ _ = _
          have e3 : gBo (g2 ltD (gVar 7) (gVar 8)) [vI n, vI most, vI wide, vI count, dT l, x5, vI (0 + k), vI (zN n (20 + (0 + k)) % (count + 1)), vI (zN n (30 + (0 + k)) % (count + 1)), none, none, none, none, none] = some true := by
            show ((some (PyData.bool (decide (zN n (20 + (0 + k)) % (count + 1) < zN n (30 + (0 + k)) % (count + 1))))) : Option D).bind jT = some true
            rw [decide_eq_true q]
            rfl
          rw [sIf, e3, Option.bind_some, if_pos rfl]
          exact ed
        · have := zcS l (zN n (20 + (0 + k)) % (count + 1), zN n (30 + (0 + k)) % (count + 1)) (1 + zN n (40 + (0 + k)) % wide)
          omega
      · refine ⟨_, _, rfl, ?_, l, vI (0 + k), vI (zN n (20 + (0 + k)) % (count + 1)), vI (zN n (30 + (0 + k)) % (count + 1)), rfl, f1, f2, by omega⟩
        show jB [vI n, vI most, vI wide, vI count, dT l, x5, vI (0 + k), x7, x8, none, none, none, none, none] = _
        have e1 : sAsg (hName 7) (g2 modD (gA (zA 2 F_law_drawn) (zb (gVar 0) (zb (g2 addD (gK (.int 20)) (gVar 6)) gNil))) (g2 addD (gVar 3) (gK (.int 1)))) [vI n, vI most, vI wide, vI count, dT l, x5, vI (0 + k), x7, x8, none, none, none, none, none] = some (.nxt [vI n, vI most, vI wide, vI count, dT l, x5, vI (0 + k), vI (zN n (20 + (0 + k)) % (count + 1)), x8, none, none, none, none, none]) := by
          simp [sAsg, hName, g2, gK, gA, zb, gNil, gVar, qa, zI, qB, zP hc']
        have e2 : sAsg (hName 8) (g2 modD (gA (zA 2 F_law_drawn) (zb (gVar 0) (zb (g2 addD (gK (.int 30)) (gVar 6)) gNil))) (g2 addD (gVar 3) (gK (.int 1)))) [vI n, vI most, vI wide, vI count, dT l, x5, vI (0 + k), vI (zN n (20 + (0 + k)) % (count + 1)), x8, none, none, none, none, none] = some (.nxt [vI n, vI most, vI wide, vI count, dT l, x5, vI (0 + k), vI (zN n (20 + (0 + k)) % (count + 1)), vI (zN n (30 + (0 + k)) % (count + 1)), none, none, none, none, none]) := by
          simp [sAsg, hName, g2, gK, gA, zb, gNil, gVar, qa, zI, qB, zP hc']
        unfold jB
        rw [sSeq, e1, Option.bind_some]
        show sSeq _ _ _ = _
        rw [sSeq, e2, Option.bind_some]
        show sIf _ _ _ _ = _
        have e3 : gBo (g2 ltD (gVar 7) (gVar 8)) [vI n, vI most, vI wide, vI count, dT l, x5, vI (0 + k), vI (zN n (20 + (0 + k)) % (count + 1)), vI (zN n (30 + (0 + k)) % (count + 1)), none, none, none, none, none] = some false := by
          show ((some (PyData.bool (decide (zN n (20 + (0 + k)) % (count + 1) < zN n (30 + (0 + k)) % (count + 1))))) : Option D).bind jT = some false
          rw [decide_eq_false q]
          rfl
        rw [sIf, e3, Option.bind_some]
        rfl)
  rw [qF, Nat.zero_add] at h3
  exact ⟨l, x6, x7, x8, e, h1, h2, h3⟩
end L2.Y
namespace L2.Y
open PySem
structure NamesOk (i : Nat) (ms : List Int) : Prop where
  len : ms.length = i + 1
  nd : ms.Nodup
  rng : ∀ x ∈ ms, 0 ≤ x ∧ x ≤ i
  zero : ms[0]? = some 0
theorem NamesOk.ins {i : Nat} {ms : List Int} (h : NamesOk i ms) {a : Nat} (h1 : 1 ≤ a) (h2 : a ≤ i + 1) : NamesOk (i + 1) (ms.take a ++ [((i : Int) + 1)] ++ ms.drop a) := by
  have hp : (ms.take a ++ [((i : Int) + 1)] ++ ms.drop a).Perm (((i : Int) + 1) :: ms) := by
    rw [List.append_assoc]
    have := List.perm_middle (a := (i : Int) + 1) (l₁ := ms.take a) (l₂ := ms.drop a)
    rw [List.take_append_drop] at this
    exact this
  refine ⟨?_, ?_, fun x hx => ?_, ?_⟩
  · rw [hp.length_eq, List.length_cons, h.len]
  · rw [hp.nodup_iff, List.nodup_cons]
    exact ⟨fun z => by have := h.rng _ z; omega, h.nd⟩
  · rcases List.mem_cons.mp (hp.mem_iff.mp hx) with q | q
    · subst q; push_cast; omega
    · have := h.rng x q; push_cast; omega
  · have hlen := h.len
    have hz := h.zero
    rw [List.append_assoc, List.getElem?_append_left (by rw [List.length_take]; omega), List.getElem?_take, if_pos (by omega)]
    exact hz
theorem vd (n d a : Nat) (h : a ≤ n) : HT.sIx n d (some (a : Int)) = a := by
  show (if (a : Int) < 0 then ((a : Int) + (n : Int)).toNat else min (a : Int).toNat n) = a
  rw [if_neg (by omega), Int.toNat_natCast, Nat.min_eq_left h]
theorem zer (ds : List D) (a : Nat) (h : a ≤ ds.length) : cutD ds none (some (a : Int)) = ds.take a := by
  unfold cutD
  rw [vd _ _ _ h, show HT.sIx ds.length 0 none = 0 from rfl, List.drop_zero, Nat.sub_zero]
theorem vq (ds : List D) (a : Nat) (h : a ≤ ds.length) : cutD ds (some (a : Int)) none = ds.drop a := by
  unfold cutD
  rw [vd _ _ _ h, show HT.sIx ds.length ds.length none = ds.length from rfl, ← List.length_drop, List.take_length]
theorem zdJ (n most wide count : Int) (hc : 0 ≤ count) (hc5 : count ≤ 100) (x4 x5 x6 x7 x8 : Option En) : ∃ ms x5' x10, forF (hName 5) qt (zF 1 count.toNat) [vI n, vI most, vI wide, vI count, x4, x5, x6, x7, x8, some (.val (.list [.int 0])), none, none, none, none] =
    some (.nxt [vI n, vI most, vI wide, vI count, x4, x5', x6, x7, x8, some (.val (.list (ms.map PyData.int))), x10, none, none, none]) ∧ NamesOk count.toNat ms := by
  obtain ⟨ρ', e, ms, x5', x10, rfl, h1⟩ := wa (h := hName 5) (gb := qt) (fun i ρ => ∃ ms x5' x10, ρ = [vI n, vI most, vI wide, vI count, x4, x5', x6, x7, x8, some (.val (.list (ms.map PyData.int))), x10, none, none, none] ∧ NamesOk i ms)
    (zF 1 count.toNat) 0 [vI n, vI most, vI wide, vI count, x4, x5, x6, x7, x8, some (.val (.list [.int 0])), none, none, none, none] ⟨[0], x5, none, rfl, rfl, by simp, fun x hx => by simp at hx; subst hx; simp, rfl⟩ (fun k d ρ hk ⟨ms, y5, y10, hr, f1⟩ => by
      obtain ⟨hlt, rfl⟩ := xU hk
      subst hr
      rw [Nat.zero_add] at f1 ⊢
      have m1 := Int.emod_nonneg (zN n (60 + (1 + k))) (b := 1 + (k : Int)) (by omega)
      have m2 := Int.emod_lt_of_pos (zN n (60 + (1 + k))) (b := 1 + (k : Int)) (by omega)
      have hk' : (0 : Int) < 1 + k := by omega
      obtain ⟨a, ha⟩ : ∃ a : Nat, (a : Int) = 1 + zN n (60 + (1 + k)) % (1 + k) := ⟨(1 + zN n (60 + (1 + k)) % (1 + k)).toNat, by omega⟩
      have hal : a ≤ (ms.map PyData.int).length := by rw [List.length_map, f1.len]; omega
      have e1 : sAsg (hName 10) (g2 addD (gK (.int 1)) (g2 modD (gA (zA 2 F_law_drawn) (zb (gVar 0) (zb (g2 addD (gK (.int 60)) (gVar 5)) gNil))) (gVar 5))) [vI n, vI most, vI wide, vI count, x4, vI (1 + k), x6, x7, x8, some (.val (.list (ms.map PyData.int))), y10, none, none, none] = some (.nxt [vI n, vI most, vI wide, vI count, x4, vI (1 + k), x6, x7, x8, some (.val (.list (ms.map PyData.int))), vI a, none, none, none]) := by
        simp [sAsg, hName, g2, gK, gA, zb, gNil, gVar, qa, zI, qB, zP hk', ha]
      refine ⟨_, _, rfl, ?_, ms.take a ++ [((k : Int) + 1)] ++ ms.drop a, vI (1 + k), vI a, rfl, f1.ins (by omega) (by omega)⟩
      show qt [vI n, vI most, vI wide, vI count, x4, vI (1 + k), x6, x7, x8, some (.val (.list (ms.map PyData.int))), y10, none, none, none] = _
      unfold qt
      rw [sSeq, e1, Option.bind_some]
      have s1 : slD (.list (ms.map PyData.int)) none (some (a : Int)) = some (.list ((ms.map PyData.int).take a)) := by rw [slD, zer _ _ hal]
      have s2 : slD (.list (ms.map PyData.int)) (some (a : Int)) none = some (.list ((ms.map PyData.int).drop a)) := by rw [slD, vq _ _ hal]
      have l1 : ((ms.map PyData.int).take a).length + 1 ≤ sizeLine := by rw [List.length_take, List.length_map, f1.len]; show _ ≤ 16777216; omega
      have l2 : (((ms.map PyData.int).take a) ++ [PyData.int (1 + k)]).length + ((ms.map PyData.int).drop a).length ≤ sizeLine := by rw [List.length_append, List.length_take, List.length_drop, List.length_map, f1.len]; show _ ≤ 16777216; simp; omega
      show sAsg (hName 9) _ [vI n, vI most, vI wide, vI count, x4, vI (1 + k), x6, x7, x8, some (.val (.list (ms.map PyData.int))), vI a, none, none, none] = _
      have a1 : addD (.list ((ms.map PyData.int).take a)) (.list [.int (1 + k)]) = some (.list (((ms.map PyData.int).take a) ++ [.int (1 + k)])) := if_pos l1
      have a2 : addD (.list (((ms.map PyData.int).take a) ++ [.int (1 + k)])) (.list ((ms.map PyData.int).drop a)) = some (.list (((ms.map PyData.int).take a) ++ [.int (1 + k)] ++ (ms.map PyData.int).drop a)) := if_pos l2
      have e2 : (g2 addD (g2 addD (gSl (gVar 9) zy (zl (gVar 10))) (gLs (gLst (zb (gVar 5) gNil)))) (gSl (gVar 9) (zl (gVar 10)) zy)) [vI n, vI most, vI wide, vI count, x4, vI (1 + k), x6, x7, x8, some (.val (.list (ms.map PyData.int))), vI a, none, none, none] = some (.list (((ms.map PyData.int).take a) ++ [.int (1 + k)] ++ (ms.map PyData.int).drop a)) := by
        have g9 : gVar 9 [vI n, vI most, vI wide, vI count, x4, vI (1 + k), x6, x7, x8, some (.val (.list (ms.map PyData.int))), vI a, none, none, none] = some (.list (ms.map PyData.int)) := rfl
        have g10 : zl (gVar 10) [vI n, vI most, vI wide, vI count, x4, vI (1 + k), x6, x7, x8, some (.val (.list (ms.map PyData.int))), vI a, none, none, none] = some (some (a : Int)) := rfl
        have g5 : gLs (gLst (zb (gVar 5) gNil)) [vI n, vI most, vI wide, vI count, x4, vI (1 + k), x6, x7, x8, some (.val (.list (ms.map PyData.int))), vI a, none, none, none] = some (.list [.int (1 + k)]) := rfl
        simp only [g2, gSl, g9, g10, zy, Option.bind_some, s1, s2, g5, a1, a2]
      rw [sAsg, e2]
      simp [hName, List.map_append, List.map_take, List.map_drop, Int.add_comm])
  rw [qF, Nat.zero_add] at h1
  exact ⟨ms, x5', x10, e, h1⟩
end L2.Y
namespace L2.Y
open PySem
noncomputable def zu (l : Int × Int × Int) : D := .tuple [.int l.1, .int l.2.1, .int l.2.2]
noncomputable def zM (c : Int) (ls : List (Int × Int × Int)) : D := .tuple [.int c, .tuple (ls.map zu)]
noncomputable def nmI (ms : List Int) (i : Int) : Int := ms.getD i.toNat 0
noncomputable def jd (ms : List Int) (e : (Int × Int) × Int) : Int × Int × Int := (min (nmI ms e.1.1) (nmI ms e.1.2), max (nmI ms e.1.1) (nmI ms e.1.2), e.2)
theorem kR : ∀ {l : List ((Int × Int) × Int)} {e : (Int × Int) × Int}, (l.map (·.1)).Nodup → e ∈ l → l.find? (fun x => decide (x.1 = e.1)) = some e
  | [], _, _, h => by simp at h
  | a :: l, e, hn, h => by
    rw [List.map_cons, List.nodup_cons] at hn
    rw [List.find?_cons]
    rcases List.mem_cons.mp h with q | q
    · subst q; simp
    · have ne : ¬ a.1 = e.1 := fun z => hn.1 (by rw [z]; exact List.mem_map.mpr ⟨e, q, rfl⟩)
      simp only [ne, decide_false]
      exact kR hn.2 q
theorem zgg (i j : Int) : minD [.int i, .int j] = some (.int (min i j)) := by
  show some (PyData.int (if j < i then j else i)) = _
  congr 2
  by_cases h : j < i
  · rw [if_pos h]; omega
  · rw [if_neg h]; omega
theorem zgi (i j : Int) : maxD [.int i, .int j] = some (.int (max i j)) := by
  show some (PyData.int (if j > i then j else i)) = _
  congr 2
  by_cases h : j > i
  · rw [if_pos h]; omega
  · rw [if_neg h]; omega
theorem zb3 {ms : List Int} {i : Int} (h0 : 0 ≤ i) (h1 : i < ms.length) : ixD (.list (ms.map PyData.int)) (.int i) = some (.int (nmI ms i)) := by
  show atI (ms.map PyData.int) i = _
  refine yv h0 ?_
  have : i.toNat < ms.length := by omega
  simp [nmI, this]
theorem zfP {i : Nat} {ge : Env' → Option D} {ρ : Env'} {ds : List D} {d : D} (h1 : ge ρ = some d) (h2 : ρ[i]? = some (some (.own (.list ds)))) (h3 : ds.length < 16777216) : sApp i ge ρ = some (.nxt (ρ.set i (some (.own (.list (ds ++ [d])))))) := by
  have e : ownL i ρ = some ds := by unfold ownL; rw [h2]
  unfold sApp
  rw [h1, Option.bind_some, e, Option.bind_some]
  exact if_pos h3
theorem zdM (n most wide count : Int) (hc : 0 ≤ count) (l : List ((Int × Int) × Int)) (hl : l.length ≤ 1000) (h : FoundOk count wide l) (ms : List Int) (hm : NamesOk count.toNat ms) (x5 x6 x7 x8 x10 : Option En) :
    ∃ y7 y8 y12 y13, forF (hTup 2 (jG (hName 7) (jG (hName 8) hNil))) qR ((fk l).map (·.1)) [vI n, vI most, vI wide, vI count, some (.val (.dict ((.none, .int 0) :: fk l))), x5, x6, x7, x8, some (.val (.list (ms.map PyData.int))), x10, some (.own (.list [])), none, none] =
    some (.nxt [vI n, vI most, vI wide, vI count, some (.val (.dict ((.none, .int 0) :: fk l))), x5, x6, y7, y8, some (.val (.list (ms.map PyData.int))), x10, some (.own (.list ((l.map (jd ms)).map zu))), y12, y13]) := by
  obtain ⟨ρ', e, y7, y8, y12, y13, rfl⟩ := wa (h := hTup 2 (jG (hName 7) (jG (hName 8) hNil))) (gb := qR) (fun i ρ => ∃ y7 y8 y12 y13, ρ = [vI n, vI most, vI wide, vI count, some (.val (.dict ((.none, .int 0) :: fk l))), x5, x6, y7, y8, some (.val (.list (ms.map PyData.int))), x10, some (.own (.list (((l.take i).map (jd ms)).map zu))), y12, y13])
    ((fk l).map (·.1)) 0 [vI n, vI most, vI wide, vI count, some (.val (.dict ((.none, .int 0) :: fk l))), x5, x6, x7, x8, some (.val (.list (ms.map PyData.int))), x10, some (.own (.list [])), none, none] ⟨x7, x8, none, none, rfl⟩ (fun k d ρ hk ⟨y7, y8, y12, y13, hr⟩ => by
      subst hr
      rw [Nat.zero_add]
      unfold fk at hk
      rw [List.map_map, List.getElem?_map] at hk
      obtain ⟨en, he, rfl⟩ := Option.map_eq_some_iff.mp hk
      have hen : en ∈ l := List.mem_of_getElem? he
      obtain ⟨r1, r2, r3, r4, r5⟩ := h.rng en hen
      have hlen := hm.len
      have hkl : k < l.length := (List.getElem?_eq_some_iff.mp he).1
      have i1 := zb3 (ms := ms) (i := en.1.1) r1 (by omega)
      have i2 := zb3 (ms := ms) (i := en.1.2) (by omega) (by omega)
      have lk : zgx (.dict ((.none, .int 0) :: fk l)) (.tuple [.int en.1.1, .int en.1.2]) = some (.int en.2) := by
        show yi (fk l) (pk en.1) = _
        rw [zgy, kR h.nd hen]
        rfl
      refine ⟨[vI n, vI most, vI wide, vI count, some (.val (.dict ((.none, .int 0) :: fk l))), x5, x6, vI en.1.1, vI en.1.2, some (.val (.list (ms.map PyData.int))), x10, some (.own (.list (((l.take k).map (jd ms)).map zu))), y12, y13], _, rfl, ?_, vI en.1.1, vI en.1.2, vI (nmI ms en.1.1), vI (nmI ms en.1.2), rfl⟩
      have e1 : sAsg (hName 12) (g2 ixD (gVar 9) (gVar 7)) [vI n, vI most, vI wide, vI count, some (.val (.dict ((.none, .int 0) :: fk l))), x5, x6, vI en.1.1, vI en.1.2, some (.val (.list (ms.map PyData.int))), x10, some (.own (.list (((l.take k).map (jd ms)).map zu))), y12, y13] =
          some (.nxt [vI n, vI most, vI wide, vI count, some (.val (.dict ((.none, .int 0) :: fk l))), x5, x6, vI en.1.1, vI en.1.2, some (.val (.list (ms.map PyData.int))), x10, some (.own (.list (((l.take k).map (jd ms)).map zu))), vI (nmI ms en.1.1), y13]) := by
        show (ixD (.list (ms.map PyData.int)) (.int en.1.1)).bind _ = _
        rw [i1]; rfl
      have e2 : sAsg (hName 13) (g2 ixD (gVar 9) (gVar 8)) [vI n, vI most, vI wide, vI count, some (.val (.dict ((.none, .int 0) :: fk l))), x5, x6, vI en.1.1, vI en.1.2, some (.val (.list (ms.map PyData.int))), x10, some (.own (.list (((l.take k).map (jd ms)).map zu))), vI (nmI ms en.1.1), y13] =
          some (.nxt [vI n, vI most, vI wide, vI count, some (.val (.dict ((.none, .int 0) :: fk l))), x5, x6, vI en.1.1, vI en.1.2, some (.val (.list (ms.map PyData.int))), x10, some (.own (.list (((l.take k).map (jd ms)).map zu))), vI (nmI ms en.1.1), vI (nmI ms en.1.2)]) := by
        show (ixD (.list (ms.map PyData.int)) (.int en.1.2)).bind _ = _
        rw [i2]; rfl
      unfold qR
      rw [sSeq, e1, Option.bind_some]
      show sSeq _ _ _ = _
      rw [sSeq, e2, Option.bind_some]
      have e3 : ((l.take (k + 1)).map (jd ms)).map zu = ((l.take k).map (jd ms)).map zu ++ [zu (jd ms en)] := by
        rw [List.take_succ, he]; simp
      rw [e3]
      refine zfP ?_ rfl (by simp; omega)
      have v1 : gA minD (zb (gVar 12) (zb (gVar 13) gNil)) [vI n, vI most, vI wide, vI count, some (.val (.dict ((.none, .int 0) :: fk l))), x5, x6, vI en.1.1, vI en.1.2, some (.val (.list (ms.map PyData.int))), x10, some (.own (.list (((l.take k).map (jd ms)).map zu))), vI (nmI ms en.1.1), vI (nmI ms en.1.2)] = some (.int (min (nmI ms en.1.1) (nmI ms en.1.2))) := zgg _ _
      have v2 : gA maxD (zb (gVar 12) (zb (gVar 13) gNil)) [vI n, vI most, vI wide, vI count, some (.val (.dict ((.none, .int 0) :: fk l))), x5, x6, vI en.1.1, vI en.1.2, some (.val (.list (ms.map PyData.int))), x10, some (.own (.list (((l.take k).map (jd ms)).map zu))), vI (nmI ms en.1.1), vI (nmI ms en.1.2)] = some (.int (max (nmI ms en.1.1) (nmI ms en.1.2))) := zgi _ _
      have v3 : g2 zgx (qk 4) (gA tupD (zb (gVar 7) (zb (gVar 8) gNil))) [vI n, vI most, vI wide, vI count, some (.val (.dict ((.none, .int 0) :: fk l))), x5, x6, vI en.1.1, vI en.1.2, some (.val (.list (ms.map PyData.int))), x10, some (.own (.list (((l.take k).map (jd ms)).map zu))), vI (nmI ms en.1.1), vI (nmI ms en.1.2)] = some (.int en.2) := lk
      simp only [gA, zb, v3, Option.bind_some, gNil] at v1 v2 ⊢
      rw [v1, v2]
      rfl)
  refine ⟨y7, y8, y12, y13, ?_⟩
  rw [e]
  have : l.take (0 + ((fk l).map (·.1)).length) = l := by rw [List.take_of_length_le]; unfold fk; simp
  rw [this]
end L2.Y
namespace L2.Y
open PySem
noncomputable def tri (l : Int × Int × Int) : List Int := [l.1, l.2.1, l.2.2]
noncomputable def zec : List Int → Int × Int × Int
  | [a, b, c] => (a, b, c)
  | _ => (0, 0, 0)
theorem zdT (l : Int × Int × Int) : zec (tri l) = l := rfl
theorem zcH : ∀ ls : List (Int × Int × Int), (ls.map zu).mapM wG = some (ls.map tri)
  | [] => rfl
  | l :: ls => by
    rw [List.map_cons, List.mapM_cons, zcH ls]
    rfl
noncomputable def yT (ls : List (Int × Int × Int)) : List (Int × Int × Int) := (yz (ls.map tri)).map zec
theorem zbe (ls : List (Int × Int × Int)) : (yT ls).map tri = yz (ls.map tri) := by
  unfold yT
  rw [List.map_map]
  have : ∀ k ∈ yz (ls.map tri), (tri ∘ zec) k = k := fun k hk => by
    obtain ⟨l, _, rfl⟩ := List.mem_map.mp ((wb _).mem_iff.mp hk)
    rfl
  rw [List.map_congr_left this, List.map_id']
theorem zdu (ls : List (Int × Int × Int)) : (yT ls).Perm ls := by
  unfold yT
  have := (wb (ls.map tri)).map zec
  rw [List.map_map] at this
  have e : (zec ∘ tri) = id := funext zdT
  rw [e, List.map_id] at this
  exact this
theorem zgo (ls : List (Int × Int × Int)) (h : ls.length < 64) : zfX (ls.map zu) = some ((yT ls).map zu) := by
  unfold zfX
  rw [zcH, Option.bind_some, if_pos (by simpa using h), ← zbe, List.map_map]
  rfl
theorem zgP (ls : List (Int × Int × Int)) : (yT ls).Pairwise fun a b => HT.lexLt (tri b) (tri a) = false := by
  have := xQ (ls.map tri)
  rw [← zbe, List.pairwise_map] at this
  exact this
noncomputable def Ris (a b : Int × Int × Int) : Prop := a.1 < b.1 ∨ a.1 = b.1 ∧ a.2.1 < b.2.1
theorem zjm {a b : Int × Int × Int} (h : HT.lexLt (tri b) (tri a) = false) (hn : ¬ (a.1 = b.1 ∧ a.2.1 = b.2.1)) : Ris a b := by
  unfold tri at h
  rw [zbL] at h
  by_cases e : b.1 = a.1
  · rw [if_pos e, zbL] at h
    by_cases e2 : b.2.1 = a.2.1
    · exact absurd ⟨e.symm, e2.symm⟩ hn
    · rw [if_neg e2] at h
      have := of_decide_eq_false h
      exact .inr ⟨e.symm, by omega⟩
  · rw [if_neg e] at h
    have := of_decide_eq_false h
    exact .inl (by omega)
theorem Ris.trans {a b c : Int × Int × Int} (h1 : Ris a b) (h2 : Ris b c) : Ris a c := by
  unfold Ris at *
  omega
structure GoodYard (most wide count : Int) (ls : List (Int × Int × Int)) : Prop where
  c1 : 1 ≤ count
  c2 : count ≤ most
  rng : ∀ l ∈ ls, 0 ≤ l.1 ∧ l.1 < l.2.1 ∧ l.2.1 ≤ count ∧ 1 ≤ l.2.2 ∧ l.2.2 ≤ wide
  ris : ls.Pairwise Ris
  few : (ls.length : Int) ≤ count + 3
  conn : ∀ S : Int → Prop, S 0 → (∀ l ∈ ls, S l.1 ↔ S l.2.1) → ∀ p, 0 ≤ p → p ≤ count → S p
theorem zho {c : Nat} {ms : List Int} (h : NamesOk c ms) {i j : Int} (hi : 0 ≤ i) (hi2 : i ≤ c) (hj : 0 ≤ j) (hj2 : j ≤ c) (e : nmI ms i = nmI ms j) : i = j := by
  have hl := h.len
  have a1 : i.toNat < ms.length := by omega
  have a2 : j.toNat < ms.length := by omega
  unfold nmI at e
  have e' : ms[i.toNat] = ms[j.toNat] := by simpa [a1, a2] using e
  have := (List.getElem_inj (h₀ := a1) (h₁ := a2) h.nd).mp e'
  omega
theorem zht {c : Nat} {ms : List Int} (h : NamesOk c ms) {i : Int} (hi : 0 ≤ i) (hi2 : i ≤ c) : 0 ≤ nmI ms i ∧ nmI ms i ≤ c := by
  have hl := h.len
  have a1 : i.toNat < ms.length := by omega
  unfold nmI
  have := h.rng ms[i.toNat] (by simp)
  simpa [a1] using this
theorem zfO {c : Nat} {ms : List Int} (h : NamesOk c ms) : nmI ms 0 = 0 := by
  have := h.zero
  unfold nmI
  rw [List.getD_eq_getElem?_getD]
  show (ms[0]?).getD 0 = 0
  rw [this]; rfl
theorem wQ : ∀ (m : Nat) (ms : List Int), ms.Nodup → (∀ x ∈ ms, 0 ≤ x ∧ x < m) → ms.length ≤ m
  | 0, ms, _, h => by
    cases ms with
    | nil => exact Nat.le_refl _
    | cons a r => have := h a List.mem_cons_self; omega
  | m + 1, ms, hn, h => by
    by_cases q : (m : Int) ∈ ms
    · have l1 := List.length_erase_of_mem q
      have := wQ m (ms.erase m) (hn.erase _) fun x hx => by
        have h1 := h x (List.mem_of_mem_erase hx)
        have h2 : x ≠ m := fun z => by
          subst z
          exact (List.Nodup.not_mem_erase hn) hx
        push_cast at h1
        omega
      omega
    · have := wQ m ms hn fun x hx => by
        have h1 := h x hx
        have h2 : x ≠ m := fun z => q (z ▸ hx)
        push_cast at h1
        omega
      omega
theorem ziJ {c : Nat} {ms : List Int} (h : NamesOk c ms) {p : Int} (h1 : 0 ≤ p) (h2 : p ≤ c) : ∃ i : Int, 0 ≤ i ∧ i ≤ c ∧ nmI ms i = p := by
  have hm : p ∈ ms := Classical.byContradiction fun q => by
    have := wQ (c + 1) (p :: ms) (List.nodup_cons.mpr ⟨q, h.nd⟩) fun x hx => by
      rcases List.mem_cons.mp hx with z | z
      · subst z; push_cast; omega
      · have := h.rng x z; push_cast; omega
    rw [List.length_cons, h.len] at this
    omega
  obtain ⟨i, hi, e⟩ := List.getElem_of_mem hm
  have hl := h.len
  refine ⟨i, by omega, by omega, ?_⟩
  unfold nmI
  simp [hi, e]
theorem zh7 {most wide count : Int} {l : List ((Int × Int) × Int)} {ms : List Int} (c1 : 1 ≤ count) (c2 : count ≤ most) (h : FoundOk count wide l) (hm : NamesOk count.toNat ms) (hl : (l.length : Int) ≤ count + 3) (ht : ∀ p : Int, 1 ≤ p → p ≤ count → ∃ a, (a, p) ∈ l.map (·.1)) : GoodYard most wide count (yT (l.map (jd ms))) := by
  have pm := zdu (l.map (jd ms))
  have hcc : ((count.toNat : Nat) : Int) = count := by omega
  have inl : ∀ {x}, x ∈ yT (l.map (jd ms)) → ∃ e ∈ l, x = jd ms e := fun hx => by
    obtain ⟨e, he, rfl⟩ := List.mem_map.mp (pm.mem_iff.mp hx)
    exact ⟨e, he, rfl⟩
  have ne : ∀ e ∈ l, nmI ms e.1.1 ≠ nmI ms e.1.2 := fun e he z => by
    obtain ⟨r1, r2, r3, _⟩ := h.rng e he
    have := zho hm r1 (by omega) (by omega) (by omega) z
    omega
  refine ⟨c1, c2, fun x hx => ?_, ?_, by rw [pm.length_eq, List.length_map]; exact hl, fun S s0 hS p p1 p2 => ?_⟩
  · obtain ⟨e, he, rfl⟩ := inl hx
    obtain ⟨r1, r2, r3, r4, r5⟩ := h.rng e he
    have n1 := zht hm r1 (by omega)
    have n2 := zht hm (i := e.1.2) (by omega) (by omega)
    have := ne e he
    unfold jd
    refine ⟨?_, ?_, ?_, r4, r5⟩ <;> simp only <;> omega
  · have ndp : ((l.map (jd ms)).map fun x => (x.1, x.2.1)).Nodup := by
      rw [List.map_map]
      have hnd := h.nd
      rw [List.Nodup, List.pairwise_map] at hnd ⊢
      refine hnd.imp_of_mem fun {a b} ha hb hab z => hab ?_
      obtain ⟨r1, r2, r3, _⟩ := h.rng a ha
      obtain ⟨t1, t2, t3, _⟩ := h.rng b hb
      have z1 : min (nmI ms a.1.1) (nmI ms a.1.2) = min (nmI ms b.1.1) (nmI ms b.1.2) := congrArg Prod.fst z
      have z2 : max (nmI ms a.1.1) (nmI ms a.1.2) = max (nmI ms b.1.1) (nmI ms b.1.2) := congrArg Prod.snd z
      have go : ∀ {i j}, nmI ms i = nmI ms j → 0 ≤ i → i ≤ count → 0 ≤ j → j ≤ count → i = j := fun e a1 a2 b1 b2 => zho hm a1 (by omega) b1 (by omega) e
      by_cases q1 : nmI ms a.1.1 = nmI ms b.1.1
      · have q2 : nmI ms a.1.2 = nmI ms b.1.2 := by omega
        exact Prod.ext (go q1 r1 (by omega) t1 (by omega)) (go q2 (by omega) (by omega) (by omega) (by omega))
      · have q2 : nmI ms a.1.1 = nmI ms b.1.2 := by omega
        have q3 : nmI ms a.1.2 = nmI ms b.1.1 := by omega
        have w1 := go q2 r1 (by omega) (by omega) (by omega)
        have w2 := go q3 (by omega) (by omega) t1 (by omega)
        omega
    have ndp' : ((yT (l.map (jd ms))).map fun x => (x.1, x.2.1)).Nodup := (pm.map _).nodup_iff.mpr ndp
    rw [List.Nodup, List.pairwise_map] at ndp'
    exact ((zgP (l.map (jd ms))).and ndp').imp fun {a b} ⟨h1, h2⟩ => zjm h1 fun z => h2 (Prod.ext z.1 z.2)
  · have key : ∀ k : Nat, ∀ q : Int, 0 ≤ q → q ≤ count → q ≤ k → S (nmI ms q) := by
      intro k
      induction k with
      | zero =>
        intro q q0 q1 q2
        have : q = 0 := by omega
        subst this
        rw [zfO hm]; exact s0
      | succ k ih =>
        intro q q0 q1 q2
        by_cases hq : q = 0
        · subst hq; rw [zfO hm]; exact s0
        · obtain ⟨a, ha⟩ := ht q (by omega) q1
          obtain ⟨e, he, ee⟩ := List.mem_map.mp ha
          obtain ⟨r1, r2, r3, _⟩ := h.rng e he
          have e1 : e.1.1 = a := congrArg Prod.fst ee
          have e2 : e.1.2 = q := congrArg Prod.snd ee
          have hx : jd ms e ∈ yT (l.map (jd ms)) := pm.mem_iff.mpr (List.mem_map.mpr ⟨e, he, rfl⟩)
          have iff := hS _ hx
          have prev := ih a (by omega) (by omega) (by push_cast at q2; omega)
          unfold jd at iff
          simp only at iff
          rw [e1, e2] at iff
          by_cases lt : nmI ms a ≤ nmI ms q
          · rw [Int.min_eq_left lt, Int.max_eq_right lt] at iff
            exact iff.mp prev
          · rw [Int.min_eq_right (by omega), Int.max_eq_left (by omega)] at iff
            exact iff.mpr prev
    obtain ⟨i, i1, i2, i3⟩ := ziJ hm p1 (by omega)
    rw [← i3]
    exact key i.toNat i i1 (by omega) (by omega)
end L2.Y
namespace L2.Y
open PySem
theorem zg {g h : GS} {ρ ρ' : Env'} (e : g ρ = some (.nxt ρ')) : sSeq g h ρ = h ρ' := by
  unfold sSeq
  rw [e]
  rfl
theorem qA {g h : GS} {ρ : Env'} {d : D} (e : g ρ = some (.ret d)) : sSeq g h ρ = some (.ret d) := by
  unfold sSeq
  rw [e]
  rfl
theorem jo {n : Nat} {g : GS} {ds : List D} {d : D} (e : g (jm n ds) = some (.ret d)) : jc n g ds = some d := by
  unfold jc
  rw [e]
  rfl
theorem qL {g : Env' → Option (List D)} {h : GT} {gb : GS} {ρ : Env'} {ds : List D} {o : Option Out} (e : g ρ = some ds) (e2 : forF h gb ds ρ = o) : sFor g h gb ρ = o := by
  unfold sFor
  rw [e, Option.bind_some]
  exact e2
theorem zb8 {i j : Int} (h1 : -(2 ^ 62) ≤ i) (h2 : i < 2 ^ 62) (h3 : -(2 ^ 62) ≤ j) (h4 : j < 2 ^ 62) : kc [.int i, .int j] = some (zF i (j - i).toNat) := if_pos ⟨h1, h2, h3, h4⟩
theorem za0 {j : Int} (h3 : -(2 ^ 62) ≤ j) (h4 : j < 2 ^ 62) : kt [.int j] = some (zF 0 j.toNat) := if_pos ⟨h3, h4⟩
theorem zh5 (n most wide : Int) (hm1 : 1 ≤ most) (hm2 : most ≤ 50) (hw : 1 ≤ wide) : ∃ count ls, F_law_yard [.int n, .int most, .int wide] = some (zM count ls) ∧ GoodYard most wide count ls := by
  have hm0 : 0 < most := by omega
  have c0 := Int.emod_nonneg n (b := most) (by omega)
  have c9 := Int.emod_lt_of_pos n (b := most) hm0
  obtain ⟨count, hc⟩ : ∃ count, count = 1 + n % most := ⟨_, rfl⟩
  have t0 := Int.emod_nonneg (n / 7) (b := 4) (by omega)
  have t9 := Int.emod_lt_of_pos (n / 7) (b := 4) (by omega)
  obtain ⟨l1, x5, e1, f1, f2, f3⟩ := zdG n most wide count hw (by omega) (by omega)
  obtain ⟨l, x6, x7, x8, e2, g1, g2', g3⟩ := zdD n most wide count hw (by omega) (by omega) (n / 7 % 4).toNat (by omega) l1 x5 f1 f3
  obtain ⟨ms, y5, x10, e3, hms⟩ := zdJ n most wide count (by omega) (by omega) (dT l) x5 x6 x7 x8
  obtain ⟨y7, y8, y12, y13, e4⟩ := zdM n most wide count (by omega) l (by omega) g1 ms hms y5 x6 x7 x8 x10
  have hle : (l.length : Int) ≤ count + 3 := by omega
  refine ⟨count, yT (l.map (jd ms)), ?_, zh7 (by omega) (by omega) g1 hms hle fun p p1 p2 => let ⟨a, ha⟩ := f2 p p1 p2; ⟨a, g2' _ ha⟩⟩
  unfold F_law_yard
  refine jo ?_
  show yB [vI n, vI most, vI wide, none, none, none, none, none, none, none, none, none, none, none] = _
  unfold yB
  rw [zg (ρ' := [vI n, vI most, vI wide, vI count, none, none, none, none, none, none, none, none, none, none]) (by
    show ((modD (.int n) (.int most)).bind fun y => addD (.int 1) y).bind _ = _
    rw [zP hm0, Option.bind_some, zI, Option.bind_some, hc]
    rfl)]
  rw [zg (ρ' := [vI n, vI most, vI wide, vI count, dT [], none, none, none, none, none, none, none, none, none]) rfl]
  rw [zg (qL (ds := zF 1 count.toNat) (by
    show kc [.int 1, .int (count + 1)] = _
    rw [zb8 (by decide) (by decide) (by omega) (by omega)]
    congr 2
    omega) e1)]
  rw [zg (qL (ds := zF 0 (n / 7 % 4).toNat) (by
    show ((((vo (.int n) (.int 7)).bind fun x => modD x (.int 4)).bind fun x => (some [x] : Option (List D))).bind kt) = _
    rw [xh (by decide) (by decide), Option.bind_some, zP (by decide), Option.bind_some, Option.bind_some, za0 (by omega) (by omega)]) e2)]
  rw [zg (ρ' := [vI n, vI most, vI wide, vI count, dT l, x5, x6, x7, x8, some (.val (.list [.int 0])), none, none, none, none]) rfl]
  rw [zg (qL (ds := zF 1 count.toNat) (by
    show kc [.int 1, .int (count + 1)] = _
    rw [zb8 (by decide) (by decide) (by omega) (by omega)]
    congr 2
    omega) e3)]
  rw [zg (ρ' := [vI n, vI most, vI wide, vI count, dT l, y5, x6, x7, x8, some (.val (.list (ms.map PyData.int))), x10, some (.own (.list [])), none, none]) rfl]
  rw [zg (ρ' := [vI n, vI most, vI wide, vI count, some (.val (.dict ((.none, .int 0) :: fk l))), y5, x6, y7, y8, some (.val (.list (ms.map PyData.int))), x10, some (.own (.list ((l.map (jd ms)).map zu))), y12, y13]) (by
    show sFor _ _ _ [vI n, vI most, vI wide, vI count, some (.val (.dict ((.none, .int 0) :: fk l))), y5, x6, x7, x8, some (.val (.list (ms.map PyData.int))), x10, some (.own (.list [])), none, none] = _
    exact qL (ds := (fk l).map (·.1)) rfl e4)]
  have es : zar [.list ((l.map (jd ms)).map zu)] = some ((yT (l.map (jd ms))).map zu) := zgo _ (by simp; omega)
  generalize hr : ([vI n, vI most, vI wide, vI count, some (.val (.dict ((.none, .int 0) :: fk l))), y5, x6, y7, y8, some (.val (.list (ms.map PyData.int))), x10, some (.own (.list ((l.map (jd ms)).map zu))), y12, y13] : Env') = ρ
  have v3 : gVar 3 ρ = some (.int count) := by rw [← hr]; rfl
  have v11 : qk 11 ρ = some (.list ((l.map (jd ms)).map zu)) := by rw [← hr]; rfl
  simp only [sRet, gA, zb, gNil, gLs, gItL, v3, v11, Option.bind_some, es, Option.map_some]
  rfl
end L2.Y
namespace L2.Y
open PySem
mutual
noncomputable def okD : D → Bool
  | .none | .bool _ | .int _ => true
  | .str x => PyData.strOk x
  | .list ds | .tuple ds => decide (ds.length ≤ 1000) && vW ds
  | .dict _ => false
noncomputable def vW : List D → Bool
  | [] => true
  | d :: ds => okD d && vW ds
end
theorem jf : ∀ {ds : List D} {d : D}, vW ds = true → d ∈ ds → okD d = true
  | [], _, _, h => by simp at h
  | a :: ds, d, h, hd => by
    rw [vW, Bool.and_eq_true] at h
    rcases List.mem_cons.mp hd with q | q
    · subst q; exact h.1
    · exact jf h.2 q
mutual
theorem zao : ∀ {d : D}, okD d = true → d.canLay0 = true
  | .none, _ => rfl
  | .bool _, _ => rfl
  | .int _, _ => rfl
  | .str x, h => by rw [okD] at h; exact h
  | .list ds, h => by rw [okD, Bool.and_eq_true] at h; rw [PyData.canLay0]; exact vD h.2
  | .tuple ds, h => by rw [okD, Bool.and_eq_true] at h; rw [PyData.canLay0]; exact vD h.2
  | .dict _, h => by rw [okD] at h; cases h
theorem vD : ∀ {ds : List D}, vW ds = true → PyData.canLayAll0 ds = true
  | [], _ => rfl
  | d :: ds, h => by rw [vW, Bool.and_eq_true] at h; rw [PyData.canLayAll0, zao h.1, vD h.2]; rfl
end
theorem wL {d : D} (h : okD d = true) : ∀ z, d ≠ .dict z := fun z e => by subst e; rw [okD] at h; cases h
theorem yt {ds : List D} (h : okD (.tuple ds) = true) : ds.length ≤ 1000 ∧ vW ds = true := by
  rw [okD, Bool.and_eq_true, decide_eq_true_eq] at h; exact h
noncomputable def inI (lo hi : Int) : D → Bool
  | .int i => decide (lo ≤ i) && decide (i ≤ hi)
  | _ => false
theorem jW {d : D} (lo hi : Int) (h : okD d = true) : F_is_whole_within [d, .int lo, .int hi] = some (.bool (inI lo hi d)) := by
  cases d with
  | int i =>
    simp [F_is_whole_within, qZ, jc, jm, sRet, qP, gA, zb, gNil, gVar, xK, F_is_whole, kS, g1, isI, zbT, zcb, kg, gBo, jT, kH, zej, inI]
    by_cases q : lo ≤ i <;> simp [q]
  | dict z => exact absurd rfl (wL h z)
  | _ => rfl
theorem jV {d : D} (lo hi : Int) (h : okD d = true) : F_law_number [d, .int lo, .int hi] = some (.bool (inI lo hi d)) := by
  cases d with
  | int i =>
    simp [F_law_number, yC, jc, jm, sRet, qP, gVar, g1, isI, zbT, zcb, kg, gBo, jT, kH, zej, inI]
    by_cases q : lo ≤ i <;> simp [q]
  | dict z => exact absurd rfl (wL h z)
  | _ => rfl
noncomputable def zdi (n : Nat) : D → Bool
  | .tuple xs => decide (xs.length = n)
  | _ => false
theorem vn {d : D} (n : Nat) (h : okD d = true) : F_is_tuple_of_length [d, .int n] = some (.bool (zdi n d)) := by
  cases d with
  | tuple xs =>
    simp [F_is_tuple_of_length, qy, jc, jm, sRet, qP, gA, zb, gNil, gVar, g1, isI, jx, gBo, jT, g2, lenD, zaD, zdi]
    by_cases q : xs.length = n
    · simp [q]
    · have : ¬ ((xs.length : Int) = n) := by omega
      simp [q, this]
  | dict z => exact absurd rfl (wL h z)
  | _ => rfl
noncomputable def ltI : D → D → Bool
  | .int i, .int j => decide (i < j)
  | _, _ => false
noncomputable def isLk (c : Int) : D → Bool
  | .tuple [a, b, m] => inI 0 c a && inI 0 c b && ltI a b && inI 1 4 m
  | _ => false
theorem qV {lo hi : Int} {d : D} (h : inI lo hi d = true) : ∃ i, d = .int i ∧ lo ≤ i ∧ i ≤ hi := by
  cases d with
  | int i => rw [inI, Bool.and_eq_true, decide_eq_true_eq, decide_eq_true_eq] at h; exact ⟨i, rfl, h⟩
  | _ => cases h
theorem tup3 {xs : List D} (h : xs.length = 3) : ∃ a b c, xs = [a, b, c] := by
  match xs, h with
  | [a, b, c], _ => exact ⟨a, b, c, rfl⟩
theorem tup2 {xs : List D} (h : xs.length = 2) : ∃ a b, xs = [a, b] := by
  match xs, h with
  | [a, b], _ => exact ⟨a, b, rfl⟩
theorem zeN {c : Int} {xs : List D} (h : ¬ xs.length = 3) : isLk c (.tuple xs) = false := by
  match xs, h with
  | [], _ => rfl
  | [_], _ => rfl
  | [_, _], _ => rfl
  | [_, _, _], h => exact absurd rfl h
  | _ :: _ :: _ :: _ :: _, _ => rfl
theorem zfL {d : D} (c : Int) (h : okD d = true) : F_is_tie [d, .int c] = some (.bool (isLk c d)) := by
  have ht := vn 3 h
  cases d with
  | tuple xs =>
    by_cases q : xs.length = 3
    · obtain ⟨a, b, m, rfl⟩ := tup3 q
      obtain ⟨_, ho⟩ := yt h
      have o1 := jf ho (d := a) (by simp)
      have o2 := jf ho (d := b) (by simp)
      have o3 := jf ho (d := m) (by simp)
      have ht' : F_is_tuple_of_length [.tuple [a, b, m], .int 3] = some (.bool true) := ht
      by_cases w1 : inI 0 c a = true
      · by_cases w2 : inI 0 c b = true
        · obtain ⟨i, rfl, i1, i2⟩ := qV w1
          obtain ⟨j, rfl, j1, j2⟩ := qV w2
          by_cases lt : i < j
          · simp [F_is_tie, wd, jc, jm, sSeq, sIf, jr, gTr, gA, zb, gNil, gVar, gK, qa, wZ, ht', jO, sNil, sAsg, hTup, jG, hName, hNil, gOrT, jW _ _ o1, jW _ _ o2, jW _ _ o3, w1, w2, sRet, qP, gBo, g2, wz, jT, isLk, ltI, lt]
          · simp [F_is_tie, wd, jc, jm, sSeq, sIf, jr, gTr, gA, zb, gNil, gVar, gK, qa, wZ, ht', jO, sNil, sAsg, hTup, jG, hName, hNil, gOrT, jW _ _ o1, jW _ _ o2, jW _ _ o3, w1, w2, sRet, qP, gBo, g2, wz, jT, isLk, ltI, lt]
        · simp [F_is_tie, wd, jc, jm, sSeq, sIf, jr, gTr, gA, zb, gNil, gVar, gK, qa, wZ, ht', jO, sNil, sAsg, hTup, jG, hName, hNil, gOrT, jW _ _ o1, jW _ _ o2, w1, w2, sRet, isLk]
      · simp [F_is_tie, wd, jc, jm, sSeq, sIf, jr, gTr, gA, zb, gNil, gVar, gK, qa, wZ, ht', jO, sNil, sAsg, hTup, jG, hName, hNil, gOrT, jW _ _ o1, w1, sRet, isLk]
    · have ht' : F_is_tuple_of_length [.tuple xs, .int 3] = some (.bool false) := by rw [show (3 : Int) = ((3 : Nat) : Int) from rfl, ht, zdi, decide_eq_false q]
      rw [zeN q]
      simp [F_is_tie, wd, jc, jm, sSeq, sIf, jr, gTr, gA, zb, gNil, gVar, gK, qa, ht', jO, sRet]
  | dict z => exact absurd rfl (wL h z)
  | _ => rfl
theorem zdA {d : D} (c : Int) (h : okD d = true) : F_law_is_link [d, .int c] = some (.bool (isLk c d)) := by
  cases d with
  | tuple xs =>
    by_cases q : xs.length = 3
    · obtain ⟨a, b, m, rfl⟩ := tup3 q
      obtain ⟨_, ho⟩ := yt h
      have o1 := jf ho (d := a) (by simp)
      have o2 := jf ho (d := b) (by simp)
      have o3 := jf ho (d := m) (by simp)
      have x0 : ixD (.tuple [a, b, m]) (.int 0) = some a := rfl
      have x1 : ixD (.tuple [a, b, m]) (.int 1) = some b := rfl
      have x2 : ixD (.tuple [a, b, m]) (.int 2) = some m := rfl
      by_cases w1 : inI 0 c a = true
      · by_cases w2 : inI 0 c b = true
        · obtain ⟨i, rfl, i1, i2⟩ := qV w1
          obtain ⟨j, rfl, j1, j2⟩ := qV w2
          by_cases lt : i < j
          · simp [F_law_is_link, jK, jc, jm, sSeq, sIf, jr, gTr, g1, isI, jx, lenD, xL, gA, zb, gNil, gVar, gK, wZ, jO, sNil, gOrT, jV _ _ o1, jV _ _ o2, jV _ _ o3, w1, w2, sRet, qP, gBo, g2, wz, jT, isLk, ltI, lt, x0, x1, x2]
          · simp [F_law_is_link, jK, jc, jm, sSeq, sIf, jr, gTr, g1, isI, jx, lenD, xL, gA, zb, gNil, gVar, gK, wZ, jO, sNil, gOrT, jV _ _ o1, jV _ _ o2, jV _ _ o3, w1, w2, sRet, qP, gBo, g2, wz, jT, isLk, ltI, lt, x0, x1, x2]
        · simp [F_law_is_link, jK, jc, jm, sSeq, sIf, jr, gTr, g1, isI, jx, lenD, xL, gBo, jT, gA, zb, gNil, gVar, gK, wZ, jO, sNil, gOrT, g2, jV _ _ o1, jV _ _ o2, w1, w2, sRet, isLk, x0, x1]
      · simp [F_law_is_link, jK, jc, jm, sSeq, sIf, jr, gTr, g1, isI, jx, lenD, xL, gBo, jT, gA, zb, gNil, gVar, gK, wZ, jO, sNil, gOrT, g2, jV _ _ o1, w1, sRet, isLk, x0]
    · have q' : ¬ ((xs.length : Int) = 3) := by omega
      rw [zeN q]
      simp [F_law_is_link, jK, jc, jm, sSeq, sIf, jr, gTr, g1, isI, jx, lenD, xL, gBo, jT, gA, zb, gNil, gVar, gK, jO, gOrT, g2, q', sRet]
  | dict z => exact absurd rfl (wL h z)
  | _ => rfl
end L2.Y
namespace L2.Y
open PySem
noncomputable def LkOk (c : Int) (l : Int × Int × Int) : Prop := 0 ≤ l.1 ∧ l.1 < l.2.1 ∧ l.2.1 ≤ c ∧ 1 ≤ l.2.2 ∧ l.2.2 ≤ 4
theorem zfD {c : Int} {d : D} (h : isLk c d = true) : ∃ l, d = zu l ∧ LkOk c l := by
  unfold isLk at h
  split at h
  · rename_i a b m
    simp only [Bool.and_eq_true] at h
    obtain ⟨⟨⟨h1, h2⟩, h3⟩, h4⟩ := h
    obtain ⟨i, rfl, i1, i2⟩ := qV h1
    obtain ⟨j, rfl, j1, j2⟩ := qV h2
    obtain ⟨k, rfl, k1, k2⟩ := qV h4
    exact ⟨(i, j, k), rfl, i1, of_decide_eq_true h3, j2, k1, k2⟩
  · cases h
theorem wM {c : Int} : ∀ {ts : List D}, ts.all (isLk c) = true → ∃ ls : List (Int × Int × Int), ts = ls.map zu ∧ ∀ l ∈ ls, LkOk c l
  | [], _ => ⟨[], rfl, fun _ h => by simp at h⟩
  | t :: ts, h => by
    rw [List.all_cons, Bool.and_eq_true] at h
    obtain ⟨l, rfl, hl⟩ := zfD h.1
    obtain ⟨ls, rfl, hs⟩ := wM h.2
    exact ⟨l :: ls, rfl, fun x hx => by
      rcases List.mem_cons.mp hx with q | q
      · subst q; exact hl
      · exact hs x q⟩
noncomputable def yS (l : Int × Int × Int) : List Int := [l.1, l.2.1]
noncomputable def pairD (l : Int × Int × Int) : D := .tuple [.int l.1, .int l.2.1]
noncomputable def adjB : List (Int × Int × Int) → Bool
  | a :: b :: r => HT.lexLt (yS a) (yS b) && adjB (b :: r)
  | _ => true
theorem zf8 (a b : Int × Int × Int) : geD (pairD a) (pairD b) = some (.bool (!HT.lexLt (yS a) (yS b))) := rfl
theorem zdz (ds : List D) : seqD (.tuple ds) = some ds := rfl
theorem zaa {α : Type} (f : α → Bool) : ∀ l : List α, yI (l.map fun x => .bool (f x)) = some (l.map f)
  | [] => rfl
  | x :: l => by
    unfold yI
    rw [List.map_cons, List.mapM_cons, show List.mapM jT (l.map fun x => .bool (f x)) = some (l.map f) from zaa f l]
    rfl
theorem zdn {α : Type} (f : α → Bool) (l : List α) : allD [.list (l.map fun x => .bool (f x))] = some (.bool (l.all f)) := by
  show (yI _).map _ = _
  rw [zaa]
  simp [List.all_map]
theorem zba : ∀ ls : List (Int × Int × Int), zip2 (ls.map pairD) ((ls.map pairD).drop 1) = (ls.zip (ls.drop 1)).map fun p => .tuple [pairD p.1, pairD p.2]
  | [] => rfl
  | [a] => rfl
  | a :: b :: r => by
    have ih := zba (b :: r)
    simp only [List.map_cons, List.drop_succ_cons, List.drop_zero, zip2, List.zip_cons_cons] at ih ⊢
    rw [ih]
theorem zeF : ∀ ls : List (Int × Int × Int), ((ls.zip (ls.drop 1)).all fun p => HT.lexLt (yS p.1) (yS p.2)) = adjB ls
  | [] => rfl
  | [a] => rfl
  | a :: b :: r => by
    have ih := zeF (b :: r)
    simp only [List.drop_succ_cons, List.drop_zero, List.zip_cons_cons, List.all_cons, adjB] at ih ⊢
    rw [ih]
theorem zfS (ls : List (Int × Int × Int)) (h : ls.length ≤ 1000) : F_are_rising [.tuple (ls.map zu)] = some (.bool (adjB ls)) := by
  have e1 : qr (hName 0) zV (gSl (gVar 0) zy (zl (gK (.int 2)))) (capS 1 [] [some (.val (.tuple (ls.map zu))), none]) (ls.map zu) = some (ls.map pairD) := by
    have := yb (h := hName 0) (ge := gSl (gVar 0) zy (zl (gK (.int 2)))) (ρ := capS 1 [] [some (.val (.tuple (ls.map zu))), none]) (fun d => match d with | .tuple [a, b, _] => .tuple [a, b] | d => d) (ls.map zu) (fun d hd => by
      obtain ⟨l, _, rfl⟩ := List.mem_map.mp hd
      exact ⟨_, rfl, rfl⟩)
    rw [show (zV : Env' → Option Bool) = fun _ => some true from rfl, this, List.map_map]
    rfl
  have hl : (ls.map zu).length ≤ sizeLine := by rw [List.length_map]; show _ ≤ 16777216; omega
  unfold F_are_rising
  refine jo ?_
  show xN [some (.val (.tuple (ls.map zu))), none] = _
  unfold xN
  rw [zg (ρ' := [some (.val (.tuple (ls.map zu))), some (.val (.list (ls.map pairD)))]) (by
    show ((if (ls.map zu).length ≤ sizeLine then qr (hName 0) zV (gSl (gVar 0) zy (zl (gK (.int 2)))) (capS 1 [] [some (.val (.tuple (ls.map zu))), none]) (ls.map zu) else none).map _) = _
    rw [if_pos hl, e1]
    rfl)]
  generalize hr : ([some (.val (.tuple (ls.map zu))), some (.val (.list (ls.map pairD)))] : Env') = ρ
  have v1 : gVar 1 ρ = some (.list (ls.map pairD)) := by rw [← hr]; rfl
  have s1 : slD (.list (ls.map pairD)) (some 1) none = some (.list ((ls.map pairD).drop 1)) := by
    cases ls with
    | nil => rfl
    | cons a r =>
      show some (PyData.list (cutD _ (some ((1 : Nat) : Int)) none)) = _
      rw [vq _ _ (by simp)]
  have e2 : qr (hTup 2 (jG (hName 0) (jG (hName 1) hNil))) zV (g2 ltD (gVar 0) (gVar 1)) (capS 2 [] ρ) ((ls.zip (ls.drop 1)).map fun p => .tuple [pairD p.1, pairD p.2]) = some ((ls.zip (ls.drop 1)).map fun p => .bool (HT.lexLt (yS p.1) (yS p.2))) := by
    have := yb (h := hTup 2 (jG (hName 0) (jG (hName 1) hNil))) (ge := g2 ltD (gVar 0) (gVar 1)) (ρ := capS 2 [] ρ) (fun d => match d with | .tuple [.tuple [.int a, .int b], .tuple [.int c, .int e]] => .bool (HT.lexLt [a, b] [c, e]) | d => d) ((ls.zip (ls.drop 1)).map fun p => .tuple [pairD p.1, pairD p.2]) (fun d hd => by
      obtain ⟨p, _, rfl⟩ := List.mem_map.mp hd
      exact ⟨_, rfl, rfl⟩)
    rw [show (zV : Env' → Option Bool) = fun _ => some true from rfl, this, List.map_map]
    rfl
  have hz : ((ls.zip (ls.drop 1)).map fun p => (PyData.tuple [pairD p.1, pairD p.2])).length ≤ sizeLine := by rw [List.length_map, List.length_zip]; show _ ≤ 16777216; omega
  simp only [sRet, gA, zb, gNil, gLs, qh, gItA, gSl, zl, zy, gK, v1, s1, Option.bind_some, zipD, zba, hz, if_true, e2, Option.map_some, zdn, zeF]
end L2.Y
namespace L2.Y
open PySem
theorem zfu {ds : List D} (h : SeqAt.shaped (.list ds) = true) : neD (.list ds) (.list []) = some (.bool (!ds.isEmpty)) := by
  have h2 : SeqAt.shaped (.list []) = true := rfl
  unfold neD
  rw [h, h2]
  cases ds <;> rfl
theorem zcj : ∀ ls : List (Int × Int × Int), adjB ls = true ↔ ∀ (k : Nat) a b, ls[k]? = some a → ls[k + 1]? = some b → HT.lexLt (yS a) (yS b) = true
  | [] => by simp [adjB]
  | [a] => by simp [adjB]
  | a :: b :: r => by
    rw [adjB, Bool.and_eq_true, zcj (b :: r)]
    constructor
    · intro ⟨h1, h2⟩ k x y hx hy
      cases k with
      | zero => simp at hx hy; subst hx hy; exact h1
      | succ k => exact h2 k x y (by simpa using hx) (by simpa using hy)
    · intro h
      exact ⟨h 0 a b rfl rfl, fun k x y hx hy => h (k + 1) x y (by simpa using hx) (by simpa using hy)⟩
noncomputable def badK (ls : List (Int × Int × Int)) : D → Bool
  | .int k => match ls[(k - 1).toNat]?, ls[k.toNat]? with
    | some a, some b => !HT.lexLt (yS a) (yS b)
    | _, _ => false
  | _ => false
theorem ziz (ls : List (Int × Int × Int)) : ((zF 1 (ls.length - 1)).filter (badK ls)).isEmpty = adjB ls := by
  rw [Bool.eq_iff_iff, zcj, List.isEmpty_iff, List.filter_eq_nil_iff]
  constructor
  · intro h k a b ha hb
    have hk : k + 1 < ls.length := (List.getElem?_eq_some_iff.mp hb).1
    have := h (.int (1 + k)) (by unfold zF; exact List.mem_map.mpr ⟨k, List.mem_range.mpr (by omega), rfl⟩)
    rw [badK, show ((1 : Int) + k - 1).toNat = k by omega, show ((1 : Int) + k).toNat = k + 1 by omega, ha, hb] at this
    simpa using this
  · intro h d hd
    obtain ⟨k, hk, rfl⟩ := xV hd
    have l1 : k < ls.length := by omega
    have l2 : k + 1 < ls.length := by omega
    rw [badK, show ((1 : Int) + k - 1).toNat = k by omega, show ((1 : Int) + k).toNat = k + 1 by omega, List.getElem?_eq_getElem l1, List.getElem?_eq_getElem l2]
    have := h k ls[k] ls[k + 1] (by simp [l1]) (by simp [l2])
    simp [this]
theorem zdc {ds : List D} {k : Int} {d : D} (h0 : 0 ≤ k) (h : ds[k.toNat]? = some d) : ixD (.list ds) (.int k) = some d := yv h0 h
noncomputable def jH (ks : List Int) (l : Int × Int × Int) : List Int := if l.1 ∈ ks then (if l.2.1 ∈ ks then ks else ks ++ [l.2.1]) else if l.2.1 ∈ ks then ks ++ [l.1] else ks
noncomputable def jw (ls : List (Int × Int × Int)) : Nat → List Int → List Int
  | 0, ks => ks
  | n + 1, ks => jw ls n (ls.foldl jH ks)
theorem vU (ks : List Int) (l : Int × Int × Int) : (jH ks l).length ≤ ks.length + 1 := by
  unfold jH
  split
  · split <;> simp
  · split <;> simp
theorem vw : ∀ (ls : List (Int × Int × Int)) (ks : List Int), (ls.foldl jH ks).length ≤ ks.length + ls.length
  | [], ks => by simp
  | l :: ls, ks => by
    have := vw ls (jH ks l)
    have := vU ks l
    rw [List.foldl_cons, List.length_cons]
    omega
noncomputable def kT (ks : List Int) : List (D × D) := ks.map fun i => ((.int i : D), (.bool true : D))
theorem zg7 (ks : List Int) (i : Int) : (yi (kT ks) (.int i)).isSome = decide (i ∈ ks) := by
  induction ks with
  | nil => rfl
  | cons a ks ih =>
    unfold yi kT at ih ⊢
    rw [List.map_cons, List.find?_cons]
    by_cases q : a = i
    · subst q; simp [PyData.eqv]
    · have : PyData.eqv (.int a) (.int i) = false := by simp [PyData.eqv, q]
      simp only [this]
      rw [ih]
      have q' : ¬ i = a := fun z => q z.symm
      simp [q']
theorem zch (ks : List Int) : tabK (.dict (kT ks)) = some (kT ks) := by
  cases ks <;> rfl
theorem ziK (ks : List Int) (i : Int) : putD (kT ks) (.int i) (.bool true) = kT (if i ∈ ks then ks else ks ++ [i]) := by
  have ha : ((kT ks).any fun p => PyData.eqv p.1 (.int i)) = decide (i ∈ ks) := by
    unfold kT
    rw [List.any_map]
    induction ks with
    | nil => rfl
    | cons a ks ih =>
      rw [List.any_cons, ih]
      by_cases q : a = i
      · subst q; simp [PyData.eqv]
      · have q' : ¬ i = a := fun z => q z.symm
        simp [PyData.eqv, q, q']
  unfold putD
  rw [ha]
  by_cases q : i ∈ ks
  · simp only [q, decide_true, if_true]
    unfold kT
    rw [List.map_map]
    apply List.map_congr_left
    intro a _
    simp only [Function.comp]
    split <;> rfl
  · simp only [q, decide_false, Bool.false_eq_true, if_false]
    unfold kT
    rw [List.map_append]
    rfl
theorem ze5 (ks : List Int) (i : Int) : dinK (.int i) (.dict (kT ks)) = some (.bool (decide (i ∈ ks))) := by
  unfold dinK
  rw [zch, Option.bind_some, ← zg7]
  rfl
theorem yZ {i : Nat} {gk ge : Env' → Option D} {ρ : Env'} {ks : List Int} {a : Int} (h1 : ge ρ = some (.bool true)) (h2 : gk ρ = some (.int a)) (h3 : ρ[i]? = some (some (.own (.dict (kT ks))))) (h4 : ks.length < 16777216) : zbH i gk ge ρ = some (.nxt (ρ.set i (some (.own (.dict (kT (if a ∈ ks then ks else ks ++ [a]))))))) := by
  have e3 : ownD i ρ = some (.dict (kT ks)) := by unfold ownD; rw [h3]
  have hl : (kT ks).length < sizeLine := by unfold kT; rw [List.length_map]; exact h4
  unfold zbH
  rw [h1, Option.bind_some, h2, Option.bind_some, e3, Option.bind_some, zch, Option.bind_some]
  show (if (kT ks).length < sizeLine then _ else none) = _
  rw [if_pos hl, ziK]
theorem zfp (c : Option En) (t : Option En) (x3 x4 x5 x6 : Option En) (ks : List Int) (hk : ks.length ≤ 100000) (l : Int × Int × Int) : zU [c, t, some (.own (.dict (kT ks))), x3, vI l.1, vI l.2.1, vI l.2.2] = some (.nxt [c, t, some (.own (.dict (kT (jH ks l)))), x3, vI l.1, vI l.2.1, vI l.2.2]) := by
  have d1 := ze5 ks l.1
  have d2 := ze5 ks l.2.1
  unfold zU jH
  by_cases q1 : l.1 ∈ ks
  · have t1 : gOrT (gBo (g2 dinK (gVar 4) (qk 2))) (gBo (g2 dinK (gVar 5) (qk 2))) [c, t, some (.own (.dict (kT ks))), x3, vI l.1, vI l.2.1, vI l.2.2] = some true := by
      show (((dinK (.int l.1) (.dict (kT ks))).bind jT).bind fun b => if b then some true else _) = _
      rw [d1, decide_eq_true q1]; rfl
    rw [sIf, t1, Option.bind_some, if_pos rfl, zg (yZ (ks := ks) (a := l.1) rfl rfl rfl (by omega))]
    rw [if_pos q1, if_pos q1]
    exact yZ (ks := ks) (a := l.2.1) rfl rfl rfl (by omega)
  · by_cases q2 : l.2.1 ∈ ks
    · have t1 : gOrT (gBo (g2 dinK (gVar 4) (qk 2))) (gBo (g2 dinK (gVar 5) (qk 2))) [c, t, some (.own (.dict (kT ks))), x3, vI l.1, vI l.2.1, vI l.2.2] = some true := by
        show (((dinK (.int l.1) (.dict (kT ks))).bind jT).bind fun b => if b then some true else ((dinK (.int l.2.1) (.dict (kT ks))).bind jT)) = _
        rw [d1, d2, decide_eq_true q2, decide_eq_false q1]; rfl
      rw [sIf, t1, Option.bind_some, if_pos rfl, zg (yZ (ks := ks) (a := l.1) rfl rfl rfl (by omega))]
      rw [if_neg q1, if_neg q1, if_pos q2]
      have := yZ (i := 2) (gk := gVar 5) (ge := gK (.bool true)) (ρ := [c, t, some (.own (.dict (kT (ks ++ [l.1])))), x3, vI l.1, vI l.2.1, vI l.2.2]) (ks := ks ++ [l.1]) (a := l.2.1) rfl rfl rfl (by simp; omega)
      rw [if_pos (List.mem_append_left _ q2)] at this
      exact this
    · have t1 : gOrT (gBo (g2 dinK (gVar 4) (qk 2))) (gBo (g2 dinK (gVar 5) (qk 2))) [c, t, some (.own (.dict (kT ks))), x3, vI l.1, vI l.2.1, vI l.2.2] = some false := by
        show (((dinK (.int l.1) (.dict (kT ks))).bind jT).bind fun b => if b then some true else ((dinK (.int l.2.1) (.dict (kT ks))).bind jT)) = _
        rw [d1, d2, decide_eq_false q2, decide_eq_false q1]; rfl
      rw [sIf, t1, Option.bind_some, if_neg q1, if_neg q2]
      rfl
theorem kD (c : Option En) (t : Option En) (x3 : Option En) : ∀ (ls : List (Int × Int × Int)) (ks : List Int) (x4 x5 x6 : Option En), ks.length + ls.length ≤ 100000 → ∃ y4 y5 y6, forF (hTup 3 (jG (hName 4) (jG (hName 5) (jG (hName 6) hNil)))) zU (ls.map zu) [c, t, some (.own (.dict (kT ks))), x3, x4, x5, x6] = some (.nxt [c, t, some (.own (.dict (kT (ls.foldl jH ks)))), x3, y4, y5, y6])
  | [], ks, x4, x5, x6, _ => ⟨x4, x5, x6, rfl⟩
  | l :: ls, ks, x4, x5, x6, h => by
    rw [List.length_cons] at h
    have hs := vU ks l
    obtain ⟨y4, y5, y6, e⟩ := kD c t x3 ls (jH ks l) (vI l.1) (vI l.2.1) (vI l.2.2) (by omega)
    refine ⟨y4, y5, y6, ?_⟩
    show ((zU [c, t, some (.own (.dict (kT ks))), x3, vI l.1, vI l.2.1, vI l.2.2]).bind _) = _
    rw [zfp c t x3 x4 x5 x6 ks (by omega) l, Option.bind_some]
    exact e
theorem kY (c : Option En) (ls : List (Int × Int × Int)) : ∀ (n : Nat) (lo : Int) (ks : List Int) (x3 x4 x5 x6 : Option En), ks.length + n * ls.length ≤ 100000 → ∃ y3 y4 y5 y6, forF (hName 3) jg (zF lo n) [c, some (.val (.tuple (ls.map zu))), some (.own (.dict (kT ks))), x3, x4, x5, x6] = some (.nxt [c, some (.val (.tuple (ls.map zu))), some (.own (.dict (kT (jw ls n ks)))), y3, y4, y5, y6])
  | 0, lo, ks, x3, x4, x5, x6, _ => ⟨x3, x4, x5, x6, rfl⟩
  | n + 1, lo, ks, x3, x4, x5, x6, h => by
    rw [Nat.succ_mul] at h
    have hf := vw ls ks
    obtain ⟨z4, z5, z6, e1⟩ := kD c (some (.val (.tuple (ls.map zu)))) (vI lo) ls ks x4 x5 x6 (by omega)
    obtain ⟨y3, y4, y5, y6, e2⟩ := kY c ls n (lo + 1) (ls.foldl jH ks) (vI lo) z4 z5 z6 (by omega)
    refine ⟨y3, y4, y5, y6, ?_⟩
    have er : zF lo (n + 1) = .int lo :: zF (lo + 1) n := by
      unfold zF
      rw [List.range_succ_eq_map, List.map_cons, List.map_map]
      simp only [Int.natCast_zero, Int.add_zero]
      congr 1
      apply List.map_congr_left
      intro k _
      simp only [Function.comp]
      congr 1
      push_cast
      omega
    rw [er]
    show ((jg [c, some (.val (.tuple (ls.map zu))), some (.own (.dict (kT ks))), vI lo, x4, x5, x6]).bind _) = _
    have eb : jg [c, some (.val (.tuple (ls.map zu))), some (.own (.dict (kT ks))), vI lo, x4, x5, x6] = some (.nxt [c, some (.val (.tuple (ls.map zu))), some (.own (.dict (kT (ls.foldl jH ks)))), vI lo, z4, z5, z6]) := qL (ds := ls.map zu) rfl e1
    rw [eb, Option.bind_some]
    exact e2
theorem zhV (c : Int) (h0 : 0 ≤ c) (h5 : c ≤ 5) (ls : List (Int × Int × Int)) (h : ls.length ≤ 1000) : F_all_lead_to_ditch [.int c, .tuple (ls.map zu)] = some (.bool (decide (((jw ls c.toNat [0]).length : Int) = c + 1))) := by
  obtain ⟨y3, y4, y5, y6, e⟩ := kY (vI c) ls c.toNat 0 [0] none none none none (by
    have : c.toNat * ls.length ≤ 5 * 1000 := Nat.mul_le_mul (by omega) h
    simp; omega)
  unfold F_all_lead_to_ditch
  refine jo ?_
  show jZ [vI c, some (.val (.tuple (ls.map zu))), none, none, none, none, none] = _
  unfold jZ
  rw [zg (ρ' := [vI c, some (.val (.tuple (ls.map zu))), some (.own (.dict (kT [0]))), none, none, none, none]) rfl]
  rw [zg (qL (ds := zF 0 c.toNat) (by
    show kt [.int c] = _
    exact za0 (by omega) (by omega)) e)]
  generalize hr : ([vI c, some (.val (.tuple (ls.map zu))), some (.own (.dict (kT (jw ls c.toNat [0])))), y3, y4, y5, y6] : Env') = ρ
  have v0 : gVar 0 ρ = some (.int c) := by rw [← hr]; rfl
  have v2 : qk 2 ρ = some (.dict (kT (jw ls c.toNat [0]))) := by rw [← hr]; rfl
  have el : lenK [.dict (kT (jw ls c.toNat [0]))] = some (.int (jw ls c.toNat [0]).length) := by
    simp only [lenK, zch, Option.map_some]
    unfold kT
    rw [List.length_map]
  simp only [sRet, gA, zb, gNil, g2, gK, v0, v2, Option.bind_some, el, zI, zaD, Option.map_some]
end L2.Y
namespace L2.Y
open PySem
theorem kB (ks : List Int) : (ks.map PyData.int).all SeqAt.shaped = true := by
  rw [List.all_map, List.all_eq_true]
  intro i _
  exact xa i
theorem zeV (ks : List Int) (i : Int) : ((ks.map PyData.int).any fun y => PyData.eqv y (.int i)) = decide (i ∈ ks) := by
  rw [List.any_map]
  induction ks with
  | nil => rfl
  | cons a ks ih =>
    rw [List.any_cons, ih]
    by_cases q : a = i
    · subst q; simp [PyData.eqv]
    · have q' : ¬ i = a := fun z => q z.symm
      simp [PyData.eqv, q, q']
theorem zcV (ks : List Int) (i : Int) : inD (.int i) (.list (ks.map PyData.int)) = some (.bool (decide (i ∈ ks))) := by
  show (if ((ks.map PyData.int).all SeqAt.shaped && SeqAt.shaped (.int i)) = true then some ((ks.map PyData.int).any fun y => PyData.eqv y (.int i)) else none).map _ = _
  rw [kB, xa, zeV]
  rfl
theorem kf (ks : List Int) (i : Int) : yF (.int i) (.list (ks.map PyData.int)) = some (.bool (!decide (i ∈ ks))) := by
  show (if ((ks.map PyData.int).all SeqAt.shaped && SeqAt.shaped (.int i)) = true then some ((ks.map PyData.int).any fun y => PyData.eqv y (.int i)) else none).map _ = _
  rw [kB, xa, zeV]
  rfl
abbrev oL (ks : List Int) : Option En := some (.own (.list (ks.map PyData.int)))
theorem zgC (a0 a1 x3 : Option En) (ks : List Int) (hk : ks.length ≤ 100000) (l : Int × Int × Int) : jy [a0, a1, oL ks, x3, vI l.1, vI l.2.1] = some (.nxt [a0, a1, oL (jH ks l), x3, vI l.1, vI l.2.1]) := by
  have tA : ∀ ks : List Int, zfF (gBo (g2 inD (gVar 4) (qk 2))) (gBo (g2 yF (gVar 5) (qk 2))) [a0, a1, oL ks, x3, vI l.1, vI l.2.1] = some (decide (l.1 ∈ ks) && !decide (l.2.1 ∈ ks)) := fun ks => by
    show (((inD (.int l.1) (.list (ks.map PyData.int))).bind jT).bind fun b => if b then ((yF (.int l.2.1) (.list (ks.map PyData.int))).bind jT) else some false) = _
    rw [zcV, kf]
    cases decide (l.1 ∈ ks) <;> rfl
  have tB : ∀ ks : List Int, zfF (gBo (g2 inD (gVar 5) (qk 2))) (gBo (g2 yF (gVar 4) (qk 2))) [a0, a1, oL ks, x3, vI l.1, vI l.2.1] = some (decide (l.2.1 ∈ ks) && !decide (l.1 ∈ ks)) := fun ks => by
    show (((inD (.int l.2.1) (.list (ks.map PyData.int))).bind jT).bind fun b => if b then ((yF (.int l.1) (.list (ks.map PyData.int))).bind jT) else some false) = _
    rw [zcV, kf]
    cases decide (l.2.1 ∈ ks) <;> rfl
  have ap : ∀ (ks : List Int) (j : Nat) (v : Int), ks.length ≤ 100001 → gVar j [a0, a1, oL ks, x3, vI l.1, vI l.2.1] = some (.int v) → sApp 2 (gVar j) [a0, a1, oL ks, x3, vI l.1, vI l.2.1] = some (.nxt [a0, a1, oL (ks ++ [v]), x3, vI l.1, vI l.2.1]) := fun ks j v hk hv => by
    have := zfP (i := 2) (ge := gVar j) (ρ := [a0, a1, oL ks, x3, vI l.1, vI l.2.1]) (ds := ks.map PyData.int) (d := .int v) hv rfl (by simp; omega)
    rw [this]
    show some (Out.nxt [a0, a1, some (.own (.list (ks.map PyData.int ++ [.int v]))), x3, vI l.1, vI l.2.1]) = _
    rw [show ks.map PyData.int ++ [PyData.int v] = (ks ++ [v]).map PyData.int by simp]
  unfold jy jH
  by_cases q1 : l.1 ∈ ks
  · by_cases q2 : l.2.1 ∈ ks
    · rw [zg (ρ' := [a0, a1, oL ks, x3, vI l.1, vI l.2.1]) (by rw [sIf, tA, decide_eq_true q1, decide_eq_true q2]; rfl), sIf, tB, decide_eq_true q1, decide_eq_true q2, if_pos q1, if_pos q2]
      rfl
    · rw [zg (ρ' := [a0, a1, oL (ks ++ [l.2.1]), x3, vI l.1, vI l.2.1]) (by rw [sIf, tA, decide_eq_true q1, decide_eq_false q2]; exact ap ks 5 l.2.1 (by omega) rfl), sIf, tB, decide_eq_true (List.mem_append_left _ q1), if_pos q1, if_neg q2, Bool.not_true, Bool.and_false]
      rfl
  · by_cases q2 : l.2.1 ∈ ks
    · rw [zg (ρ' := [a0, a1, oL ks, x3, vI l.1, vI l.2.1]) (by rw [sIf, tA, decide_eq_false q1]; rfl), sIf, tB, decide_eq_false q1, decide_eq_true q2, if_neg q1, if_pos q2]
      exact ap ks 4 l.1 (by omega) rfl
    · rw [zg (ρ' := [a0, a1, oL ks, x3, vI l.1, vI l.2.1]) (by rw [sIf, tA, decide_eq_false q1]; rfl), sIf, tB, decide_eq_false q1, decide_eq_false q2, if_neg q1, if_neg q2]
      rfl
theorem zbd (a0 a1 x3 : Option En) : ∀ (ls : List (Int × Int × Int)) (ks : List Int) (x4 x5 : Option En), ks.length + ls.length ≤ 100000 → ∃ y4 y5, forF (hTup 2 (jG (hName 4) (jG (hName 5) hNil))) jy (ls.map pairD) [a0, a1, oL ks, x3, x4, x5] = some (.nxt [a0, a1, oL (ls.foldl jH ks), x3, y4, y5])
  | [], ks, x4, x5, _ => ⟨x4, x5, rfl⟩
  | l :: ls, ks, x4, x5, h => by
    rw [List.length_cons] at h
    have hs := vU ks l
    obtain ⟨y4, y5, e⟩ := zbd a0 a1 x3 ls (jH ks l) (vI l.1) (vI l.2.1) (by omega)
    refine ⟨y4, y5, ?_⟩
    show ((jy [a0, a1, oL ks, x3, vI l.1, vI l.2.1]).bind _) = _
    rw [zgC a0 a1 x3 ks (by omega) l, Option.bind_some]
    exact e
theorem zb6 (lo : Int) (n : Nat) : zF lo (n + 1) = .int lo :: zF (lo + 1) n := by
  unfold zF
  rw [List.range_succ_eq_map, List.map_cons, List.map_map]
  simp only [Int.natCast_zero, Int.add_zero]
  congr 1
  apply List.map_congr_left
  intro k _
  simp only [Function.comp]
  congr 1
  push_cast
  omega
theorem zbk (a0 : Option En) (ls : List (Int × Int × Int)) : ∀ (n : Nat) (lo : Int) (ks : List Int) (x3 x4 x5 : Option En), ks.length + n * ls.length ≤ 100000 → ∃ y3 y4 y5, forF (hName 3) jE (zF lo n) [a0, some (.val (.list (ls.map pairD))), oL ks, x3, x4, x5] = some (.nxt [a0, some (.val (.list (ls.map pairD))), oL (jw ls n ks), y3, y4, y5])
  | 0, lo, ks, x3, x4, x5, _ => ⟨x3, x4, x5, rfl⟩
  | n + 1, lo, ks, x3, x4, x5, h => by
    rw [Nat.succ_mul] at h
    have hf := vw ls ks
    obtain ⟨z4, z5, e1⟩ := zbd a0 (some (.val (.list (ls.map pairD)))) (vI lo) ls ks x4 x5 (by omega)
    obtain ⟨y3, y4, y5, e2⟩ := zbk a0 ls n (lo + 1) (ls.foldl jH ks) (vI lo) z4 z5 (by omega)
    refine ⟨y3, y4, y5, ?_⟩
    rw [zb6]
    show ((jE [a0, some (.val (.list (ls.map pairD))), oL ks, vI lo, x4, x5]).bind _) = _
    have eb : jE [a0, some (.val (.list (ls.map pairD))), oL ks, vI lo, x4, x5] = some (.nxt [a0, some (.val (.list (ls.map pairD))), oL (ls.foldl jH ks), vI lo, z4, z5]) := qL (ds := ls.map pairD) rfl e1
    rw [eb, Option.bind_some]
    exact e2
noncomputable def unlink : D → Int × Int × Int
  | .tuple [.int a, .int b, .int m] => (a, b, m)
  | _ => (0, 0, 0)
noncomputable def isYd : D → Bool
  | .tuple [.int c, .tuple ts] => inI 1 5 (.int c) && (ts.all (isLk c) && (adjB (ts.map unlink) && decide (((jw (ts.map unlink) c.toNat [0]).length : Int) = c + 1)))
  | _ => false
theorem yA {c : Int} (ls : List (Int × Int × Int)) : isYd (zM c ls) = (inI 1 5 (.int c) && ((ls.map zu).all (isLk c) && (adjB ls && decide (((jw ls c.toNat [0]).length : Int) = c + 1)))) := by
  have e : (ls.map zu).map unlink = ls := by
    rw [List.map_map]
    exact List.map_id' ls
  show (inI 1 5 (.int c) && ((ls.map zu).all (isLk c) && (adjB ((ls.map zu).map unlink) && decide (((jw ((ls.map zu).map unlink) c.toNat [0]).length : Int) = c + 1)))) = _
  rw [e]
theorem zdx {t : D} (h : okD t = true) : F_is_yard [t] = some (.bool (isYd t)) := by
  have ht := vn 2 h
  cases t with
  | tuple xs =>
    by_cases q : xs.length = 2
    · obtain ⟨a, b, rfl⟩ := tup2 q
      obtain ⟨_, ho⟩ := yt h
      have o1 := jf ho (d := a) (by simp)
      have o2 := jf ho (d := b) (by simp)
      have ht' : F_is_tuple_of_length [.tuple [a, b], .int 2] = some (.bool true) := ht
      have w := jW 1 5 o1
      unfold F_is_yard
      refine jo ?_
      show yg [some (.val (.tuple [a, b])), none, none] = _
      unfold yg
      rw [zg (ρ' := [some (.val (.tuple [a, b])), none, none]) (by
        show (((F_is_tuple_of_length [.tuple [a, b], .int 2]).bind jO).map (fun b => !b)).bind _ = _
        rw [ht']; rfl)]
      rw [zg (ρ' := [some (.val (.tuple [a, b])), some (.val a), some (.val b)]) rfl]
      by_cases w1 : inI 1 5 a = true
      · obtain ⟨c, rfl, c1, c2⟩ := qV w1
        cases b with
        | tuple ts =>
          obtain ⟨tl, ta⟩ := yt o2
          rw [zg (ρ' := [some (.val (.tuple [.int c, .tuple ts])), vI c, some (.val (.tuple ts))]) (by
            show ((((F_is_whole_within [.int c, .int 1, .int 5]).bind jO).map (fun b => !b)).bind _).bind _ = _
            rw [w, w1]; rfl)]
          have ec : qr (hName 0) zV (gA (zA 2 F_is_tie) (zb (gVar 0) (zb (gVar 1) gNil))) (capS 1 [1] [some (.val (.tuple [.int c, .tuple ts])), vI c, some (.val (.tuple ts))]) ts = some (ts.map fun t => .bool (isLk c t)) :=
            yb (fun t => .bool (isLk c t)) ts fun d hd => ⟨_, rfl, zfL c (jf ta hd)⟩
          have ea : (gA allD (zb (gLs (qh 1 [1] (gIt seqD (gVar 2)) (hName 0) zV (gA (zA 2 F_is_tie) (zb (gVar 0) (zb (gVar 1) gNil))))) gNil)) [some (.val (.tuple [.int c, .tuple ts])), vI c, some (.val (.tuple ts))] = some (.bool (ts.all (isLk c))) := by
            have hl : ts.length ≤ sizeLine := by show _ ≤ 16777216; omega
            show ((((if ts.length ≤ sizeLine then qr (hName 0) zV (gA (zA 2 F_is_tie) (zb (gVar 0) (zb (gVar 1) gNil))) (capS 1 [1] [some (.val (.tuple [.int c, .tuple ts])), vI c, some (.val (.tuple ts))]) ts else none).map PyData.list).bind fun x => some [x]).bind allD) = _
            rw [if_pos hl, ec]
            exact zdn (isLk c) ts
          by_cases al : ts.all (isLk c) = true
          · obtain ⟨ls, rfl, hls⟩ := wM al
            have hll : ls.length ≤ 1000 := by simpa using tl
            rw [zg (ρ' := [some (.val (.tuple [.int c, .tuple (ls.map zu)])), vI c, some (.val (.tuple (ls.map zu)))]) (by
              rw [sIf, jr, gTr, ea, al]; rfl)]
            rw [show (PyData.tuple [.int c, .tuple (ls.map zu)]) = zM c ls from rfl, yA, w1, al]
            have r1 := zfS ls hll
            have r2 := zhV c (by omega) c2 ls hll
            show ((((F_are_rising [.tuple (ls.map zu)]).bind jT).bind fun b => if b then F_all_lead_to_ditch [.int c, .tuple (ls.map zu)] else some (.bool false)).map Out.ret) = _
            rw [r1, r2]
            cases adjB ls <;> rfl
          · rw [qA (d := .bool false) (by rw [sIf, jr, gTr, ea, Bool.not_eq_true _ |>.mp al]; rfl)]
            have : isYd (.tuple [.int c, .tuple ts]) = false := by
              show (inI 1 5 (.int c) && (ts.all (isLk c) && _)) = false
              rw [Bool.not_eq_true _ |>.mp al, Bool.false_and, Bool.and_false]
            rw [this]
        | dict z => exact absurd rfl (wL o2 z)
        | _ =>
          rw [qA (d := .bool false) (by
            show ((((F_is_whole_within [.int c, .int 1, .int 5]).bind jO).map (fun b => !b)).bind _).bind _ = _
            rw [w, w1]; rfl)]
          rfl
      · rw [qA (d := .bool false) (by
          show ((((F_is_whole_within [a, .int 1, .int 5]).bind jO).map (fun b => !b)).bind _).bind _ = _
          rw [w, Bool.not_eq_true _ |>.mp w1]; rfl)]
        have : isYd (.tuple [a, b]) = false := by
          unfold isYd
          split
          · rename_i c ts e
            cases e
            rw [Bool.not_eq_true _ |>.mp w1, Bool.false_and]
          · rfl
        rw [this]
    · have ht' : F_is_tuple_of_length [.tuple xs, .int 2] = some (.bool false) := by rw [show (2 : Int) = ((2 : Nat) : Int) from rfl, ht, zdi, decide_eq_false q]
      have : isYd (.tuple xs) = false := by
        unfold isYd
        split
        · rename_i e; cases e; exact absurd rfl q
        · rfl
      rw [this]
      simp [F_is_yard, yg, jc, jm, sSeq, sIf, jr, gTr, gA, zb, gNil, gVar, gK, qa, ht', jO, sRet]
  | dict z => exact absurd rfl (wL h z)
  | _ => rfl
end L2.Y
namespace L2.Y
open PySem
theorem vX {ds : List D} {d : D} (h : d ∈ ds) : d.depth ≤ PyData.depthAll ds := by
  induction ds with
  | nil => simp at h
  | cons a ds ih =>
    rw [PyData.depthAll]
    rcases List.mem_cons.mp h with q | q
    · subst q; exact Nat.le_max_left _ _
    · exact Nat.le_trans (ih q) (Nat.le_max_right _ _)
theorem qT : ∀ {ds : List D} {n : Nat}, (∀ d ∈ ds, d.depth ≤ n) → PyData.depthAll ds ≤ n
  | [], n, _ => Nat.zero_le _
  | d :: ds, n, h => by
    rw [PyData.depthAll]
    exact Nat.max_le.mpr ⟨h d List.mem_cons_self, qT fun x hx => h x (List.mem_cons_of_mem _ hx)⟩
theorem va : ∀ {ds : List D}, (∀ d ∈ ds, okD d = true) → vW ds = true
  | [], _ => rfl
  | d :: ds, h => by rw [vW, h d List.mem_cons_self, va fun x hx => h x (List.mem_cons_of_mem _ hx)]; rfl
theorem zb0 {d : D} (h : okD d = true) (hd : d.depth ≤ 64) : SeqAt.shaped d = true := by
  unfold SeqAt.shaped
  rw [zao h, decide_eq_true hd]
  rfl
noncomputable def zfE : GS :=
    (sSeq (sIf (gBo (g2 neD (gLs (qh 1 [1] (gItA kc (zb (gK (.int 1)) (zb (gA lenD (zb (gVar 1) gNil)) gNil))) (hName 0) (gBo (g2 geD (g2 ixD (gVar 1) (g2 subD (gVar 0) (gK (.int 1)))) (g2 ixD (gVar 1) (gVar 0)))) (gVar 0))) (gLs (gLst gNil))))
    (sRet (gK (.bool false)))
    sNil)
    (sSeq (sOwn 2 (gLst (zb (gK (.int 0)) gNil)))
    (sSeq (sFor (gItA kt (zb (g2 ixD (gVar 0) (gK (.int 0))) gNil)) (hName 3)
    jE)
    (sRet (g2 eqD (gA lenD (zb (qk 2) gNil)) (g2 addD (g2 ixD (gVar 0) (gK (.int 0))) (gK (.int 1))))))))
noncomputable def zjD : GS :=
    (sSeq (sAsg (hName 1) (gLs (qh 1 [] (gIt seqD (g2 ixD (gVar 0) (gK (.int 1)))) (hName 0) zV (gSl (gVar 0) zy (zl (gK (.int 2)))))))
    zfE)
theorem zgt (c : Int) (ls : List (Int × Int × Int)) (hll : ls.length ≤ 1000) : gBo (g2 neD (gLs (qh 1 [1] (gItA kc (zb (gK (.int 1)) (zb (gA lenD (zb (gVar 1) gNil)) gNil))) (hName 0) (gBo (g2 geD (g2 ixD (gVar 1) (g2 subD (gVar 0) (gK (.int 1)))) (g2 ixD (gVar 1) (gVar 0)))) (gVar 0))) (gLs (gLst gNil))) [some (.val (zM c ls)), some (.val (.list (ls.map pairD))), none, none, none, none] = some (!adjB ls) := by
  have e2 : qr (hName 0) (gBo (g2 geD (g2 ixD (gVar 1) (g2 subD (gVar 0) (gK (.int 1)))) (g2 ixD (gVar 1) (gVar 0)))) (gVar 0) (capS 1 [1] [some (.val (zM c ls)), some (.val (.list (ls.map pairD))), none, none, none, none]) (zF 1 (ls.length - 1)) = some (((zF 1 (ls.length - 1)).filter (badK ls)).map id) :=
    yU (badK ls) id _ fun d hd => by
      obtain ⟨k, hk, rfl⟩ := xV hd
      have l1 : k < ls.length := by omega
      have l2 : k + 1 < ls.length := by omega
      refine ⟨[some (.val (.int (1 + k))), some (.val (.list (ls.map pairD)))], rfl, ?_, fun _ => rfl⟩
      have x1 : ixD (.list (ls.map pairD)) (.int (1 + k - 1)) = some (pairD ls[k]) := zdc (by omega) (by rw [show ((1 : Int) + k - 1).toNat = k by omega]; simp [l1])
      have x2 : ixD (.list (ls.map pairD)) (.int (1 + k)) = some (pairD ls[k + 1]) := zdc (by omega) (by rw [show ((1 : Int) + k).toNat = k + 1 by omega]; simp [l2])
      have v0 : gVar 0 [some (.val (.int (1 + k))), some (.val (.list (ls.map pairD)))] = some (.int (1 + k)) := rfl
      have v1 : gVar 1 [some (.val (.int (1 + k))), some (.val (.list (ls.map pairD)))] = some (.list (ls.map pairD)) := rfl
      simp only [gBo, g2, gK, v0, v1, Option.bind_some, zdo, x1, x2, zf8, jT]
      rw [badK, show ((1 : Int) + k - 1).toNat = k by omega, show ((1 : Int) + k).toNat = k + 1 by omega, List.getElem?_eq_getElem l1, List.getElem?_eq_getElem l2]
  have sh2 : SeqAt.shaped (.list ((zF 1 (ls.length - 1)).filter (badK ls))) = true := by
    refine zb0 ?_ ?_
    · rw [okD, Bool.and_eq_true, decide_eq_true_eq]
      refine ⟨Nat.le_trans (List.length_filter_le _ _) (by rw [qF]; omega), va fun d hd => ?_⟩
      obtain ⟨k, _, rfl⟩ := xV (List.mem_filter.mp hd).1
      rfl
    · rw [PyData.depth]
      have := qT (n := 0) fun d (hd : d ∈ (zF 1 (ls.length - 1)).filter (badK ls)) => by
        obtain ⟨k, _, rfl⟩ := xV (List.mem_filter.mp hd).1
        exact Nat.le_refl 0
      omega
  have er : kc [.int 1, .int ((ls.map pairD).length : Nat)] = some (zF 1 (ls.length - 1)) := by
    rw [zb8 (by decide) (by decide) (by omega) (by rw [List.length_map]; omega), List.length_map]
    congr 2
    omega
  have hr : (zF 1 (ls.length - 1)).length ≤ 16777216 := by rw [qF]; omega
  generalize hρ : ([some (.val (zM c ls)), some (.val (.list (ls.map pairD))), none, none, none, none] : Env') = ρ at e2 ⊢
  have v1 : gVar 1 ρ = some (.list (ls.map pairD)) := by rw [← hρ]; rfl
  have vl : lenD [.list (ls.map pairD)] = some (.int ((ls.map pairD).length : Nat)) := rfl
  rw [List.map_id] at e2
  have e3 := wY (zaj (zcs (zm (zW (ρ := ρ) (d := .int 1)) (zm (qw (zm v1 zB) vl) zB)) er) hr e2)
  have e4 := zfu sh2
  rw [ziz] at e4
  exact xH (zD e3 (wY (zce zB (Nat.zero_le _))) e4)
theorem zfV (c : Int) (c1 : 1 ≤ c) (c2 : c ≤ 5) (ls : List (Int × Int × Int)) (hll : ls.length ≤ 1000) : zfE [some (.val (zM c ls)), some (.val (.list (ls.map pairD))), none, none, none, none] = some (.ret (.bool (adjB ls && decide (((jw ls c.toNat [0]).length : Int) = c + 1)))) := by
  have cond2 := zgt c ls hll
  unfold zfE
  by_cases ad : adjB ls = true
  · rw [zg (ρ' := [some (.val (zM c ls)), some (.val (.list (ls.map pairD))), none, none, none, none]) (by
      rw [sIf, cond2, ad]; rfl)]
    rw [zg (ρ' := [some (.val (zM c ls)), some (.val (.list (ls.map pairD))), oL [0], none, none, none]) rfl]
    obtain ⟨y3, y4, y5, e⟩ := zbk (some (.val (zM c ls))) ls c.toNat 0 [0] none none none (by
      have : c.toNat * ls.length ≤ 5 * 1000 := Nat.mul_le_mul (by omega) hll
      simp; omega)
    have x0 : ixD (zM c ls) (.int 0) = some (.int c) := rfl
    have v0 : ∀ r, gVar 0 (some (.val (zM c ls)) :: r) = some (zM c ls) := fun r => rfl
    rw [zg (qL (ds := zF 0 c.toNat) (by
      simp only [gItA, zb, gNil, g2, gK, v0, x0, Option.bind_some]
      exact za0 (by omega) (by omega)) e)]
    have v2 : ∀ a b r, qk 2 (a :: b :: oL (jw ls c.toNat [0]) :: r) = some (.list ((jw ls c.toNat [0]).map PyData.int)) := fun a b r => rfl
    have vl : lenD [.list ((jw ls c.toNat [0]).map PyData.int)] = some (.int (((jw ls c.toNat [0]).map PyData.int).length : Nat)) := rfl
    simp only [sRet, g2, gA, zb, gNil, gK, v0, v2, vl, x0, Option.bind_some, zI, zaD, Option.map_some, List.length_map, ad, Bool.true_and]
  · rw [qA (d := .bool false) (by rw [sIf, cond2, Bool.not_eq_true _ |>.mp ad]; rfl), Bool.not_eq_true _ |>.mp ad]
    rfl
theorem zgX (c : Int) (c1 : 1 ≤ c) (c2 : c ≤ 5) (ls : List (Int × Int × Int)) (hll : ls.length ≤ 1000) : zjD [some (.val (zM c ls)), none, none, none, none, none] = some (.ret (.bool (adjB ls && decide (((jw ls c.toNat [0]).length : Int) = c + 1)))) := by
  have hl : (ls.map zu).length ≤ sizeLine := by rw [List.length_map]; show _ ≤ 16777216; omega
  have e1 : qr (hName 0) zV (gSl (gVar 0) zy (zl (gK (.int 2)))) (capS 1 [] [some (.val (zM c ls)), none, none, none, none, none]) (ls.map zu) = some (ls.map pairD) := by
    have := yb (h := hName 0) (ge := gSl (gVar 0) zy (zl (gK (.int 2)))) (ρ := capS 1 [] [some (.val (zM c ls)), none, none, none, none, none]) (fun d => match d with | .tuple [a, b, _] => .tuple [a, b] | d => d) (ls.map zu) (fun d hd => by
      obtain ⟨l, _, rfl⟩ := List.mem_map.mp hd
      exact ⟨_, rfl, rfl⟩)
    rw [show (zV : Env' → Option Bool) = fun _ => some true from rfl, this, List.map_map]
    rfl
  unfold zjD
  rw [zg (ρ' := [some (.val (zM c ls)), some (.val (.list (ls.map pairD))), none, none, none, none]) (by
    show (((if (ls.map zu).length ≤ sizeLine then qr (hName 0) zV (gSl (gVar 0) zy (zl (gK (.int 2)))) (capS 1 [] [some (.val (zM c ls)), none, none, none, none, none]) (ls.map zu) else none).map PyData.list).bind _) = _
    rw [if_pos hl, e1]; rfl)]
  exact zfV c c1 c2 ls hll
theorem km {t : D} (h : okD t = true) (hd : t.depth ≤ 60) : F_law_is_yard [t] = some (.bool (isYd t)) := by
  cases t with
  | tuple xs =>
    by_cases q : xs.length = 2
    · obtain ⟨a, b, rfl⟩ := tup2 q
      obtain ⟨_, ho⟩ := yt h
      have o1 := jf ho (d := a) (by simp)
      have o2 := jf ho (d := b) (by simp)
      have w := jV 1 5 o1
      unfold F_law_is_yard
      refine jo ?_
      show qC [some (.val (.tuple [a, b])), none, none, none, none, none] = _
      unfold qC
      by_cases w1 : inI 1 5 a = true
      · obtain ⟨c, rfl, c1, c2⟩ := qV w1
        rw [zg (ρ' := [some (.val (.tuple [.int c, b])), none, none, none, none, none]) (by
          show ((((F_law_number [.int c, .int 1, .int 5]).bind jO).map (fun b => !b))).bind _ = _
          rw [w, w1]; rfl)]
        cases b with
        | tuple ts =>
          obtain ⟨tl, ta⟩ := yt o2
          have hl : ts.length ≤ sizeLine := by show _ ≤ 16777216; omega
          have ec : qr (hName 0) (jr (gTr (gA (zA 2 F_law_is_link) (zb (gVar 0) (zb (g2 ixD (gVar 1) (gK (.int 0))) gNil))))) (gVar 0) (capS 1 [0] [some (.val (.tuple [.int c, .tuple ts])), none, none, none, none, none]) ts = some ((ts.filter fun t => !isLk c t).map id) :=
            yU (fun t => !isLk c t) id ts fun d hd => ⟨_, rfl, by
              show ((F_law_is_link [d, .int c]).bind jO).map (fun b => !b) = _
              rw [zdA c (jf ta hd)]; rfl, fun _ => rfl⟩
          have sh : SeqAt.shaped (.list (ts.filter fun t => !isLk c t)) = true := by
            have sub : ∀ d ∈ ts.filter (fun t => !isLk c t), d ∈ ts := fun d hd => (List.mem_filter.mp hd).1
            refine zb0 ?_ ?_
            · rw [okD, va fun d hd => jf ta (sub d hd), Bool.and_true, decide_eq_true_eq]
              exact Nat.le_trans (List.length_filter_le _ _) tl
            · rw [PyData.depth]
              have h1 : PyData.depthAll (ts.filter fun t => !isLk c t) ≤ PyData.depthAll ts := qT fun d hd => vX (sub d hd)
              have h2 : (PyData.tuple ts).depth ≤ PyData.depthAll [.int c, .tuple ts] := vX (by simp)
              rw [PyData.depth] at h2 hd
              omega
          have ne := zfu sh
          have cond : gOrT (jr (gTr (g1 (isI jx) (g2 ixD (gVar 0) (gK (.int 1)))))) (gBo (g2 neD (gLs (qh 1 [0] (gIt seqD (g2 ixD (gVar 0) (gK (.int 1)))) (hName 0) (jr (gTr (gA (zA 2 F_law_is_link) (zb (gVar 0) (zb (g2 ixD (gVar 1) (gK (.int 0))) gNil))))) (gVar 0))) (gLs (gLst gNil)))) [some (.val (.tuple [.int c, .tuple ts])), none, none, none, none, none] = some (!(ts.filter fun t => !isLk c t).isEmpty) := by
            show ((((if ts.length ≤ sizeLine then qr (hName 0) (jr (gTr (gA (zA 2 F_law_is_link) (zb (gVar 0) (zb (g2 ixD (gVar 1) (gK (.int 0))) gNil))))) (gVar 0) (capS 1 [0] [some (.val (.tuple [.int c, .tuple ts])), none, none, none, none, none]) ts else none).map PyData.list).bind fun x => neD x (.list [])).bind jT) = _
            rw [if_pos hl, ec, List.map_id, Option.map_some, Option.bind_some, ne]
            rfl
          have em : (ts.filter fun t => !isLk c t).isEmpty = ts.all (isLk c) := by
            rw [Bool.eq_iff_iff, List.isEmpty_iff, List.filter_eq_nil_iff, List.all_eq_true]
            constructor
            · intro h x hx; simpa using h x hx
            · intro h x hx; simp [h x hx]
          rw [em] at cond
          by_cases al : ts.all (isLk c) = true
          · obtain ⟨ls, rfl, hls⟩ := wM al
            have hll : ls.length ≤ 1000 := by simpa using tl
            rw [zg (ρ' := [some (.val (.tuple [.int c, .tuple (ls.map zu)])), none, none, none, none, none]) (by
              rw [sIf, cond, al]; rfl)]
            rw [show (PyData.tuple [.int c, .tuple (ls.map zu)]) = zM c ls from rfl, yA, w1, al]
            exact zgX c c1 c2 ls hll
          · rw [qA (d := .bool false) (by rw [sIf, cond, Bool.not_eq_true _ |>.mp al]; rfl)]
            have : isYd (.tuple [.int c, .tuple ts]) = false := by
              show (inI 1 5 (.int c) && (ts.all (isLk c) && _)) = false
              rw [Bool.not_eq_true _ |>.mp al, Bool.false_and, Bool.and_false]
            rw [this]
        | dict z => exact absurd rfl (wL o2 z)
        | _ =>
          rw [qA (d := .bool false) (by rfl)]
          rfl
      · rw [qA (d := .bool false) (by
          show ((((F_law_number [a, .int 1, .int 5]).bind jO).map (fun b => !b))).bind _ = _
          rw [w, Bool.not_eq_true _ |>.mp w1]; rfl)]
        have : isYd (.tuple [a, b]) = false := by
          unfold isYd
          split
          · rename_i c ts e
            cases e
            rw [Bool.not_eq_true _ |>.mp w1, Bool.false_and]
          · rfl
        rw [this]
    · have q' : ¬ ((xs.length : Int) = 2) := by omega
      have : isYd (.tuple xs) = false := by
        unfold isYd
        split
        · rename_i e; cases e; exact absurd rfl q
        · rfl
      rw [this]
      simp [F_law_is_yard, qC, jc, jm, sSeq, sIf, jr, gTr, g1, isI, jx, lenD, xL, gBo, jT, gA, zb, gNil, gVar, gK, jO, gOrT, g2, q', sRet]
  | dict z => exact absurd rfl (wL h z)
  | _ => rfl
end L2.Y
namespace L2.Y
open PySem
section
variable {ρ : Env'}
theorem zdO {c : Env' → Option Bool} {g h : GS} (h1 : c ρ = some true) : sIf c g h ρ = g ρ := by rw [zhd h1]; rfl
theorem zcg {c : Env' → Option Bool} {g h : GS} (h1 : c ρ = some false) : sIf c g h ρ = h ρ := by rw [zhd h1]; rfl
end
theorem wq (s : String) : PyData.strOk (Str.ofString s) = true := by
  rw [Str.ofString_eq_toList]
  unfold PyData.strOk
  rw [Array.all_eq_true_iff_forall_mem]
  intro x hx
  simp only [List.mem_toArray, List.mem_map] at hx
  obtain ⟨c, _, rfl⟩ := hx
  have := c.valid
  simp only [decide_eq_true_eq]
  rcases this with h | h
  · have : c.val.toNat < 55296 := h
    show c.val.toNat < _
    omega
  · have : c.val.toNat < 1114112 := h.2
    show c.val.toNat < _
    omega
noncomputable def Fit (n : Nat) (d : D) : Prop := okD d = true ∧ d.depth ≤ n
theorem vQ {n : Nat} {es : List D} (hl : es.length ≤ 1000) (h : ∀ e ∈ es, Fit n e) : Fit (n + 1) (.tuple es) := by
  refine ⟨?_, ?_⟩
  · rw [okD, va fun d hd => (h d hd).1, decide_eq_true hl]; rfl
  · rw [PyData.depth]
    have := qT (ds := es) (n := n) fun d hd => (h d hd).2
    omega
theorem Fit.le {n m : Nat} {d : D} (h : Fit n d) (hm : n ≤ m) : Fit m d := ⟨h.1, Nat.le_trans h.2 hm⟩
theorem zfH (i : Int) (n : Nat) : Fit n (.int i) := ⟨by rw [okD], by rw [PyData.depth] <;> simp⟩
theorem log2_small {i : Int} (h : i.natAbs < 2 ^ 60) : i.natAbs.log2 < 1920 := by
  by_cases q : i.natAbs = 0
  · rw [q]; decide
  · have := (Nat.log2_lt q (k := 60)).mpr h
    omega
theorem zgs {i : Int} (h : i.natAbs < 2 ^ 60) : strOfD [.int i] = some (.str (toString i)) := if_pos (log2_small h)
end L2.Y
namespace L2.Y
open PySem
noncomputable def tS (i : Int) : Str := Str.ofString (toString i)
noncomputable def dig (i : Int) : Prop := 0 ≤ i ∧ i ≤ 5
theorem wU {i : Int} (h : dig i) : (tS i).length = 1 := by
  obtain ⟨h0, h5⟩ := h
  have : i = 0 ∨ i = 1 ∨ i = 2 ∨ i = 3 ∨ i = 4 ∨ i = 5 := by omega
  rcases this with rfl | rfl | rfl | rfl | rfl | rfl <;> decide +kernel
noncomputable def spS : Str := Str.ofString " "
noncomputable def lkS (l : Int × Int × Int) : Str := (((((Str.empty ++ Str.ofString "link ") ++ tS l.1) ++ spS) ++ tS l.2.1) ++ spS) ++ tS l.2.2
noncomputable def ydS (c : Int) : Str := (Str.empty ++ Str.ofString "yard ") ++ tS c
noncomputable def DigL (l : Int × Int × Int) : Prop := dig l.1 ∧ dig l.2.1 ∧ dig l.2.2
theorem zhk {l : Int × Int × Int} (h : DigL l) : (lkS l).length = 10 := by
  unfold lkS
  rw [strLen_append, strLen_append, strLen_append, strLen_append, strLen_append, strLen_append, wU h.1, wU h.2.1, wU h.2.2]
  decide +kernel
theorem zg8 {c : Int} (h : dig c) : (ydS c).length = 6 := by
  unfold ydS
  rw [strLen_append, strLen_append, wU h]
  decide +kernel
theorem zbz {i : Int} (h : dig i) : strOfD [.int i] = some (.str (tS i)) := zgs (by have := h.1; have := h.2; omega)
noncomputable def wrS (c : Int) (ls : List (Int × Int × Int)) : Str := ls.foldl (fun acc l => acc ++ spS ++ lkS l) (ydS c)
theorem zbi : ∀ (r : List Str) (x : Str), Str.join spS (x :: r) = r.foldl (fun acc y => acc ++ spS ++ y) x
  | [], _ => rfl
  | y :: r, x => by
    rw [List.foldl_cons, ← zbi r, StrLaws.join_shift]
    rfl
theorem zcD : ∀ (ls : List (Int × Int × Int)) (x : Str), (∀ l ∈ ls, DigL l) → (ls.foldl (fun acc l => acc ++ spS ++ lkS l) x).length = x.length + 11 * ls.length
  | [], x, _ => by simp
  | l :: ls, x, h => by
    rw [List.foldl_cons, zcD ls _ fun y hy => h y (List.mem_cons_of_mem _ hy), strLen_append, strLen_append, zhk (h l List.mem_cons_self), List.length_cons, show spS.length = 1 by decide +kernel]
    omega
theorem qI {x y : Str} (hx : PyData.strOk x = true) (hy : PyData.strOk y = true) : PyData.strOk (x ++ y) = true := by
  unfold PyData.strOk at hx hy ⊢
  rw [Str.cps_append, Array.all_append, hx, hy]
  rfl
theorem zku (l : Int × Int × Int) : PyData.strOk (lkS l) = true := qI (qI (qI (qI (qI (qI (by decide +kernel) (wq _)) (wq _)) (wq _)) (wq _)) (wq _)) (wq _)
theorem zfb : ∀ (ls : List (Int × Int × Int)) (x : Str), PyData.strOk x = true → PyData.strOk (ls.foldl (fun acc l => acc ++ spS ++ lkS l) x) = true
  | [], _, h => h
  | l :: ls, x, h => zfb ls _ (qI (qI h (wq _)) (zku l))
theorem zkg (c : Int) (ls : List (Int × Int × Int)) : PyData.strOk (wrS c ls) = true := zfb ls _ (qI (qI (by decide +kernel) (wq _)) (wq _))
theorem zj2 {x : Str} (h : PyData.strOk x = true) : eqD (.str x) (.str x) = some (.bool true) := by
  have : SeqAt.shaped (.str x) = true := by simp [SeqAt.shaped, PyData.canLay0, PyData.depth, h]
  unfold eqD
  rw [this]
  simp [PyData.eqv]
theorem zc9 : ∀ ys : List Str, (ys.map PyData.str).mapM strQ = some ys
  | [] => rfl
  | y :: ys => by rw [List.map_cons, List.mapM_cons, zc9 ys]; rfl
end L2.Y
namespace L2.Y
open PySem
variable {c : Int} {ls : List (Int × Int × Int)}
theorem add_str {x y : Str} (h : x.length + y.length ≤ 16777216) : addD (.str x) (.str y) = some (.str (x ++ y)) := if_pos h
theorem vP (y : Option En) (x2 : Option En) (acc : Str) (i : Int) (hi : dig i) (ha : acc.length ≤ 100000) : jq [y, some (.val (.str acc)), x2, vI i] = some (.nxt [y, some (.val (.str ((acc ++ spS) ++ tS i))), x2, vI i]) := by
  have l1 : spS.length = 1 := by decide +kernel
  unfold jq
  exact jl (zD (zD (x := .str acc) rfl zW (add_str (y := spS) (by rw [l1]; omega))) (qw (zm (x := .int i) rfl zB) (zbz hi)) (add_str (by rw [strLen_append, l1, wU hi]; omega))) rfl
theorem zgW (acc : Str) (l : Int × Int × Int) : (((((acc ++ Str.ofString " link") ++ spS) ++ tS l.1) ++ spS) ++ tS l.2.1) ++ spS ++ tS l.2.2 = acc ++ spS ++ lkS l := by
  have e : Str.ofString " link" ++ spS = spS ++ (Str.empty ++ Str.ofString "link ") := by decide +kernel
  unfold lkS
  simp only [Str.append_assoc]
  rw [← Str.append_assoc (Str.ofString " link"), e]
  simp only [Str.append_assoc]
theorem zfo (x3 : Option En) (y : Option En) (acc : Str) (l : Int × Int × Int) (hl : DigL l) (ha : acc.length ≤ 90000) : ∃ z3, jF [y, some (.val (.str acc)), some (.val (zu l)), x3] = some (.nxt [y, some (.val (.str (acc ++ spS ++ lkS l))), some (.val (zu l)), z3]) := by
  have l1 : spS.length = 1 := by decide +kernel
  have l5 : (Str.ofString " link").length = 5 := by decide +kernel
  refine ⟨vI l.2.2, ?_⟩
  unfold jF
  rw [zg (ρ' := [y, some (.val (.str (acc ++ Str.ofString " link"))), some (.val (zu l)), x3]) (jl (zD (x := .str acc) rfl zW (add_str (y := Str.ofString " link") (by rw [l5]; omega))) rfl)]
  refine qL (ds := [.int l.1, .int l.2.1, .int l.2.2]) (zeh (x := zu l) rfl rfl) ?_
  have p1 := vP y (some (.val (zu l))) (acc ++ Str.ofString " link") l.1 hl.1 (by rw [strLen_append, l5]; omega)
  have p2 := vP y (some (.val (zu l))) (((acc ++ Str.ofString " link") ++ spS) ++ tS l.1) l.2.1 hl.2.1 (by rw [strLen_append, strLen_append, strLen_append, l5, l1, wU hl.1]; omega)
  have p3 := vP y (some (.val (zu l))) (((((acc ++ Str.ofString " link") ++ spS) ++ tS l.1) ++ spS) ++ tS l.2.1) l.2.2 hl.2.2 (by rw [strLen_append, strLen_append, strLen_append, strLen_append, strLen_append, l5, l1, wU hl.1, wU hl.2.1]; omega)
  show (jq [y, some (.val (.str (acc ++ Str.ofString " link"))), some (.val (zu l)), vI l.1]).bind _ = _
  rw [p1, Option.bind_some]
  show (jq [y, some (.val (.str (((acc ++ Str.ofString " link") ++ spS) ++ tS l.1))), some (.val (zu l)), vI l.2.1]).bind _ = _
  rw [p2, Option.bind_some]
  show (jq [y, some (.val (.str (((((acc ++ Str.ofString " link") ++ spS) ++ tS l.1) ++ spS) ++ tS l.2.1))), some (.val (zu l)), vI l.2.2]).bind _ = _
  rw [p3, Option.bind_some, zgW]
  rfl
theorem kM (y : Option En) : ∀ (ls : List (Int × Int × Int)) (acc : Str) (x2 x3 : Option En), (∀ l ∈ ls, DigL l) → acc.length + 11 * ls.length ≤ 90000 → ∃ z2 z3, forF (hName 2) jF (ls.map zu) [y, some (.val (.str acc)), x2, x3] = some (.nxt [y, some (.val (.str (ls.foldl (fun acc l => acc ++ spS ++ lkS l) acc))), z2, z3])
  | [], acc, x2, x3, _, _ => ⟨x2, x3, rfl⟩
  | l :: ls, acc, x2, x3, hd, ha => by
    rw [List.length_cons] at ha
    obtain ⟨z3, e⟩ := zfo x3 y acc l (hd l List.mem_cons_self) (by omega)
    obtain ⟨w2, w3, e2⟩ := kM y ls (acc ++ spS ++ lkS l) (some (.val (zu l))) z3 (fun x hx => hd x (List.mem_cons_of_mem _ hx)) (by
      rw [strLen_append, strLen_append, zhk (hd l List.mem_cons_self), show spS.length = 1 by decide +kernel]
      omega)
    refine ⟨w2, w3, ?_⟩
    show (jF [y, some (.val (.str acc)), some (.val (zu l)), x3]).bind _ = _
    rw [e, Option.bind_some]
    exact e2
theorem wn (hc : dig c) (hl : ls.length ≤ 1000) (hd : ∀ l ∈ ls, DigL l) : F_law_written [zM c ls] = some (.str (wrS c ls)) := by
  have l5 : (Str.ofString "yard ").length = 5 := by decide +kernel
  have ey : Str.ofString "yard " ++ tS c = ydS c := by unfold ydS; rw [Str.empty_append]
  obtain ⟨z2, z3, e⟩ := kM (some (.val (zM c ls))) ls (ydS c) none none hd (by rw [zg8 hc]; omega)
  unfold F_law_written
  refine jo ?_
  show xn [some (.val (zM c ls)), none, none, none] = _
  unfold xn
  rw [zg (ρ' := [some (.val (zM c ls)), some (.val (.str (ydS c))), none, none]) (jl (zD zW (qw (zm (zD (x := zM c ls) rfl zW (show ixD (zM c ls) (.int 0) = some (.int c) from rfl)) zB) (zbz hc)) (by rw [add_str (by rw [l5, wU hc]; omega), ey])) rfl)]
  rw [zg (qL (ds := ls.map zu) (zeh (zD (x := zM c ls) rfl zW (show ixD (zM c ls) (.int 1) = some (.tuple (ls.map zu)) from rfl)) (zdz _)) e)]
  exact qg rfl
theorem zeb {t : D} (h : isYd t = true) : ∃ c ls, t = zM c ls ∧ dig c ∧ ∀ l ∈ ls, DigL l := by
  unfold isYd at h
  split at h
  case h_2 => cases h
  rename_i c ts
  simp only [Bool.and_eq_true] at h
  obtain ⟨h1, h2, _⟩ := h
  obtain ⟨i, e, i1, i5⟩ := qV h1
  cases e
  obtain ⟨ls, rfl, lk⟩ := wM h2
  refine ⟨c, ls, rfl, ⟨by omega, by omega⟩, fun l hl => ?_⟩
  obtain ⟨a1, a2, a3, a4, a5⟩ := lk l hl
  exact ⟨⟨by omega, by omega⟩, ⟨by omega, by omega⟩, ⟨by omega, by omega⟩⟩
end L2.Y
namespace L2.Y
open PySem PySem.Builtin.Str
noncomputable def figS : Str := Str.ofString "0123456789"
noncomputable def fig (w : Str) : Prop := ∃ d : Int, 0 ≤ d ∧ d ≤ 9 ∧ w = tS d
theorem kI {d : Int} (h0 : 0 ≤ d) (h9 : d ≤ 9) : (tS d).length = 1 ∧ hasS (tS d) figS = true ∧ (occurrences figS (tS d) 0 figS.length 1).head? = some d.toNat := by
  have : d = 0 ∨ d = 1 ∨ d = 2 ∨ d = 3 ∨ d = 4 ∨ d = 5 ∨ d = 6 ∨ d = 7 ∨ d = 8 ∨ d = 9 := by omega
  rcases this with rfl | rfl | rfl | rfl | rfl | rfl | rfl | rfl | rfl | rfl <;> exact ⟨by decide +kernel, by decide +kernel, by decide +kernel⟩
theorem zjN {w : Str} (h1 : w.length = 1) (h2 : hasS w figS = true) : fig w := by
  obtain ⟨cs⟩ := w
  have hc : cs.size = 1 := h1
  obtain ⟨c, rfl⟩ : ∃ c, cs = #[c] := Array.size_eq_one_iff.mp hc
  unfold hasS at h2
  rw [StrLaws.found_one, decide_eq_true_eq] at h2
  have e : figS.cps.toList = [48, 49, 50, 51, 52, 53, 54, 55, 56, 57] := by decide +kernel
  rw [e] at h2
  simp only [List.mem_cons, List.not_mem_nil, or_false] at h2
  have key : ∀ (k : Nat) (d : Int), 0 ≤ d → d ≤ 9 → tS d = ⟨#[k]⟩ → c = k → fig ⟨#[c]⟩ := fun k d h0 h9 hk e => ⟨d, h0, h9, by rw [e, hk]⟩
  rcases h2 with h | h | h | h | h | h | h | h | h | h
  · exact key 48 0 (by decide) (by decide) (by decide +kernel) h
  · exact key 49 1 (by decide) (by decide) (by decide +kernel) h
  · exact key 50 2 (by decide) (by decide) (by decide +kernel) h
  · exact key 51 3 (by decide) (by decide) (by decide +kernel) h
  · exact key 52 4 (by decide) (by decide) (by decide +kernel) h
  · exact key 53 5 (by decide) (by decide) (by decide +kernel) h
  · exact key 54 6 (by decide) (by decide) (by decide +kernel) h
  · exact key 55 7 (by decide) (by decide) (by decide +kernel) h
  · exact key 56 8 (by decide) (by decide) (by decide +kernel) h
  · exact key 57 9 (by decide) (by decide) (by decide +kernel) h
theorem len_str {w : Str} (h : w.length ≤ 16777216) : lenD [.str w] = some (.int w.length) := if_pos h
theorem zam {w : Str} (h : w.length ≤ 16777216) : gOrT (gBo (g2 neD (gA lenD (zb (gVar 0) gNil)) (gK (.int 1)))) (gBo (g2 zbQ (gVar 0) (gK (.str "0123456789")))) [some (.val (.str w))] = some ((!decide ((w.length : Int) = 1)) || !hasS w figS) :=
  zib (xH (zD (qw (zm (x := .str w) rfl zB) (len_str h)) zW (xL _ _))) fun _ => xH (zD (x := .str w) rfl zW rfl)
theorem vV {d : Int} (h0 : 0 ≤ d) (h9 : d ≤ 9) : F_number_of [.str (tS d)] = some (.int d) := by
  obtain ⟨l1, l2, l3⟩ := kI h0 h9
  unfold F_number_of
  refine jo ?_
  show qQ [some (.val (.str (tS d)))] = _
  unfold qQ
  rw [zg (ρ' := [some (.val (.str (tS d)))]) (by
    rw [zcg (by rw [zam (by rw [l1]; decide), l1, l2]; rfl)]
    rfl)]
  refine qg (zD zW (y := .str (tS d)) rfl ?_)
  show ((occurrences figS (tS d) 0 figS.length 1).head?.map fun (n : Nat) => (.int (n : Int) : D)) = _
  rw [l3]
  show some (PyData.int ((d.toNat : Nat) : Int)) = _
  rw [show ((d.toNat : Nat) : Int) = d by omega]
theorem zd4 {w : Str} (hl : w.length ≤ 16777216) (h : ¬ fig w) : F_number_of [.str w] = none ∧ jC [.str w] = some (Str.ofString "NoText") := by
  have ec := zam hl
  have : ((!decide ((w.length : Int) = 1)) || !hasS w figS) = true := by
    rw [Bool.or_eq_true, Bool.not_eq_true', Bool.not_eq_true', decide_eq_false_iff_not]
    by_cases e : (w.length : Int) = 1
    · right
      cases q : hasS w figS with
      | false => rfl
      | true => exact absurd (zjN (by omega) q) h
    · exact .inl e
  rw [this] at ec
  constructor
  · unfold F_number_of jc
    show (qQ [some (.val (.str w))]).bind _ = _
    unfold qQ sSeq
    rw [zdO ec]
    rfl
  · unfold jC runX
    show (qb [some (.val (.str w))]).map _ = _
    unfold qb xIf
    rw [ec]
    rfl
end L2.Y
namespace L2.Y
open PySem PySem.Builtin.Str
noncomputable def wD (ws : List Str) : D := .list (ws.map PyData.str)
noncomputable def noT : Str := Str.ofString "NoText"
theorem xY {x : Str} (h : PyData.strOk x = true) : SeqAt.shaped (.str x) = true := by simp [SeqAt.shaped, PyData.canLay0, PyData.depth, h]
theorem zhB {a b : Str} (ha : PyData.strOk a = true) (hb : PyData.strOk b = true) : neD (.str a) (.str b) = some (.bool (!decide (a = b))) := by
  unfold neD
  rw [xY ha, xY hb]
  by_cases e : a = b <;> simp [PyData.eqv, e]
noncomputable def numG : Env' → Option D := gA (zA 1 F_number_of) (zb (gVar 0) gNil)
noncomputable def numX : Env' → Option Str := yh 1 jC (zb (gVar 0) gNil)
theorem zc6 {d : Int} (h0 : 0 ≤ d) (h9 : d ≤ 9) : numG [some (.val (.str (tS d)))] = some (.int d) := qw (zm (x := .str (tS d)) rfl zB) (by rw [xK]; exact vV h0 h9)
theorem zed (w : Str) : zb (gVar 0) gNil [some (.val (.str w))] = some [.str w] := zm (x := .str w) rfl zB
theorem zjL {w : Str} (hl : w.length ≤ 16777216) (h : ¬ fig w) : numG [some (.val (.str w))] = none ∧ numX [some (.val (.str w))] = some noT := by
  obtain ⟨h1, h2⟩ := zd4 hl h
  constructor
  · unfold numG gA
    rw [zed, Option.bind_some, xK, h1]
  · unfold numX yh
    rw [zed, Option.bind_some, if_pos (show [PyData.str w].length = 1 from rfl), h2]
    rfl
theorem zjY {d : Int} (h0 : 0 ≤ d) (h9 : d ≤ 9) : numX [some (.val (.str (tS d)))] = none := by
  have l := (kI h0 h9).1
  unfold numX yh
  rw [zed, Option.bind_some, if_pos (show [PyData.str (tS d)].length = 1 from rfl)]
  unfold jC runX
  show (qb [some (.val (.str (tS d)))]).map _ = _
  unfold qb xIf
  rw [zam (by rw [l]; decide), l, (kI h0 h9).2.1]
  rfl
theorem ze7 : ∀ ws : List Str, (∀ w ∈ ws, w.length ≤ 16777216) →
    (∃ ds : List Int, ws = ds.map tS ∧ (∀ d ∈ ds, 0 ≤ d ∧ d ≤ 9) ∧ qr (hName 0) zV numG [none] (ws.map PyData.str) = some (ds.map PyData.int) ∧ xj (hName 0) zV numG numX [none] (ws.map PyData.str) = none) ∨
    (qr (hName 0) zV numG [none] (ws.map PyData.str) = none ∧ xj (hName 0) zV numG numX [none] (ws.map PyData.str) = some noT ∧ ¬ ∃ ds : List Int, ws = ds.map tS ∧ ∀ d ∈ ds, 0 ≤ d ∧ d ≤ 9)
  | [], _ => .inl ⟨[], rfl, fun d hd => absurd hd (by simp), rfl, rfl⟩
  | w :: ws, h => by
    have hw := h w List.mem_cons_self
    have eF : qr (hName 0) zV numG [none] ((w :: ws).map PyData.str) = (numG [some (.val (.str w))]).bind fun y => (qr (hName 0) zV numG [none] (ws.map PyData.str)).map (y :: ·) := rfl
    have eX : xj (hName 0) zV numG numX [none] ((w :: ws).map PyData.str) = (match numX [some (.val (.str w))] with | some c => some c | none => (numG [some (.val (.str w))]).bind fun _ => xj (hName 0) zV numG numX [none] (ws.map PyData.str)) := rfl
    by_cases f : fig w
    · obtain ⟨d, h0, h9, rfl⟩ := f
      rcases ze7 ws (fun x hx => h x (List.mem_cons_of_mem _ hx)) with ⟨ds, rfl, hb, e1, e2⟩ | ⟨e1, e2, e3⟩
      · refine .inl ⟨d :: ds, rfl, fun x hx => ?_, ?_, ?_⟩
        · rcases List.mem_cons.mp hx with rfl | hx
          · exact ⟨h0, h9⟩
          · exact hb x hx
        · rw [eF, zc6 h0 h9, Option.bind_some, e1]; rfl
        · rw [eX, zjY h0 h9, zc6 h0 h9]; exact e2
      · refine .inr ⟨?_, ?_, ?_⟩
        · rw [eF, zc6 h0 h9, Option.bind_some, e1]; rfl
        · rw [eX, zjY h0 h9, zc6 h0 h9]; exact e2
        · rintro ⟨ds, e, hb⟩
          cases ds with
          | nil => cases e
          | cons d' ds => exact e3 ⟨ds, (List.cons.inj e).2, fun x hx => hb x (List.mem_cons_of_mem _ hx)⟩
    · obtain ⟨n1, n2⟩ := zjL hw f
      refine .inr ⟨?_, ?_, ?_⟩
      · rw [eF, n1]; rfl
      · rw [eX, n2]
      · rintro ⟨ds, e, hb⟩
        cases ds with
        | nil => cases e
        | cons d' ds => exact f ⟨d', (hb d' List.mem_cons_self).1, (hb d' List.mem_cons_self).2, (List.cons.inj e).1⟩
end L2.Y
namespace L2.Y
open PySem PySem.Builtin.Str
theorem zbJ {hd w0 : Str} {ws : List Str} (hok : PyData.strOk hd = true) (h0 : PyData.strOk w0 = true) (hl : ∀ w ∈ ws, w.length ≤ 16777216) (hn : ws.length ≤ 100000) :
    (w0 = hd ∧ ∃ ds : List Int, ws = ds.map tS ∧ (∀ d ∈ ds, 0 ≤ d ∧ d ≤ 9) ∧ F_numbers_behind [.str hd, wD (w0 :: ws)] = some (.tuple (ds.map PyData.int)) ∧ zp [.str hd, wD (w0 :: ws)] = none) ∨
    (F_numbers_behind [.str hd, wD (w0 :: ws)] = none ∧ zp [.str hd, wD (w0 :: ws)] = some noT ∧ ¬ (w0 = hd ∧ ∃ ds : List Int, ws = ds.map tS ∧ ∀ d ∈ ds, 0 ≤ d ∧ d ≤ 9)) := by
  have ec : gBo (g2 neD (g2 ixD (gVar 1) (gK (.int 0))) (gVar 0)) [some (.val (.str hd)), some (.val (wD (w0 :: ws)))] = some (!decide (w0 = hd)) :=
    xH (zD (zD (x := wD (w0 :: ws)) rfl zW (show ixD (wD (w0 :: ws)) (.int 0) = some (.str w0) from yv (by decide) rfl)) (y := .str hd) rfl (zhB h0 hok))
  have es : gIt seqD (gSl (gVar 1) (zl (gK (.int 1))) zy) [some (.val (.str hd)), some (.val (wD (w0 :: ws)))] = some (ws.map PyData.str) := by
    refine zeh (wR (d := wD (w0 :: ws)) (r := .list (ws.map PyData.str)) rfl (zT zW) rfl ?_) rfl
    show some (PyData.list (cutD ((w0 :: ws).map PyData.str) (some ((1 : Nat) : Int)) none)) = _
    rw [vq _ 1 (by simp)]
    rfl
  have el : (ws.map PyData.str).length ≤ 16777216 := by rw [List.length_map]; omega
  by_cases e : w0 = hd
  · rw [decide_eq_true e] at ec
    have ei : sIf (gBo (g2 neD (g2 ixD (gVar 1) (gK (.int 0))) (gVar 0))) sNo sNil [some (.val (.str hd)), some (.val (wD (w0 :: ws)))] = some (.nxt [some (.val (.str hd)), some (.val (wD (w0 :: ws)))]) := by rw [zcg ec]; rfl
    have ex : xIf (gBo (g2 neD (g2 ixD (gVar 1) (gK (.int 0))) (gVar 0))) (wu "NoText") xNo [some (.val (.str hd)), some (.val (wD (w0 :: ws)))] = none := by
      unfold xIf
      rw [ec]
      rfl
    have eX : ∀ o, xj (hName 0) zV numG numX [none] (ws.map PyData.str) = o → zp [.str hd, wD (w0 :: ws)] = o := fun o ho => by
      unfold zp runX
      show (ja [some (.val (.str hd)), some (.val (wD (w0 :: ws)))]).map _ = _
      unfold ja xSeq
      rw [ex, ei]
      dsimp only
      have : yR 1 [] (gIt seqD (gSl (gVar 1) (zl (gK (.int 1))) zy)) (hName 0) zV (gA (zA 1 F_number_of) (zb (gVar 0) gNil)) (yh 1 jC (zb (gVar 0) gNil)) [some (.val (.str hd)), some (.val (wD (w0 :: ws)))] = o := by
        unfold yR
        rw [es, Option.bind_some, if_pos (show _ ≤ sizeLine from el)]
        exact ho
      unfold xE
      rw [this]
      cases o <;> rfl
    rcases ze7 ws hl with ⟨ds, rfl, hb, e1, e2⟩ | ⟨e1, e2, e3⟩
    · refine .inl ⟨e, ds, rfl, hb, ?_, eX _ e2⟩
      unfold F_numbers_behind
      refine jo ?_
      show zY [some (.val (.str hd)), some (.val (wD (w0 :: ds.map tS)))] = _
      unfold zY
      rw [zg ei]
      exact qg (qw (zm (wY (zaj es el e1)) zB) rfl)
    · refine .inr ⟨?_, eX _ e2, fun h => e3 h.2⟩
      have eC : qh 1 [] (gIt seqD (gSl (gVar 1) (zl (gK (.int 1))) zy)) (hName 0) zV (gA (zA 1 F_number_of) (zb (gVar 0) gNil)) [some (.val (.str hd)), some (.val (wD (w0 :: ws)))] = none := by
        unfold qh
        rw [es, Option.bind_some, if_pos (show _ ≤ sizeLine from el)]
        exact e1
      unfold F_numbers_behind jc
      show (zY [some (.val (.str hd)), some (.val (wD (w0 :: ws)))]).bind _ = _
      unfold zY
      rw [zg ei]
      generalize qh 1 [] (gIt seqD (gSl (gVar 1) (zl (gK (.int 1))) zy)) (hName 0) zV (gA (zA 1 F_number_of) (zb (gVar 0) gNil)) = G at eC
      unfold sRet gA zb gLs
      rw [eC]
      rfl
  · rw [decide_eq_false e] at ec
    refine .inr ⟨?_, ?_, fun h => e h.1⟩
    · unfold F_numbers_behind jc
      show (zY [some (.val (.str hd)), some (.val (wD (w0 :: ws)))]).bind _ = _
      unfold zY sSeq
      rw [zdO ec]
      rfl
    · unfold zp runX
      show (ja [some (.val (.str hd)), some (.val (wD (w0 :: ws)))]).map _ = _
      unfold ja xSeq xIf
      rw [ec]
      rfl
end L2.Y
namespace L2.Y
open PySem PySem.Builtin.Str
theorem zjH : spS = ⟨#[32]⟩ := by decide +kernel
noncomputable def wds (x : Str) : List Str := Txt.split x spS
theorem vf (x : Str) : Str.join spS (wds x) = x := StrLaws.join_split x spS
theorem zgK (x : Str) : ∀ p ∈ wds x, 32 ∉ p.cps.toList := by
  unfold wds
  rw [zjH]
  exact StrLaws.split_free x 32
theorem zeM (x : Str) : wds x ≠ [] := by
  unfold wds Txt.split
  split
  · simp
  · split
    · simp
    · rw [StrLaws.partsBetween_eq]
      obtain ⟨p, r, e⟩ := StrLaws.partsFrom_ne x spS.length 0 (occurrences x spS 0 x.length (x.length + 1))
      rw [e]
      simp
noncomputable def flat (r : List (List Nat)) : List Nat := r.flatMap fun v => 32 :: v
theorem qK (v : List Nat) (r : List (List Nat)) : flat (v :: r) = 32 :: (v ++ flat r) := by simp [flat]
theorem zc3 : ∀ (ws : List Str) (w : Str), (Str.join spS (w :: ws)).cps.toList = w.cps.toList ++ flat (ws.map fun v => v.cps.toList)
  | [], w => by show w.cps.toList = _; simp [flat]
  | v :: ws, w => by
    show (w ++ spS ++ Str.join spS (v :: ws)).cps.toList = _
    rw [Str.cps_append, Str.cps_append, Array.toList_append, Array.toList_append, zc3 ws v, zjH, List.map_cons, qK]
    simp
theorem zaU : ∀ (a b : List Nat) (r s : List (List Nat)), 32 ∉ a → 32 ∉ b → a ++ flat r = b ++ flat s → a = b ∧ flat r = flat s
  | [], [], r, s, _, _, h => ⟨rfl, h⟩
  | [], k :: b, r, s, _, hb, h => by
    cases r with
    | nil => simp [flat] at h
    | cons v r =>
      rw [qK, List.nil_append, List.cons_append] at h
      exact absurd (List.mem_cons.mpr (.inl (List.cons.inj h).1)) hb
  | k :: a, [], r, s, ha, _, h => by
    cases s with
    | nil => simp [flat] at h
    | cons v s =>
      rw [qK, List.nil_append, List.cons_append] at h
      exact absurd (List.mem_cons.mpr (.inl (List.cons.inj h).1.symm)) ha
  | k :: a, l :: b, r, s, ha, hb, h => by
    rw [List.cons_append, List.cons_append] at h
    obtain ⟨h1, h2⟩ := List.cons.inj h
    obtain ⟨e1, e2⟩ := zaU a b r s (fun q => ha (List.mem_cons_of_mem _ q)) (fun q => hb (List.mem_cons_of_mem _ q)) h2
    exact ⟨by rw [h1, e1], e2⟩
theorem zc8 : ∀ (r s : List (List Nat)), (∀ v ∈ r, 32 ∉ v) → (∀ v ∈ s, 32 ∉ v) → flat r = flat s → r = s
  | [], [], _, _, _ => rfl
  | [], v :: s, _, _, h => by rw [qK] at h; simp [flat] at h
  | v :: r, [], _, _, h => by rw [qK] at h; simp [flat] at h
  | v :: r, u :: s, hr, hs, h => by
    rw [qK, qK] at h
    obtain ⟨e1, e2⟩ := zaU v u r s (hr v List.mem_cons_self) (hs u List.mem_cons_self) (List.cons.inj h).2
    rw [e1, zc8 r s (fun x hx => hr x (List.mem_cons_of_mem _ hx)) (fun x hx => hs x (List.mem_cons_of_mem _ hx)) e2]
theorem zee {a b : Str} (h : a.cps.toList = b.cps.toList) : a = b := Str.ext' (Array.toList_inj.mp h)
theorem zgZ {ws vs : List Str} (hw : ws ≠ []) (hv : vs ≠ []) (fw : ∀ p ∈ ws, 32 ∉ p.cps.toList) (fv : ∀ p ∈ vs, 32 ∉ p.cps.toList) (h : Str.join spS ws = Str.join spS vs) : ws = vs := by
  cases ws with
  | nil => exact absurd rfl hw
  | cons w ws =>
    cases vs with
    | nil => exact absurd rfl hv
    | cons v vs =>
      have h' := congrArg (fun x => x.cps.toList) h
      simp only [zc3] at h'
      obtain ⟨e1, e2⟩ := zaU _ _ _ _ (fw w List.mem_cons_self) (fv v List.mem_cons_self) h'
      have e3 := zc8 _ _ (fun x hx => by obtain ⟨y, hy, rfl⟩ := List.mem_map.mp hx; exact fw y (List.mem_cons_of_mem _ hy)) (fun x hx => by obtain ⟨y, hy, rfl⟩ := List.mem_map.mp hx; exact fv y (List.mem_cons_of_mem _ hy)) e2
      have e4 : ws = vs := List.map_inj_right (fun a b q => zee q) |>.mp e3
      rw [zee e1, e4]
theorem zhm {vs : List Str} (hv : vs ≠ []) (fv : ∀ p ∈ vs, 32 ∉ p.cps.toList) : wds (Str.join spS vs) = vs := zgZ (zeM _) hv (zgK _) fv (vf _)
theorem zfC : spS.length = 1 := by decide +kernel
theorem zdk : ∀ (ws : List Str) (w : Str), (Str.join spS (w :: ws)).length = w.length + ((ws.map (·.length)).sum + ws.length)
  | [], w => by show w.length = _; simp
  | v :: ws, w => by
    show (w ++ spS ++ Str.join spS (v :: ws)).length = _
    rw [strLen_append, strLen_append, zdk ws v, zfC, List.map_cons, List.sum_cons, List.length_cons]
    omega
theorem zbI {ws : List Str} (h : ws ≠ []) : (Str.join spS ws).length + 1 = (ws.map (·.length)).sum + ws.length := by
  cases ws with
  | nil => exact absurd rfl h
  | cons w ws => rw [zdk, List.map_cons, List.sum_cons, List.length_cons]; omega
theorem zaP (x : Str) : ((wds x).map (·.length)).sum + (wds x).length = x.length + 1 := by
  rw [← zbI (zeM x), vf]
theorem zcd {w : Str} : ∀ {ws : List Str}, w ∈ ws → w.length ≤ (ws.map (·.length)).sum
  | v :: ws, h => by
    rw [List.map_cons, List.sum_cons]
    rcases List.mem_cons.mp h with rfl | h
    · omega
    · have := zcd h; omega
theorem zhf (x : Str) (w : Nat) : ∀ (cuts : List Nat) (a : Nat), (StrLaws.partsFrom x w a cuts).length = cuts.length + 1
  | [], _ => rfl
  | c :: r, a => by show (_ :: StrLaws.partsFrom x w (c + w) r).length = _; rw [List.length_cons, zhf x w r]; rfl
theorem zhX {x : Str} (h : x.length ≤ 100000) : zcq x spS = true := by
  have h1 : (partsBetween x (occurrences x spS 0 x.length (x.length + 1)) spS.length).length ≤ 16777216 := by
    rw [StrLaws.partsBetween_eq, zhf]
    have := StrLaws.occ_length_le x spS 0 x.length (x.length + 1)
    omega
  have h2 : (Txt.split x spS).length ≤ 16777216 := by have := zaP x; unfold wds at this; omega
  unfold zcq
  rw [decide_eq_true (show x.length ≤ 16777216 by omega), decide_eq_true h1, decide_eq_true h2, zfC]
  rfl
theorem zhn {x y : Str} (h : PyData.strOk (x ++ y) = true) : PyData.strOk x = true ∧ PyData.strOk y = true := by
  unfold PyData.strOk at h ⊢
  rw [Str.cps_append, Array.all_append, Bool.and_eq_true] at h
  exact h
theorem zdj : ∀ {ws : List Str}, PyData.strOk (Str.join spS ws) = true → ∀ w ∈ ws, PyData.strOk w = true
  | [], _, w, hw => absurd hw (by simp)
  | [v], h, w, hw => by rw [List.mem_singleton.mp hw]; exact h
  | v :: u :: ws, h, w, hw => by
    have h' : PyData.strOk (v ++ spS ++ Str.join spS (u :: ws)) = true := h
    obtain ⟨h1, h2⟩ := zhn h'
    rcases List.mem_cons.mp hw with rfl | hw
    · exact (zhn h1).1
    · exact zdj h2 w hw
theorem zfB : ∀ {ws : List Str}, (∀ w ∈ ws, PyData.strOk w = true) → PyData.strOk (Str.join spS ws) = true
  | [], _ => by decide +kernel
  | [v], h => h v List.mem_cons_self
  | v :: u :: ws, h => qI (qI (h v List.mem_cons_self) (wq _)) (zfB fun w hw => h w (List.mem_cons_of_mem _ hw))
theorem zfi {x : Str} (h : PyData.strOk x = true) : ∀ w ∈ wds x, PyData.strOk w = true := zdj (by rw [vf]; exact h)
noncomputable def ydW : Str := Str.ofString "yard"
noncomputable def lkW : Str := Str.ofString "link"
noncomputable def wdL (l : Int × Int × Int) : List Str := [lkW, tS l.1, tS l.2.1, tS l.2.2]
noncomputable def wdY (c : Int) (ls : List (Int × Int × Int)) : List Str := ydW :: tS c :: ls.flatMap wdL
theorem zg4 (acc : Str) (l : Int × Int × Int) : acc ++ spS ++ lkW ++ spS ++ tS l.1 ++ spS ++ tS l.2.1 ++ spS ++ tS l.2.2 = acc ++ spS ++ lkS l := by
  have e : lkW ++ spS = Str.empty ++ Str.ofString "link " := by decide +kernel
  unfold lkS
  rw [← e]
  simp only [Str.append_assoc]
theorem zaf : ∀ (ls : List (Int × Int × Int)) (acc : Str), (ls.flatMap wdL).foldl (fun acc y => acc ++ spS ++ y) acc = ls.foldl (fun acc l => acc ++ spS ++ lkS l) acc
  | [], _ => rfl
  | l :: ls, acc => by
    rw [List.flatMap_cons, List.foldl_append, zaf ls, List.foldl_cons]
    congr 1
    exact zg4 acc l
theorem zax (c : Int) (ls : List (Int × Int × Int)) : Str.join spS (wdY c ls) = wrS c ls := by
  have e : ydW ++ spS = Str.empty ++ Str.ofString "yard " := by decide +kernel
  unfold wdY wrS ydS
  rw [zbi, List.foldl_cons, zaf, e]
theorem zaS {d : Int} (h0 : 0 ≤ d) (h9 : d ≤ 9) : 32 ∉ (tS d).cps.toList := by
  have : d = 0 ∨ d = 1 ∨ d = 2 ∨ d = 3 ∨ d = 4 ∨ d = 5 ∨ d = 6 ∨ d = 7 ∨ d = 8 ∨ d = 9 := by omega
  rcases this with rfl | rfl | rfl | rfl | rfl | rfl | rfl | rfl | rfl | rfl <;> decide +kernel
theorem zdm {d e : Int} (h0 : 0 ≤ d) (h9 : d ≤ 9) (g0 : 0 ≤ e) (g9 : e ≤ 9) (h : tS d = tS e) : d = e := by
  have a := vV h0 h9
  rw [h, vV g0 g9] at a
  injection a with a; injection a with a; exact a.symm
noncomputable def D9 (i : Int) : Prop := 0 ≤ i ∧ i ≤ 9
noncomputable def L9 (l : Int × Int × Int) : Prop := D9 l.1 ∧ D9 l.2.1 ∧ D9 l.2.2
theorem zcO {c : Int} {ls : List (Int × Int × Int)} (hc : D9 c) (hl : ∀ l ∈ ls, L9 l) : ∀ p ∈ wdY c ls, 32 ∉ p.cps.toList := by
  intro p hp
  unfold wdY at hp
  rcases List.mem_cons.mp hp with rfl | hp
  · decide +kernel
  rcases List.mem_cons.mp hp with rfl | hp
  · exact zaS hc.1 hc.2
  obtain ⟨l, hl', hp⟩ := List.mem_flatMap.mp hp
  have := hl l hl'
  unfold wdL at hp
  simp only [List.mem_cons, List.not_mem_nil, or_false] at hp
  rcases hp with rfl | rfl | rfl | rfl
  · decide +kernel
  · exact zaS this.1.1 this.1.2
  · exact zaS this.2.1.1 this.2.1.2
  · exact zaS this.2.2.1 this.2.2.2
theorem zcI : ∀ {ls ms : List (Int × Int × Int)}, (∀ l ∈ ls, L9 l) → (∀ l ∈ ms, L9 l) → ls.flatMap wdL = ms.flatMap wdL → ls = ms
  | [], [], _, _, _ => rfl
  | [], m :: ms, _, _, h => by simp [wdL] at h
  | l :: ls, [], _, _, h => by simp [wdL] at h
  | (l1, l2, l3) :: ls, (m1, m2, m3) :: ms, hl, hm, h => by
    have a := hl _ List.mem_cons_self
    have b := hm _ List.mem_cons_self
    rw [List.flatMap_cons, List.flatMap_cons] at h
    simp only [wdL, List.cons_append, List.nil_append, List.cons.injEq, true_and] at h
    obtain ⟨h1, h2, h3, h4⟩ := h
    have i1 : l1 = m1 := zdm a.1.1 a.1.2 b.1.1 b.1.2 h1
    have i2 : l2 = m2 := zdm a.2.1.1 a.2.1.2 b.2.1.1 b.2.1.2 h2
    have i3 : l3 = m3 := zdm a.2.2.1 a.2.2.2 b.2.2.1 b.2.2.2 h3
    rw [i1, i2, i3, zcI (fun x hx => hl x (List.mem_cons_of_mem _ hx)) (fun x hx => hm x (List.mem_cons_of_mem _ hx)) h4]
theorem zek {c e : Int} {ls ms : List (Int × Int × Int)} (hc : D9 c) (he : D9 e) (hl : ∀ l ∈ ls, L9 l) (hm : ∀ l ∈ ms, L9 l) (h : wdY c ls = wdY e ms) : c = e ∧ ls = ms := by
  unfold wdY at h
  obtain ⟨_, h⟩ := List.cons.inj h
  obtain ⟨h1, h2⟩ := List.cons.inj h
  exact ⟨zdm hc.1 hc.2 he.1 he.2 h1, zcI hl hm h2⟩
end L2.Y
namespace L2.Y
open PySem PySem.Builtin.Str
theorem wW {g h : GS} {ρ : Env'} (e : g ρ = none) : sSeq g h ρ = none := by unfold sSeq; rw [e]; rfl
theorem xu {g : GS} {x y : GX} {ρ ρ' : Env'} (e1 : x ρ = none) (e2 : g ρ = some (.nxt ρ')) : xSeq g x y ρ = y ρ' := by unfold xSeq; rw [e1, e2]
theorem zau {g : GS} {x y : GX} {ρ : Env'} {c : Str × Env'} (e1 : x ρ = some c) : xSeq g x y ρ = some c := by unfold xSeq; rw [e1]
theorem ziV {c : Env' → Option Bool} {x y : GX} {ρ : Env'} (e : c ρ = some true) : xIf c x y ρ = x ρ := by unfold xIf; rw [e]; rfl
theorem zka {c : Env' → Option Bool} {x y : GX} {ρ : Env'} (e : c ρ = some false) : xIf c x y ρ = y ρ := by unfold xIf; rw [e]; rfl
theorem zjt (ws : List Str) (a : Nat) : slD (wD ws) none (some (a : Int)) = some (wD (ws.take a)) := by
  show some (PyData.list (cutD (ws.map PyData.str) none (some (a : Int)))) = _
  have e : HT.sIx (ws.map PyData.str).length (ws.map PyData.str).length (some (a : Int)) = min a (ws.map PyData.str).length := by
    show (if (a : Int) < 0 then ((a : Int) + ((ws.map PyData.str).length : Int)).toNat else min (a : Int).toNat (ws.map PyData.str).length) = _
    rw [if_neg (by omega), Int.toNat_natCast]
  unfold cutD
  rw [e, show HT.sIx (ws.map PyData.str).length 0 none = 0 from rfl, List.drop_zero, Nat.sub_zero]
  unfold wD
  rw [List.map_take, ← List.take_eq_take_min]
theorem zeS (ws : List Str) (a : Nat) : slD (wD ws) (some (a : Int)) none = some (wD (ws.drop a)) := by
  show some (PyData.list (cutD (ws.map PyData.str) (some (a : Int)) none)) = _
  have e : HT.sIx (ws.map PyData.str).length 0 (some (a : Int)) = min a (ws.map PyData.str).length := by
    show (if (a : Int) < 0 then ((a : Int) + ((ws.map PyData.str).length : Int)).toNat else min (a : Int).toNat (ws.map PyData.str).length) = _
    rw [if_neg (by omega), Int.toNat_natCast]
  unfold cutD
  rw [e, show HT.sIx (ws.map PyData.str).length (ws.map PyData.str).length none = (ws.map PyData.str).length from rfl]
  unfold wD
  rw [List.map_drop]
  generalize ws.map PyData.str = L
  rw [← List.length_drop, List.take_length]
  by_cases h : a ≤ L.length
  · rw [Nat.min_eq_left h]
  · rw [Nat.min_eq_right (by omega), List.drop_length, List.drop_of_length_le (by omega)]
theorem zjI (ws : List Str) {a b : Nat} (hab : a ≤ b) (hb : b ≤ ws.length) : slD (wD ws) (some (a : Int)) (some (b : Int)) = some (wD ((ws.drop a).take (b - a))) := by
  show some (PyData.list (cutD (ws.map PyData.str) (some (a : Int)) (some (b : Int)))) = _
  unfold cutD
  rw [vd _ _ _ (by rw [List.length_map]; omega), vd _ _ _ (by rw [List.length_map]; omega)]
  unfold wD
  rw [List.map_take, List.map_drop]
theorem zes (ws : List Str) : lenD [wD ws] = some (.int ws.length) := by
  show some (PyData.int ((ws.map PyData.str).length : Nat)) = _
  rw [List.length_map]
noncomputable def lkA : Env' → Option (List D) := zb (gK (.str "link")) (zb (gSl (gVar 1) (zl (gVar 0)) (zl (g2 addD (gVar 0) (gK (.int 4))))) gNil)
noncomputable def lkG : Env' → Option D := gA (zA 2 F_numbers_behind) lkA
noncomputable def lkX : Env' → Option Str := yh 2 zp lkA
theorem zfj {ws : List Str} {a : Nat} (h : a + 4 ≤ ws.length) : lkA [vI a, some (.val (wD ws))] = some [.str lkW, wD ((ws.drop a).take 4)] := by
  have e := zjI ws (a := a) (b := a + 4) (by omega) h
  rw [show a + 4 - a = 4 by omega] at e
  exact zm zW (zm (wR (d := wD ws) rfl (zT (i := a) rfl) (zT (zD (x := .int a) rfl zW (zI _ _))) e) zB)
theorem zjs {ws : List Str} {a : Nat} (h : a + 4 ≤ ws.length) : lkG [vI a, some (.val (wD ws))] = F_numbers_behind [.str lkW, wD ((ws.drop a).take 4)] := by
  unfold lkG gA
  rw [zfj h, Option.bind_some, qa]
theorem zjQ {ws : List Str} {a : Nat} (h : a + 4 ≤ ws.length) : lkX [vI a, some (.val (wD ws))] = zp [.str lkW, wD ((ws.drop a).take 4)] := by
  unfold lkX yh
  rw [zfj h, Option.bind_some, if_pos (show [PyData.str lkW, wD ((ws.drop a).take 4)].length = 2 from rfl)]
theorem ze2 (lo k : Nat) : jz lo 4 (k + 1) = .int lo :: jz ((lo + 4 : Nat) : Int) 4 k := by
  unfold jz
  rw [List.range_succ_eq_map, List.map_cons, List.map_map]
  have e0 : (PyData.int ((lo : Int) + ((0 : Nat) : Int) * 4) : D) = .int lo := by rw [show ((lo : Int) + ((0 : Nat) : Int) * 4) = lo by omega]
  rw [e0]
  congr 1
  apply List.map_congr_left
  intro i _
  show PyData.int ((lo : Int) + ((i + 1 : Nat) : Int) * 4) = PyData.int (((lo + 4 : Nat) : Int) + (i : Int) * 4)
  congr 1
  omega
theorem zkc {ws : List Str} {lo : Nat} (h : lo + 4 ≤ ws.length) : ∃ w0 w1 w2 w3, ws.drop lo = w0 :: w1 :: w2 :: w3 :: ws.drop (lo + 4) ∧ (ws.drop lo).take 4 = [w0, w1, w2, w3] := by
  have l : 4 ≤ (ws.drop lo).length := by rw [List.length_drop]; omega
  have d : (ws.drop lo).drop 4 = ws.drop (lo + 4) := by rw [List.drop_drop]
  rw [← d]
  generalize ws.drop lo = L at l
  match L, l with
  | w0 :: w1 :: w2 :: w3 :: r, _ => exact ⟨w0, w1, w2, w3, rfl, rfl⟩
theorem za4 {ws : List Str} (hok : ∀ w ∈ ws, PyData.strOk w = true) (hlen : ∀ w ∈ ws, w.length ≤ 16777216) : ∀ (k lo : Nat), lo + 4 * k = ws.length →
    (∃ ls : List (Int × Int × Int), ws.drop lo = ls.flatMap wdL ∧ (∀ l ∈ ls, L9 l) ∧ ls.length = k ∧ qr (hName 0) zV lkG [none, some (.val (wD ws))] (jz lo 4 k) = some (ls.map zu) ∧ xj (hName 0) zV lkG lkX [none, some (.val (wD ws))] (jz lo 4 k) = none) ∨
    (qr (hName 0) zV lkG [none, some (.val (wD ws))] (jz lo 4 k) = none ∧ xj (hName 0) zV lkG lkX [none, some (.val (wD ws))] (jz lo 4 k) = some noT ∧ ¬ ∃ ls : List (Int × Int × Int), ws.drop lo = ls.flatMap wdL ∧ ∀ l ∈ ls, L9 l)
  | 0, lo, h => .inl ⟨[], by rw [List.drop_of_length_le (by omega)]; rfl, fun l hl => absurd hl (by simp), rfl, rfl, rfl⟩
  | k + 1, lo, h => by
    obtain ⟨w0, w1, w2, w3, e, e4⟩ := zkc (ws := ws) (lo := lo) (by omega)
    have mem : ∀ w ∈ [w0, w1, w2, w3], w ∈ ws := fun w hw => List.mem_of_mem_drop (i := lo) (by
      rw [← e4] at hw
      exact List.mem_of_mem_take hw)
    have eF : qr (hName 0) zV lkG [none, some (.val (wD ws))] (jz lo 4 (k + 1)) = (lkG [vI lo, some (.val (wD ws))]).bind fun y => (qr (hName 0) zV lkG [none, some (.val (wD ws))] (jz ((lo + 4 : Nat) : Int) 4 k)).map (y :: ·) := by rw [ze2]; rfl
    have eX : xj (hName 0) zV lkG lkX [none, some (.val (wD ws))] (jz lo 4 (k + 1)) = (match lkX [vI lo, some (.val (wD ws))] with | some c => some c | none => (lkG [vI lo, some (.val (wD ws))]).bind fun _ => xj (hName 0) zV lkG lkX [none, some (.val (wD ws))] (jz ((lo + 4 : Nat) : Int) 4 k)) := by rw [ze2]; rfl
    have g1 := zjs (ws := ws) (a := lo) (by omega)
    have g2 := zjQ (ws := ws) (a := lo) (by omega)
    rw [e4] at g1 g2
    rw [g1] at eF
    rw [g1, g2] at eX
    rcases zbJ (hd := lkW) (w0 := w0) (ws := [w1, w2, w3]) (by decide +kernel) (hok w0 (mem w0 (by simp))) (fun w hw => hlen w (mem w (List.mem_cons_of_mem _ hw))) (by simp) with ⟨rfl, ds, hds, hb, f1, f2⟩ | ⟨f1, f2, f3⟩
    · match ds, hds with
      | [d1, d2, d3], hds =>
        simp only [List.map_cons, List.map_nil, List.cons.injEq, and_true] at hds
        obtain ⟨rfl, rfl, rfl⟩ := hds
        have l9 : L9 (d1, d2, d3) := ⟨hb d1 (by simp), hb d2 (by simp), hb d3 (by simp)⟩
        rcases za4 hok hlen k (lo + 4) (by omega) with ⟨ls, h1, h2, h3, h4, h5⟩ | ⟨h1, h2, h3⟩
        · refine .inl ⟨(d1, d2, d3) :: ls, ?_, ?_, by rw [List.length_cons, h3], ?_, ?_⟩
          · rw [e, h1, List.flatMap_cons]; rfl
          · intro l hl
            rcases List.mem_cons.mp hl with rfl | hl
            · exact l9
            · exact h2 l hl
          · rw [eF, f1, Option.bind_some, h4]; rfl
          · rw [eX, f2, f1]; exact h5
        · refine .inr ⟨?_, ?_, ?_⟩
          · rw [eF, f1, Option.bind_some, h1]; rfl
          · rw [eX, f2, f1]; exact h2
          · rintro ⟨ls, q1, q2⟩
            rw [e] at q1
            match ls, q1 with
            | [], q1 => cases q1
            | l :: ls, q1 =>
              rw [List.flatMap_cons] at q1
              simp only [wdL, List.cons_append, List.nil_append, List.cons.injEq, true_and] at q1
              exact h3 ⟨ls, q1.2.2.2, fun x hx => q2 x (List.mem_cons_of_mem _ hx)⟩
    · refine .inr ⟨?_, ?_, ?_⟩
      · rw [eF, f1]; rfl
      · rw [eX, f2]
      · rintro ⟨ls, q1, q2⟩
        rw [e] at q1
        match ls, q1 with
        | [], q1 => cases q1
        | l :: ls, q1 =>
          have l9 := q2 l List.mem_cons_self
          rw [List.flatMap_cons] at q1
          simp only [wdL, List.cons_append, List.nil_append, List.cons.injEq] at q1
          obtain ⟨a0, a1, a2, a3, _⟩ := q1
          refine f3 ⟨a0, [l.1, l.2.1, l.2.2], by rw [a1, a2, a3]; rfl, fun d hd => ?_⟩
          simp only [List.mem_cons, List.not_mem_nil, or_false] at hd
          rcases hd with rfl | rfl | rfl
          · exact l9.1
          · exact l9.2.1
          · exact l9.2.2
theorem zc2 : ∀ ls : List (Int × Int × Int), vW (ls.map zu) = true
  | [] => rfl
  | l :: ls => by
    show (okD (zu l) && vW (ls.map zu)) = true
    rw [zc2 ls]
    rfl
theorem zcA {c : Int} {ls : List (Int × Int × Int)} (h : ls.length ≤ 1000) : okD (zM c ls) = true := by
  have : okD (.tuple (ls.map zu)) = true := by
    rw [okD, zc2, List.length_map, decide_eq_true h]
    rfl
  unfold zM
  rw [okD]
  show (decide (2 ≤ 1000) && (okD (.int c) && (okD (.tuple (ls.map zu)) && true))) = true
  rw [this]
  rfl
theorem zaJ : ∀ ls : List (Int × Int × Int), (ls.flatMap wdL).length = 4 * ls.length
  | [] => rfl
  | l :: ls => by rw [List.flatMap_cons, List.length_append, zaJ ls, List.length_cons, show (wdL l).length = 4 from rfl]; omega
theorem zdb : ∀ ls : List (Int × Int × Int), (∀ l ∈ ls, L9 l) → 7 * ls.length ≤ ((ls.flatMap wdL).map (·.length)).sum
  | [], _ => Nat.le_refl _
  | l :: ls, h => by
    rw [List.flatMap_cons, List.map_append, List.sum_append, List.length_cons]
    have := zdb ls fun x hx => h x (List.mem_cons_of_mem _ hx)
    have q := h l List.mem_cons_self
    have e : ((wdL l).map (·.length)).sum = lkW.length + ((tS l.1).length + ((tS l.2.1).length + ((tS l.2.2).length + 0))) := rfl
    rw [show lkW.length = 4 by decide +kernel, (kI q.1.1 q.1.2).1, (kI q.2.1.1 q.2.1.2).1, (kI q.2.2.1 q.2.2.2).1] at e
    omega
end L2.Y
namespace L2.Y
open PySem PySem.Builtin.Str
variable {x : Str} {ws : List Str}
theorem zeL {ρ : Env'} {g : Env' → Option D} (e : g ρ = some (.str x)) (hl : x.length ≤ 100000) : splF spS g ρ = some ((wds x).map PyData.str) := by
  unfold splF
  rw [e, Option.bind_some]
  exact if_pos (zhX hl)
noncomputable def rA : Env' → Option (List D) := zb (gK (.str "yard")) (zb (gSl (gVar 1) zy (zl (gK (.int 2)))) gNil)
theorem zin (t : D) (x2 x3 : Option En) : gBo (g2 neD (g2 modD (gA lenD (zb (gVar 1) gNil)) (gK (.int 4))) (gK (.int 2))) [some (.val t), some (.val (wD ws)), x2, x3] = some (!decide ((ws.length : Int) % 4 = 2)) :=
  xH (zD (zD (qw (zm (x := wD ws) rfl zB) (zes ws)) zW (zP (by omega))) zW (xL _ _))
theorem zhR (t : D) {w0 w1 : Str} {r : List Str} (x2 x3 : Option En) : rA [some (.val t), some (.val (wD (w0 :: w1 :: r))), x2, x3] = some [.str ydW, wD [w0, w1]] :=
  zm zW (zm (wR (d := wD (w0 :: w1 :: r)) rfl rfl (zT zW) (zjt _ 2)) zB)
theorem zh4 {b : Int} {k : Nat} (h : b = 2 + 4 * k) (hb : b < 1073741824) : wj [.int 2, .int b, .int 4] = some (jz (2 : Nat) 4 k) := by
  have e : (if (2 : Int) < b then (b - 2 - 1) / 4 + 1 else 0).toNat = k := by split <;> omega
  unfold wj
  dsimp only
  rw [if_pos (by omega), e]
  rfl
theorem zjy (t : D) (x2 x3 : Option En) {k : Nat} (h : ws.length = 2 + 4 * k) (hk : ws.length ≤ 100000) : gItA wj (zb (gK (.int 2)) (zb (gA lenD (zb (gVar 1) gNil)) (zb (gK (.int 4)) gNil))) [some (.val t), some (.val (wD ws)), x2, x3] = some (jz (2 : Nat) 4 k) := by
  refine zcs (zm zW (zm (qw (zm (x := wD ws) rfl zB) (zes ws)) (zm zW zB))) ?_
  exact zh4 (by omega) (by omega)
theorem zig (hx : PyData.strOk x = true) (hl : x.length ≤ 10000) :
    (∃ c ls, wds x = wdY c ls ∧ D9 c ∧ (∀ l ∈ ls, L9 l) ∧ ls.length ≤ 1000 ∧ isYd (zM c ls) = true ∧ F_read [.str x] = some (zM c ls)) ∨
    (F_read [.str x] = none ∧ yE [.str x] = some noT ∧ ¬ ∃ c ls, wds x = wdY c ls ∧ D9 c ∧ (∀ l ∈ ls, L9 l) ∧ isYd (zM c ls) = true) := by
  have wok := zfi hx
  have wln := zaP x
  have wl : ∀ w ∈ wds x, w.length ≤ 16777216 := fun w hw => by have := zcd hw; omega
  have e1 : sAsg (hName 1) (gLs (splF " " (gVar 0))) [some (.val (.str x)), none, none, none] = some (.nxt [some (.val (.str x)), some (.val (wD (wds x))), none, none]) :=
    jl (wY (zeL (x := x) rfl (by omega))) rfl
  have ec := zin (ws := wds x) (.str x) none none
  have hF : ∀ o, (sSeq (sIf (gBo (g2 neD (g2 modD (gA lenD (zb (gVar 1) gNil)) (gK (.int 4))) (gK (.int 2))))
    sNo
    sNil)
    (sSeq (sAsg (hName 2) (g2 ixD (gA (zA 2 F_numbers_behind) rA) (gK (.int 0))))
    (sSeq (sAsg (hName 3) (gA ym (zb (gLs (qh 1 [1] (gItA wj (zb (gK (.int 2)) (zb (gA lenD (zb (gVar 1) gNil)) (zb (gK (.int 4)) gNil)))) (hName 0) zV lkG)) gNil)))
    (sSeq (sIf (jr (gTr (gA (zA 1 F_is_yard) (zb (gA tupD (zb (gVar 2) (zb (gVar 3) gNil))) gNil))))
    sNo
    sNil)
    (sRet (gA tupD (zb (gVar 2) (zb (gVar 3) gNil)))))))) [some (.val (.str x)), some (.val (wD (wds x))), none, none] = o → zbP [some (.val (.str x)), none, none, none] = o := fun o h => by
    unfold zbP
    rw [zg e1]
    exact h
  have hX : ∀ o, (xSeq (sIf (gBo (g2 neD (g2 modD (gA lenD (zb (gVar 1) gNil)) (gK (.int 4))) (gK (.int 2))))
    sNo
    sNil)
    (xIf (gBo (g2 neD (g2 modD (gA lenD (zb (gVar 1) gNil)) (gK (.int 4))) (gK (.int 2))))
    (wu "NoText")
    xNo)
    (xSeq (sAsg (hName 2) (g2 ixD (gA (zA 2 F_numbers_behind) rA) (gK (.int 0))))
    (xE (yh 2 zp rA))
    (xSeq (sAsg (hName 3) (gA ym (zb (gLs (qh 1 [1] (gItA wj (zb (gK (.int 2)) (zb (gA lenD (zb (gVar 1) gNil)) (zb (gK (.int 4)) gNil)))) (hName 0) zV lkG)) gNil)))
    (xE (yR 1 [1] (gItA wj (zb (gK (.int 2)) (zb (gA lenD (zb (gVar 1) gNil)) (zb (gK (.int 4)) gNil)))) (hName 0) zV lkG lkX))
    (xIf (jr (gTr (gA (zA 1 F_is_yard) (zb (gA tupD (zb (gVar 2) (zb (gVar 3) gNil))) gNil))))
    (wu "NoText")
    xNo)))) [some (.val (.str x)), some (.val (wD (wds x))), none, none] = some o → o.1 = noT → yE [.str x] = some noT := fun o h ho => by
    unfold yE runX
    show (kh [some (.val (.str x)), none, none, none]).map _ = _
    have : kh [some (.val (.str x)), none, none, none] = some o := by
      unfold kh
      rw [xu rfl e1]
      exact h
    rw [this, Option.map_some, ho]
  have hN : ∀ {g : Option Out}, zbP [some (.val (.str x)), none, none, none] = none → F_read [.str x] = none := fun h => by
    unfold F_read jc
    show (zbP [some (.val (.str x)), none, none, none]).bind _ = _
    rw [h]
    rfl
  by_cases q : ((wds x).length : Int) % 4 = 2
  case neg =>
    rw [decide_eq_false q] at ec
    refine .inr ⟨hN (g := none) (hF none (wW (by rw [zdO ec]; rfl))), hX _ (zau (by rw [ziV ec]; rfl)) rfl, ?_⟩
    rintro ⟨c, ls, e, _⟩
    rw [e] at q
    apply q
    unfold wdY
    rw [List.length_cons, List.length_cons, zaJ]
    omega
  case pos =>
  rw [decide_eq_true q] at ec
  have s1 : sIf (gBo (g2 neD (g2 modD (gA lenD (zb (gVar 1) gNil)) (gK (.int 4))) (gK (.int 2)))) sNo sNil [some (.val (.str x)), some (.val (wD (wds x))), none, none] = some (.nxt [some (.val (.str x)), some (.val (wD (wds x))), none, none]) := by rw [zcg ec]; rfl
  have t1 : xIf (gBo (g2 neD (g2 modD (gA lenD (zb (gVar 1) gNil)) (gK (.int 4))) (gK (.int 2)))) (wu "NoText") xNo [some (.val (.str x)), some (.val (wD (wds x))), none, none] = none := by rw [zka ec]; rfl
  obtain ⟨k, hk⟩ : ∃ k, (wds x).length = 2 + 4 * k := ⟨((wds x).length - 2) / 4, by omega⟩
  obtain ⟨w0, w1, r, hr⟩ : ∃ w0 w1 r, wds x = w0 :: w1 :: r := by
    match h : wds x with
    | [] => rw [h] at hk; simp at hk; omega
    | [w] => rw [h] at hk; simp at hk; omega
    | w0 :: w1 :: r => exact ⟨w0, w1, r, rfl⟩
  have rng := zjy (ws := wds x) (.str x)
  have ea : ∀ x2 x3, rA [some (.val (.str x)), some (.val (wD (wds x))), x2, x3] = some [.str ydW, wD [w0, w1]] := fun x2 x3 => by rw [hr]; exact zhR _ _ _
  have gB : gA (zA 2 F_numbers_behind) rA [some (.val (.str x)), some (.val (wD (wds x))), none, none] = F_numbers_behind [.str ydW, wD [w0, w1]] := by
    unfold gA
    rw [ea, Option.bind_some, qa]
  have xB : xE (yh 2 zp rA) [some (.val (.str x)), some (.val (wD (wds x))), none, none] = (zp [.str ydW, wD [w0, w1]]).map fun c => (c, [some (.val (.str x)), some (.val (wD (wds x))), none, none]) := by
    unfold xE yh
    rw [ea, Option.bind_some, if_pos (show [PyData.str ydW, wD [w0, w1]].length = 2 from rfl)]
  rcases zbJ (hd := ydW) (w0 := w0) (ws := [w1]) (by decide +kernel) (wok w0 (by rw [hr]; simp)) (fun w hw => wl w (by rw [hr]; exact List.mem_cons_of_mem _ (by simp at hw ⊢; exact .inl hw))) (by simp) with ⟨hw0, ds, hds, hb, f1, f2⟩ | ⟨f1, f2, f3⟩
  case inr =>
    rw [f1] at gB
    rw [f2] at xB
    refine .inr ⟨hN (g := none) (hF none ?_), hX _ ((xu t1 s1).trans (zau xB)) rfl, ?_⟩
    · rw [zg s1]
      refine wW ?_
      unfold sAsg g2
      rw [gB]
      rfl
    · rintro ⟨c, ls, e, hc, _⟩
      rw [hr] at e
      unfold wdY at e
      obtain ⟨a1, e⟩ := List.cons.inj e
      obtain ⟨a2, e⟩ := List.cons.inj e
      exact f3 ⟨a1, [c], by rw [a2]; rfl, fun d hd => by rw [List.mem_singleton.mp hd]; exact hc⟩
  case inl =>
  match ds, hds with
  | [d], hds =>
  have hw1 : w1 = tS d := (List.cons.inj hds).1
  have d9 : D9 d := hb d (by simp)
  rw [f1] at gB
  rw [f2] at xB
  have s2 : sAsg (hName 2) (g2 ixD (gA (zA 2 F_numbers_behind) rA) (gK (.int 0))) [some (.val (.str x)), some (.val (wD (wds x))), none, none] = some (.nxt [some (.val (.str x)), some (.val (wD (wds x))), vI d, none]) :=
    jl (zD gB zW (show ixD (.tuple [.int d]) (.int 0) = some (.int d) from rfl)) rfl
  have rg := rng (vI d) none hk (by omega)
  have lst : (jz (2 : Nat) 4 k).length ≤ 16777216 := by unfold jz; rw [List.length_map, List.length_range]; omega
  have d2 : (wds x).drop 2 = r := by rw [hr]; rfl
  rcases za4 wok wl k 2 (by omega) with ⟨ls, h1, h2, h3, h4, h5⟩ | ⟨h1, h2, h3⟩
  case inr =>
    have gC : qh 1 [1] (gItA wj (zb (gK (.int 2)) (zb (gA lenD (zb (gVar 1) gNil)) (zb (gK (.int 4)) gNil)))) (hName 0) zV lkG [some (.val (.str x)), some (.val (wD (wds x))), vI d, none] = none := by
      unfold qh
      rw [rg, Option.bind_some, if_pos (show _ ≤ sizeLine from lst)]
      exact h1
    have xC : xE (yR 1 [1] (gItA wj (zb (gK (.int 2)) (zb (gA lenD (zb (gVar 1) gNil)) (zb (gK (.int 4)) gNil)))) (hName 0) zV lkG lkX) [some (.val (.str x)), some (.val (wD (wds x))), vI d, none] = some (noT, [some (.val (.str x)), some (.val (wD (wds x))), vI d, none]) := by
      unfold xE yR
      rw [rg, Option.bind_some, if_pos (show _ ≤ sizeLine from lst), show xj (hName 0) zV lkG lkX (capS 1 [1] [some (.val (.str x)), some (.val (wD (wds x))), vI d, none]) (jz (2 : Nat) 4 k) = some noT from h2]
      rfl
    refine .inr ⟨hN (g := none) (hF none ?_), hX _ ((xu t1 s1).trans ((xu xB s2).trans (zau xC))) rfl, ?_⟩
    · rw [zg s1, zg s2]
      refine wW ?_
      generalize qh 1 [1] (gItA wj (zb (gK (.int 2)) (zb (gA lenD (zb (gVar 1) gNil)) (zb (gK (.int 4)) gNil)))) (hName 0) zV lkG = G at gC
      unfold sAsg gA zb gLs
      rw [gC]
      rfl
    · rintro ⟨c, ls, e, hc, hls, _⟩
      rw [hr] at e
      unfold wdY at e
      obtain ⟨a1, e⟩ := List.cons.inj e
      obtain ⟨a2, e⟩ := List.cons.inj e
      exact h3 ⟨ls, by rw [d2, e], hls⟩
  case inl =>
  have ew : wds x = wdY d ls := by
    rw [hr, hw0, hw1]
    unfold wdY
    rw [← h1, d2]
  have ll : ls.length ≤ 1000 := by
    have a := zdb ls h2
    have b := zaJ ls
    have e1 : ((wds x).map (·.length)).sum = ydW.length + ((tS d).length + ((ls.flatMap wdL).map (·.length)).sum) := by rw [ew]; rfl
    have e2 : (wds x).length = (ls.flatMap wdL).length + 1 + 1 := by rw [ew]; rfl
    omega
  have s3 : sAsg (hName 3) (gA ym (zb (gLs (qh 1 [1] (gItA wj (zb (gK (.int 2)) (zb (gA lenD (zb (gVar 1) gNil)) (zb (gK (.int 4)) gNil)))) (hName 0) zV lkG)) gNil)) [some (.val (.str x)), some (.val (wD (wds x))), vI d, none] = some (.nxt [some (.val (.str x)), some (.val (wD (wds x))), vI d, some (.val (.tuple (ls.map zu)))]) :=
    jl (qw (zm (wY (zaj rg lst h4)) zB) rfl) rfl
  have x3 : xE (yR 1 [1] (gItA wj (zb (gK (.int 2)) (zb (gA lenD (zb (gVar 1) gNil)) (zb (gK (.int 4)) gNil)))) (hName 0) zV lkG lkX) [some (.val (.str x)), some (.val (wD (wds x))), vI d, none] = none := by
    unfold xE yR
    rw [rg, Option.bind_some, if_pos (show _ ≤ sizeLine from lst), show xj (hName 0) zV lkG lkX (capS 1 [1] [some (.val (.str x)), some (.val (wD (wds x))), vI d, none]) (jz (2 : Nat) 4 k) = none from h5]
    rfl
  have et : gA tupD (zb (gVar 2) (zb (gVar 3) gNil)) [some (.val (.str x)), some (.val (wD (wds x))), vI d, some (.val (.tuple (ls.map zu)))] = some (zM d ls) :=
    qw (zm (x := .int d) rfl (zm (x := .tuple (ls.map zu)) rfl zB)) rfl
  have ey : jr (gTr (gA (zA 1 F_is_yard) (zb (gA tupD (zb (gVar 2) (zb (gVar 3) gNil))) gNil))) [some (.val (.str x)), some (.val (wD (wds x))), vI d, some (.val (.tuple (ls.map zu)))] = some (!isYd (zM d ls)) :=
    zf1 (zjb (qw (zm et zB) (by rw [xK]; exact zdx (zcA ll))))
  cases hy : isYd (zM d ls) with
  | true =>
    rw [hy] at ey
    refine .inl ⟨d, ls, ew, d9, h2, ll, hy, ?_⟩
    unfold F_read
    refine jo ?_
    refine hF _ ?_
    rw [zg s1, zg s2, zg s3, zg (ρ' := [some (.val (.str x)), some (.val (wD (wds x))), vI d, some (.val (.tuple (ls.map zu)))]) (by rw [zcg ey]; rfl)]
    exact qg et
  | false =>
    rw [hy] at ey
    refine .inr ⟨hN (g := none) (hF none ?_), hX _ ((xu t1 s1).trans ((xu xB s2).trans ((xu x3 s3).trans (ziV ey)))) rfl, ?_⟩
    · rw [zg s1, zg s2, zg s3]
      exact wW (by rw [zdO ey]; rfl)
    · rintro ⟨c, ms, e, hc, hls, hy2⟩
      rw [ew] at e
      obtain ⟨rfl, rfl⟩ := zek d9 hc h2 hls e
      rw [hy] at hy2
      cases hy2
end L2.Y
namespace L2.Y
open PySem PySem.Builtin.Str
theorem zft {x : Str} {c : Int} {ls : List (Int × Int × Int)} (h : F_read [.str x] = some (zM c ls)) : F_law_found [.str x] = some (zM c ls) := by
  unfold F_law_found
  refine jo ?_
  show qN [some (.val (.str x)), none, none, none, none] = _
  have e1 : sAsg (hName 1) (gA (zA 1 F_read) (zb (gVar 0) gNil)) [some (.val (.str x)), none, none, none, none] = some (.nxt [some (.val (.str x)), some (.val (zM c ls)), none, none, none]) :=
    jl (qw (zm (x := .str x) rfl zB) (by rw [xK]; exact h)) rfl
  unfold qN
  rw [zg (ρ' := [some (.val (.str x)), some (.val (zM c ls)), none, none, none]) (by unfold sTry; rw [e1])]
  exact qg (zD (wY (zce (zm (x := zM c ls) rfl (zm (qw zB rfl) zB)) (by simp))) (qw (zm (zD (x := zM c ls) rfl zW (show isND (zM c ls) .none = some (.bool false) from rfl)) zB) (show intOfD [.bool false] = some (.int 0) from rfl)) rfl)
theorem zgf {x : Str} (h : F_read [.str x] = none) (hx : yE [.str x] = some noT) : F_law_found [.str x] = some .none := by
  unfold F_law_found
  refine jo ?_
  show qN [some (.val (.str x)), none, none, none, none] = _
  have ea : zb (gVar 0) gNil [some (.val (.str x)), none, none, none, none] = some [.str x] := zm (x := .str x) rfl zB
  have e1 : sAsg (hName 1) (gA (zA 1 F_read) (zb (gVar 0) gNil)) [some (.val (.str x)), none, none, none, none] = none := by
    unfold sAsg gA
    rw [ea, Option.bind_some, xK, h]
    rfl
  have e2 : zgY 1 yE (zb (gVar 0) gNil) [some (.val (.str x)), none, none, none, none] = some (noT, [some (.val (.str x)), none, none, none, none]) := by
    unfold zgY
    rw [ea, Option.bind_some, if_pos (show [PyData.str x].length = 1 from rfl), hx]
    rfl
  unfold qN sSeq sTry
  rw [e1, e2]
  rfl
noncomputable def wt (vs : List Str) : Nat := (vs.map (·.length)).sum + vs.length
theorem jP (a b : List Str) : wt (a ++ b) = wt a + wt b := by unfold wt; rw [List.map_append, List.sum_append, List.length_append]; omega
theorem ze3 {a b : List Str} (h : a.Sublist b) : wt a ≤ wt b := by
  induction h with
  | slnil => exact Nat.le_refl _
  | cons x h ih => unfold wt at ih ⊢; rw [List.map_cons, List.sum_cons, List.length_cons]; omega
  | cons_cons x h ih => unfold wt at ih ⊢; rw [List.map_cons, List.sum_cons, List.length_cons, List.map_cons, List.sum_cons, List.length_cons]; omega
theorem ziT (ws : List Str) {a b : Nat} (h : a ≤ b) : wt (ws.take a) + wt (ws.drop b) ≤ wt ws := by
  have e : wt ws = wt (ws.take a) + wt (ws.drop a) := by rw [← jP, List.take_append_drop]
  have : wt (ws.drop b) ≤ wt (ws.drop a) := ze3 (by
    rw [show b = a + (b - a) by omega, ← List.drop_drop]
    exact List.drop_sublist _ _)
  omega
noncomputable def OkW (vs : List Str) : Prop := ∀ w ∈ vs, PyData.strOk w = true
theorem xO {a b : List Str} (ha : OkW a) (hb : OkW b) : OkW (a ++ b) := fun w hw => (List.mem_append.mp hw).elim (ha w) (hb w)
theorem qM {a b : List Str} (h : a.Sublist b) (hb : OkW b) : OkW a := fun w hw => hb w (h.subset hw)
theorem zhr (ws : List Str) (lo hi : Option Int) : ∃ vs, slD (wD ws) lo hi = some (wD vs) ∧ vs.Sublist ws := by
  refine ⟨(ws.drop (HT.sIx (ws.map PyData.str).length 0 lo)).take (HT.sIx (ws.map PyData.str).length (ws.map PyData.str).length hi - HT.sIx (ws.map PyData.str).length 0 lo), ?_, (List.take_sublist _ _).trans (List.drop_sublist _ _)⟩
  show some (PyData.list (cutD (ws.map PyData.str) lo hi)) = _
  unfold cutD wD
  rw [List.map_take, List.map_drop]
theorem yO {a b : List Str} (h : wt a + wt b ≤ 16777216) : addD (wD a) (wD b) = some (wD (a ++ b)) := by
  show (if (a.map PyData.str).length + (b.map PyData.str).length ≤ sizeLine then _ else none) = _
  rw [if_pos (show _ ≤ sizeLine by show _ ≤ 16777216; unfold wt at h; rw [List.length_map, List.length_map]; omega), ← List.map_append]
  rfl
theorem zaz {vs : List Str} (h : wt vs ≤ 16777216) : vH (.str spS) (wD vs) = some (.str (Str.join spS vs)) := by
  show ((vs.map PyData.str).mapM strQ).bind _ = _
  rw [zc9, Option.bind_some, if_pos (by unfold wt at h; rw [zfC]; omega)]
theorem zir (vs : List Str) : (Str.join spS vs).length ≤ wt vs := by
  cases vs with
  | nil => exact Nat.zero_le _
  | cons v vs => have := zbI (ws := v :: vs) (by simp); unfold wt; omega
noncomputable def Txt9 (n : Nat) (d : D) : Prop := ∃ y, d = .str y ∧ PyData.strOk y = true ∧ y.length ≤ n
theorem vm {vs : List Str} {n : Nat} (ho : OkW vs) (h : wt vs ≤ n) : Txt9 n (.str (Str.join spS vs)) := ⟨_, rfl, zfB ho, Nat.le_trans (zir vs) h⟩
theorem yX {x : Str} (h : PyData.strOk x = true) (l u : Option Int) : PyData.strOk (Txt.slice x l u) = true := by
  unfold Txt.slice
  split
  · exact h
  · unfold PyData.strOk at h ⊢
    rw [Array.all_eq_true_iff_forall_mem] at h ⊢
    intro c hc
    have hc' : c ∈ (strSliceIndices l u 1 x.length).filterMap (x.cps[·]?) := by simpa using hc
    obtain ⟨i, _, hi⟩ := List.mem_filterMap.mp hc'
    exact h c (Array.mem_of_getElem? hi)
theorem zde {x : Str} (h : x.length ≤ 16777216) (l u : Option Int) : slS (.str x) l u = some (.str (Txt.slice x l u)) := if_pos h
theorem zal {ρ : Env'} {ga : Env' → Option D} {gl gh : GO} {d r : D} {lo hi : Option Int} (h1 : ga ρ = some d) (h2 : gl ρ = some lo) (h3 : gh ρ = some hi) (h4 : slS d lo hi = some r) : gSlS ga gl gh ρ = some r := by
  unfold gSlS
  rw [h1, Option.bind_some, h2, Option.bind_some, h3, Option.bind_some, h4]
noncomputable def sgS : Str := Str.ofString " 0123456-_y\n\t"
noncomputable def smS : Str := Str.ofString "yard link 0 1 2 3 4 5 6 00 01 -1 a"
theorem ziy {j : Int} (h0 : 0 ≤ j) (h1 : j < 13) : ∃ y, ixD (.str sgS) (.int j) = some (.str y) ∧ PyData.strOk y = true ∧ y.length = 1 := by
  have : j = 0 ∨ j = 1 ∨ j = 2 ∨ j = 3 ∨ j = 4 ∨ j = 5 ∨ j = 6 ∨ j = 7 ∨ j = 8 ∨ j = 9 ∨ j = 10 ∨ j = 11 ∨ j = 12 := by omega
  have hs : sgS.length ≤ 16777216 := by decide +kernel
  have key : ∀ (j : Int) (c : Nat), atI sgS.cps.toList j = some c → c < 1114112 → ∃ y, ixD (.str sgS) (.int j) = some (.str y) ∧ PyData.strOk y = true ∧ y.length = 1 := fun j c h hc => by
    refine ⟨⟨#[c]⟩, ?_, ?_, rfl⟩
    · show (if sgS.length ≤ sizeLine then (atI sgS.cps.toList j).map _ else none) = _
      rw [if_pos (show _ ≤ sizeLine from hs), h]
      rfl
    · show (#[c] : Array Nat).all _ = true
      simp
      omega
  rcases this with rfl | rfl | rfl | rfl | rfl | rfl | rfl | rfl | rfl | rfl | rfl | rfl | rfl
  · exact key 0 32 (by decide +kernel) (by decide)
  · exact key 1 48 (by decide +kernel) (by decide)
  · exact key 2 49 (by decide +kernel) (by decide)
  · exact key 3 50 (by decide +kernel) (by decide)
  · exact key 4 51 (by decide +kernel) (by decide)
  · exact key 5 52 (by decide +kernel) (by decide)
  · exact key 6 53 (by decide +kernel) (by decide)
  · exact key 7 54 (by decide +kernel) (by decide)
  · exact key 8 45 (by decide +kernel) (by decide)
  · exact key 9 95 (by decide +kernel) (by decide)
  · exact key 10 121 (by decide +kernel) (by decide)
  · exact key 11 10 (by decide +kernel) (by decide)
  · exact key 12 9 (by decide +kernel) (by decide)
theorem zdf : (wds smS).length = 13 := by decide +kernel
theorem ziD {j : Int} (h0 : 0 ≤ j) (h1 : j < 13) : ∃ y, ixD (wD (wds smS)) (.int j) = some (.str y) ∧ PyData.strOk y = true ∧ y.length ≤ 34 := by
  have hj : j.toNat < (wds smS).length := by rw [zdf]; omega
  have hm : (wds smS)[j.toNat]? = some (wds smS)[j.toNat] := List.getElem?_eq_getElem hj
  have mem : (wds smS)[j.toNat] ∈ wds smS := List.getElem_mem hj
  refine ⟨(wds smS)[j.toNat], yv h0 (by rw [List.getElem?_map, hm]; rfl), zfi (x := smS) (by decide +kernel) _ mem, ?_⟩
  have a := zcd mem
  have b := zaP smS
  rw [zdf, show smS.length = 34 by decide +kernel] at b
  omega
theorem zdL {x : Str} (hx : PyData.strOk x = true) (hl : x.length ≤ 10000) (n : Int) (hn : 0 ≤ n) : ∃ d, F_law_changed [.str x, .int n] = some d ∧ Txt9 (3 * x.length + 43) d := by
  have wok : OkW (wds x) := zfi hx
  have wln : wt (wds x) = x.length + 1 := zaP x
  have W1 : 0 < (wds x).length := List.length_pos_iff.mpr (zeM x)
  obtain ⟨W, hW⟩ : ∃ W : Int, W = (wds x).length := ⟨_, rfl⟩
  obtain ⟨at', hat⟩ : ∃ a : Nat, (a : Int) = n / 8 % W := ⟨(n / 8 % W).toNat, by have := Int.emod_nonneg (n / 8) (b := W) (by omega); omega⟩
  obtain ⟨p, hp⟩ : ∃ a : Nat, (a : Int) = n / 8 % ((x.length : Int) + 1) := ⟨(n / 8 % ((x.length : Int) + 1)).toNat, by have := Int.emod_nonneg (n / 8) (b := (x.length : Int) + 1) (by omega); omega⟩
  have j0 := Int.emod_nonneg (n / 7) (b := 13) (by omega)
  have j1 := Int.emod_lt_of_pos (n / 7) (b := 13) (by omega)
  have k0 := Int.emod_nonneg n (b := 8) (by omega)
  have k1 := Int.emod_lt_of_pos n (b := 8) (by omega)
  let ρ : Env' := [some (.val (.str x)), vI n, some (.val (wD (wds x))), vI at', vI p, vI (n % 8), none, none, none]
  have run : ∀ {d : D} {o : Out}, o = .ret d → (sSeq (sIf (gBo (g2 eqD (gVar 5) (gK (.int 0))))
    (sRet (g2 addD (gSlS (gVar 0) zy (zl (gVar 4))) (gSlS (gVar 0) (zl (g2 addD (gVar 4) (gK (.int 1)))) zy)))
    sNil)
    (sSeq (sIf (gBo (g2 ltD (gVar 5) (gK (.int 3))))
    (sSeq (sAsg (hName 6) (g2 ixD (gK (.str " 0123456-_y\n\t")) (g2 modD (g2 vo (gVar 1) (gK (.int 7))) (gK (.int 13)))))
    (sRet (g2 addD (g2 addD (gSlS (gVar 0) zy (zl (gVar 4))) (gVar 6)) (gSlS (gVar 0) (zl (g2 subD (g2 addD (gVar 4) (gVar 5)) (gK (.int 1)))) zy))))
    sNil)
    (sSeq (sIf (gBo (g2 eqD (gVar 5) (gK (.int 3))))
    (sRet (g2 vH (gK (.str " ")) (g2 addD (gSl (gVar 2) zy (zl (gVar 3))) (gSl (gVar 2) (zl (g2 addD (gVar 3) (gK (.int 1)))) zy))))
    sNil)
    (sSeq (sIf (gBo (g2 eqD (gVar 5) (gK (.int 4))))
    (sRet (g2 vH (gK (.str " ")) (g2 addD (g2 addD (gSl (gVar 2) zy (zl (gVar 3))) (gSl (gVar 2) (zl (gVar 3)) (zl (g2 addD (gVar 3) (gK (.int 1)))))) (gSl (gVar 2) (zl (gVar 3)) zy))))
    sNil)
    (sSeq (sIf (gBo (g2 eqD (gVar 5) (gK (.int 5))))
    (sSeq (sAsg (hName 7) (g2 addD (gSl (gVar 2) (zl (g2 addD (gVar 3) (gK (.int 1)))) (zl (g2 addD (gVar 3) (gK (.int 2))))) (gSl (gVar 2) (zl (gVar 3)) (zl (g2 addD (gVar 3) (gK (.int 1)))))))
    (sRet (g2 vH (gK (.str " ")) (g2 addD (g2 addD (gSl (gVar 2) zy (zl (gVar 3))) (gVar 7)) (gSl (gVar 2) (zl (g2 addD (gVar 3) (gK (.int 2)))) zy)))))
    sNil)
    (sSeq (sAsg (hName 8) (gLs (splF " " (gK (.str "yard link 0 1 2 3 4 5 6 00 01 -1 a")))))
    (sRet (g2 vH (gK (.str " ")) (g2 addD (g2 addD (gSl (gVar 2) zy (zl (gVar 3))) (gLs (gLst (zb (g2 ixD (gVar 8) (g2 modD (g2 vo (gVar 1) (gK (.int 7))) (gK (.int 13)))) gNil)))) (gSl (gVar 2) (zl (g2 addD (gVar 3) (gK (.int 1)))) zy)))))))))) ρ = some o → F_law_changed [.str x, .int n] = some d := fun {d o} ho h => by
    subst ho
    unfold F_law_changed
    refine jo ?_
    show xo [some (.val (.str x)), vI n, none, none, none, none, none, none, none] = _
    unfold xo
    refine (zg (ρ' := [some (.val (.str x)), vI n, some (.val (wD (wds x))), none, none, none, none, none, none]) (jl (wY (zeL (x := x) rfl (by omega))) rfl)).trans ?_
    rw [zg (ρ' := [some (.val (.str x)), vI n, some (.val (wD (wds x))), vI at', none, none, none, none, none]) (jl (zD (zD (x := .int n) rfl zW (xh (by omega) (by omega))) (qw (zm (x := wD (wds x)) rfl zB) (zes _)) (by rw [zP (by omega), hat, hW])) rfl),
      zg (ρ' := [some (.val (.str x)), vI n, some (.val (wD (wds x))), vI at', vI p, none, none, none, none]) (jl (zD (zD (x := .int n) rfl zW (xh (by omega) (by omega))) (zD (qw (zm (x := .str x) rfl zB) (len_str (by omega))) zW (zI _ _)) (by rw [zP (by omega), hp])) rfl),
      zg (ρ' := ρ) (jl (zD (x := .int n) rfl zW (zP (by omega))) rfl)]
    exact h
  have cE : ∀ (i : Int) (ρ' : Env'), gVar 5 ρ' = some (.int (n % 8)) → gBo (g2 eqD (gVar 5) (gK (.int i))) ρ' = some (decide (n % 8 = i)) := fun i ρ' h => xH (zD h zW (zaD _ _))
  have cL : gBo (g2 ltD (gVar 5) (gK (.int 3))) ρ = some (decide (n % 8 < 3)) := xH (zD (x := .int (n % 8)) rfl zW (wz _ _))
  have skip : ∀ {c : Env' → Option Bool} {A B : GS}, c ρ = some false → sSeq (sIf c A sNil) B ρ = B ρ := fun h => zg (by rw [zcg h]; rfl)
  have take : ∀ {c : Env' → Option Bool} {A B : GS} {d : D}, c ρ = some true → A ρ = some (.ret d) → sSeq (sIf c A sNil) B ρ = some (.ret d) := fun h h2 => qA (by rw [zdO h]; exact h2)
  have lx : x.length ≤ 16777216 := by omega
  have sl : ∀ l u, (Txt.slice x l u).length ≤ x.length := Txt.slice_le x
  by_cases q0 : n % 8 = 0
  · refine ⟨_, run rfl (take ((cE 0 ρ rfl).trans (by rw [decide_eq_true q0])) (qg (zD (zal (d := .str x) rfl rfl (zT (i := p) rfl) (zde lx _ _)) (zal (d := .str x) rfl (zT (zD (x := .int p) rfl zW (zI _ _))) rfl (zde lx _ _)) (add_str (by have := sl none (some p); have := sl (some ((p : Int) + 1)) none; omega))))), _, rfl, qI (yX hx _ _) (yX hx _ _), ?_⟩
    rw [strLen_append]
    have := sl none (some p); have := sl (some ((p : Int) + 1)) none
    omega
  have c0 : gBo (g2 eqD (gVar 5) (gK (.int 0))) ρ = some false := (cE 0 ρ rfl).trans (by rw [decide_eq_false q0])
  by_cases q1 : n % 8 < 3
  · obtain ⟨y, ey, oy, ly⟩ := ziy j0 j1
    have s1 := sl none (some p)
    have s2 := sl (some ((p : Int) + n % 8 - 1)) none
    refine ⟨_, run rfl ((skip c0).trans (take (cL.trans (by rw [decide_eq_true q1])) ?_)), (Txt.slice x none (some (p : Int)) ++ y) ++ Txt.slice x (some ((p : Int) + n % 8 - 1)) none, rfl, qI (qI (yX hx _ _) oy) (yX hx _ _), ?_⟩
    · refine (zg (ρ' := [some (.val (.str x)), vI n, some (.val (wD (wds x))), vI at', vI p, vI (n % 8), some (.val (.str y)), none, none]) (jl (zD zW (zD (zD (x := .int n) rfl zW (xh (by omega) (by omega))) zW (zP (by omega))) ey) rfl)).trans ?_
      exact qg (zD (zD (zal (d := .str x) rfl rfl (zT (i := p) rfl) (zde lx _ _)) (y := .str y) rfl (add_str (by omega))) (zal (d := .str x) rfl (zT (zD (zD (x := .int p) rfl (y := .int (n % 8)) rfl (zI _ _)) zW (zdo _ _))) rfl (zde lx _ _)) (add_str (by rw [strLen_append]; omega)))
    · rw [strLen_append, strLen_append]
      omega
  have c1 : gBo (g2 ltD (gVar 5) (gK (.int 3))) ρ = some false := cL.trans (by rw [decide_eq_false q1])
  have sT : ∀ ρ' : Env', gVar 2 ρ' = some (wD (wds x)) → gVar 3 ρ' = some (.int at') → gSl (gVar 2) zy (zl (gVar 3)) ρ' = some (wD ((wds x).take at')) := fun ρ' h2 h3 => wR h2 rfl (zT h3) (zjt _ _)
  have sD : ∀ (i : Nat) (ρ' : Env'), gVar 2 ρ' = some (wD (wds x)) → gVar 3 ρ' = some (.int at') → gSl (gVar 2) (zl (g2 addD (gVar 3) (gK (.int (i : Int))))) zy ρ' = some (wD ((wds x).drop (at' + i))) := fun i ρ' h2 h3 => wR h2 (zT (zD h3 zW (zI _ _))) rfl (by rw [← zeS]; congr 1)
  have tT : (wds x).take at' |>.Sublist (wds x) := List.take_sublist _ _
  have tD : ∀ i, ((wds x).drop i).Sublist (wds x) := fun i => List.drop_sublist _ _
  have two : ∀ i, wt ((wds x).take at') + wt ((wds x).drop (at' + i)) ≤ x.length + 1 := fun i => by rw [← wln]; exact ziT _ (by omega)
  by_cases q3 : n % 8 = 3
  · have t := two 1
    refine ⟨_, run rfl ((skip c0).trans ((skip c1).trans (take ((cE 3 ρ rfl).trans (by rw [decide_eq_true q3])) (qg (zD zW (zD (sT ρ rfl rfl) (sD 1 ρ rfl rfl) (yO (by omega))) (zaz (by rw [jP]; omega))))))), vm (xO (qM tT wok) (qM (tD _) wok)) (by rw [jP]; omega)⟩
  have c3 : gBo (g2 eqD (gVar 5) (gK (.int 3))) ρ = some false := (cE 3 ρ rfl).trans (by rw [decide_eq_false q3])
  obtain ⟨v1, ev1, sv1⟩ := zhr (wds x) (some (at' : Int)) (some ((at' : Int) + 1))
  have w1 := ze3 sv1
  by_cases q4 : n % 8 = 4
  · have t : wt ((wds x).take at') + wt ((wds x).drop at') ≤ x.length + 1 := two 0
    have e0 : gSl (gVar 2) (zl (gVar 3)) zy ρ = some (wD ((wds x).drop at')) := wR (d := wD (wds x)) rfl (zT (i := at') rfl) rfl (zeS _ _)
    refine ⟨_, run rfl ((skip c0).trans ((skip c1).trans ((skip c3).trans (take ((cE 4 ρ rfl).trans (by rw [decide_eq_true q4])) (qg (zD zW (zD (zD (sT ρ rfl rfl) (wR (d := wD (wds x)) rfl (zT (i := at') rfl) (zT (zD (x := .int at') rfl zW (zI _ _))) ev1) (yO (by omega))) e0 (yO (by rw [jP]; omega))) (zaz (by rw [jP, jP]; omega)))))))), vm (xO (xO (qM tT wok) (qM sv1 wok)) (qM (tD _) wok)) (by rw [jP, jP]; omega)⟩
  have c4 : gBo (g2 eqD (gVar 5) (gK (.int 4))) ρ = some false := (cE 4 ρ rfl).trans (by rw [decide_eq_false q4])
  by_cases q5 : n % 8 = 5
  · have t := two 2
    obtain ⟨v2, ev2, sv2⟩ := zhr (wds x) (some ((at' : Int) + 1)) (some ((at' : Int) + 2))
    have w2 := ze3 sv2
    refine ⟨_, run rfl ((skip c0).trans ((skip c1).trans ((skip c3).trans ((skip c4).trans (take ((cE 5 ρ rfl).trans (by rw [decide_eq_true q5])) ?_))))), vm (vs := ((wds x).take at' ++ (v2 ++ v1)) ++ (wds x).drop (at' + 2)) (xO (xO (qM tT wok) (xO (qM sv2 wok) (qM sv1 wok))) (qM (tD _) wok)) (by rw [jP, jP, jP]; omega)⟩
    rw [zg (ρ' := [some (.val (.str x)), vI n, some (.val (wD (wds x))), vI at', vI p, vI (n % 8), none, some (.val (wD (v2 ++ v1))), none]) (jl (zD (wR (d := wD (wds x)) rfl (zT (zD (x := .int at') rfl zW (zI _ _))) (zT (zD (x := .int at') rfl zW (zI _ _))) ev2) (wR (d := wD (wds x)) rfl (zT (i := at') rfl) (zT (zD (x := .int at') rfl zW (zI _ _))) ev1) (yO (by omega))) rfl)]
    exact qg (zD zW (zD (zD (sT _ rfl rfl) (y := wD (v2 ++ v1)) rfl (yO (by rw [jP]; omega))) (sD 2 _ rfl rfl) (yO (by rw [jP, jP]; omega))) (zaz (by rw [jP, jP, jP]; omega)))
  have c5 : gBo (g2 eqD (gVar 5) (gK (.int 5))) ρ = some false := (cE 5 ρ rfl).trans (by rw [decide_eq_false q5])
  obtain ⟨y, ey, oy, ly⟩ := ziD j0 j1
  have t := two 1
  have wy : wt [y] ≤ 35 := by show y.length + 0 + 1 ≤ 35; omega
  refine ⟨_, run rfl ((skip c0).trans ((skip c1).trans ((skip c3).trans ((skip c4).trans ((skip c5).trans ?_))))), vm (vs := ((wds x).take at' ++ [y]) ++ (wds x).drop (at' + 1)) (xO (xO (qM tT wok) (fun w hw => by rw [List.mem_singleton.mp hw]; exact oy)) (qM (tD _) wok)) (by rw [jP, jP]; omega)⟩
  refine (zg (ρ' := [some (.val (.str x)), vI n, some (.val (wD (wds x))), vI at', vI p, vI (n % 8), none, none, some (.val (wD (wds smS)))]) (jl (wY (zeL (x := smS) rfl (by decide +kernel))) rfl)).trans ?_
  exact qg (zD zW (zD (zD (sT _ rfl rfl) (wY (zce (zm (zD (x := wD (wds smS)) rfl (zD (zD (x := .int n) rfl zW (xh (by omega) (by omega))) zW (zP (by omega))) ey) zB) (by simp))) (show addD (wD _) (.list [.str y]) = _ from yO (b := [y]) (by omega))) (sD 1 _ rfl rfl) (yO (by rw [jP]; omega))) (zaz (by rw [jP, jP]; omega)))
end L2.Y
namespace L2.Y
open PySem
theorem zeC : ∀ (m : Nat) (ks : List Int), (∀ i : Nat, i < m → (i : Int) ∈ ks) → m ≤ ks.length
  | 0, _, _ => Nat.zero_le _
  | m + 1, ks, h => by
    have hm := h m (by omega)
    have := zeC m (ks.erase (m : Int)) fun i hi => (List.mem_erase_of_ne (by omega)).mpr (h i (by omega))
    rw [List.length_erase_of_mem hm] at this
    have : 0 < ks.length := List.length_pos_of_mem hm
    omega
structure Rch (c : Int) (ks : List Int) : Prop where
  nd : ks.Nodup
  rg : ∀ k ∈ ks, 0 ≤ k ∧ k ≤ c
  z : 0 ∈ ks
variable {c : Int} {ks : List Int} {l : Int × Int × Int}
theorem Rch.more (h : Rch c ks) {k : Int} (hk : k ∉ ks) (h0 : 0 ≤ k) (h1 : k ≤ c) : Rch c (ks ++ [k]) := by
  refine ⟨?_, ?_, List.mem_append_left _ h.z⟩
  · rw [List.nodup_append]
    refine ⟨h.nd, by simp, fun a ha b hb => ?_⟩
    rw [List.mem_singleton.mp hb]
    rintro rfl
    exact hk ha
  · intro x hx
    rcases List.mem_append.mp hx with hx | hx
    · exact h.rg x hx
    · rw [List.mem_singleton.mp hx]; exact ⟨h0, h1⟩
theorem zeB (h : Rch c ks) (hl : 0 ≤ l.1 ∧ l.1 < l.2.1 ∧ l.2.1 ≤ c) : Rch c (jH ks l) := by
  unfold jH
  split
  · split
    · exact h
    · rename_i q; exact h.more q (by omega) hl.2.2
  · rename_i q
    split
    · exact h.more q hl.1 (by omega)
    · exact h
theorem zcF : ks.length ≤ (jH ks l).length := by
  unfold jH
  split
  · split <;> simp
  · split <;> simp
theorem zg1 (h : (jH ks l).length = ks.length) : jH ks l = ks ∧ (l.1 ∈ ks ↔ l.2.1 ∈ ks) := by
  unfold jH at h ⊢
  by_cases p : l.1 ∈ ks <;> by_cases q : l.2.1 ∈ ks <;> simp [p, q] at h ⊢
theorem zcQ : ∀ (ls : List (Int × Int × Int)) {ks : List Int}, Rch c ks → (∀ l ∈ ls, 0 ≤ l.1 ∧ l.1 < l.2.1 ∧ l.2.1 ≤ c) → Rch c (ls.foldl jH ks)
  | [], _, h, _ => h
  | l :: ls, _, h, hl => zcQ ls (zeB h (hl l List.mem_cons_self)) fun x hx => hl x (List.mem_cons_of_mem _ hx)
theorem zaN : ∀ (ls : List (Int × Int × Int)) (ks : List Int), ks.length ≤ (ls.foldl jH ks).length
  | [], _ => Nat.le_refl _
  | l :: ls, ks => Nat.le_trans (zcF (l := l)) (zaN ls (jH ks l))
theorem zd9 : ∀ (ls : List (Int × Int × Int)) (ks : List Int), (ls.foldl jH ks).length = ks.length → ∀ l ∈ ls, (l.1 ∈ ks ↔ l.2.1 ∈ ks)
  | [], _, _, l, hl => absurd hl (by simp)
  | m :: ls, ks, h, l, hl => by
    rw [List.foldl_cons] at h
    have a := zaN ls (jH ks m)
    have b := zcF (ks := ks) (l := m)
    obtain ⟨e, q⟩ := zg1 (ks := ks) (l := m) (by omega)
    rcases List.mem_cons.mp hl with rfl | hl
    · exact q
    · rw [e] at h
      exact zd9 ls ks h l hl
theorem zbC {ls : List (Int × Int × Int)} (hc : 0 ≤ c) (hl : ∀ l ∈ ls, 0 ≤ l.1 ∧ l.1 < l.2.1 ∧ l.2.1 ≤ c) (conn : ∀ S : Int → Prop, S 0 → (∀ l ∈ ls, S l.1 ↔ S l.2.1) → ∀ p, 0 ≤ p → p ≤ c → S p) :
    ∀ (n : Nat) (ks : List Int), Rch c ks → ((ks.length : Int) + n ≤ (jw ls n ks).length ∨ c + 1 ≤ (jw ls n ks).length) ∧ Rch c (jw ls n ks)
  | 0, ks, h => ⟨.inl (by show (ks.length : Int) + 0 ≤ ks.length; omega), h⟩
  | n + 1, ks, h => by
    have ih := zbC hc hl conn n (ls.foldl jH ks) (zcQ ls h hl)
    refine ⟨?_, ih.2⟩
    show ((ks.length : Int) + (n + 1 : Nat) ≤ (jw ls n (ls.foldl jH ks)).length ∨ _)
    have g := zaN ls ks
    by_cases e : (ls.foldl jH ks).length = ks.length
    · right
      have all := conn (· ∈ ks) h.z (zd9 ls ks e)
      have m := zeC (c.toNat + 1) ks fun i hi => all i (by omega) (by omega)
      have : ∀ (n : Nat) (ks : List Int), ks.length ≤ (jw ls n ks).length := fun n => by
        induction n with
        | zero => exact fun ks => Nat.le_refl _
        | succ n ih => exact fun ks => Nat.le_trans (zaN ls ks) (ih _)
      have t := this n (ls.foldl jH ks)
      show c + 1 ≤ ((jw ls n (ls.foldl jH ks)).length : Int)
      omega
    · rcases ih.1 with q | q
      · left; omega
      · exact .inr q
theorem zff {most wide : Int} {ls : List (Int × Int × Int)} (g : GoodYard most wide c ls) (hm : most ≤ 5) (hw : wide ≤ 4) : isYd (zM c ls) = true := by
  have c1 := g.c1
  have c2 := g.c2
  rw [yA]
  have h1 : inI 1 5 (.int c) = true := by rw [inI, decide_eq_true (show 1 ≤ c by omega), decide_eq_true (show c ≤ 5 by omega)]; rfl
  have h2 : (ls.map zu).all (isLk c) = true := by
    rw [List.all_eq_true]
    intro d hd
    obtain ⟨l, hl, rfl⟩ := List.mem_map.mp hd
    obtain ⟨a, b, e, f, k⟩ := g.rng l hl
    show (inI 0 c (.int l.1) && inI 0 c (.int l.2.1) && decide (l.1 < l.2.1) && inI 1 4 (.int l.2.2)) = true
    rw [inI, inI, inI, decide_eq_true a, decide_eq_true (show l.1 ≤ c by omega), decide_eq_true (show 0 ≤ l.2.1 by omega), decide_eq_true e, decide_eq_true b, decide_eq_true f, decide_eq_true (show l.2.2 ≤ 4 by omega)]
    rfl
  have h3 : adjB ls = true := by
    rw [zcj]
    intro k a b ha hb
    obtain ⟨ka, rfl⟩ := List.getElem?_eq_some_iff.mp ha
    obtain ⟨kb, rfl⟩ := List.getElem?_eq_some_iff.mp hb
    have r := List.pairwise_iff_getElem.mp g.ris k (k + 1) ka kb (by omega)
    show (if (ls[k]).1 = (ls[k + 1]).1 then (if (ls[k]).2.1 = (ls[k + 1]).2.1 then false else decide ((ls[k]).2.1 < (ls[k + 1]).2.1)) else decide ((ls[k]).1 < (ls[k + 1]).1)) = true
    rcases r with r | ⟨r, s⟩
    · rw [if_neg (by omega), decide_eq_true r]
    · rw [if_pos r, if_neg (by omega), decide_eq_true s]
  have h4 : ((jw ls c.toNat [0]).length : Int) = c + 1 := by
    have r := zbC (c := c) (by omega) (fun l hl => ⟨(g.rng l hl).1, (g.rng l hl).2.1, (g.rng l hl).2.2.1⟩) g.conn c.toNat [0] ⟨by simp, fun k hk => by rw [List.mem_singleton.mp hk]; omega, by simp⟩
    have u := wQ (c.toNat + 1) (jw ls c.toNat [0]) r.2.nd fun x hx => by have := r.2.rg x hx; omega
    rcases r.1 with q | q
    · simp only [List.length_singleton] at q
      omega
    · omega
  rw [h1, h2, h3, decide_eq_true h4]
  rfl
end L2.Y
namespace L2.Y
open PySem PySem.Builtin.Str
theorem zhv {ns : List Int} {ρ : Env'} (k : Int) (hk : 0 ≤ k) (h : gVar 0 ρ = some (scrD (ns.map PyData.int))) : gA (zA 2 F_law_mixed) (zb (gVar 0) (zb (gK (.int k)) gNil)) ρ = some (.int (mixI ns k)) :=
  qw (zm h (zm zW zB)) (by rw [qa]; exact zf7 ns k hk)
noncomputable def bnd : Nat → Nat
  | 0 => 94
  | n + 1 => 3 * bnd n + 43
theorem zhi : ∀ {i j : Nat}, i ≤ j → bnd i ≤ bnd j := by
  intro i j h
  induction h with
  | refl => exact Nat.le_refl _
  | step h ih => show _ ≤ 3 * bnd _ + 43; omega
theorem zfr {a b : Str} (ha : PyData.strOk a = true) (hb : PyData.strOk b = true) : eqD (.str a) (.str b) = some (.bool (decide (a = b))) := by
  unfold eqD
  rw [xY ha, xY hb]
  by_cases e : a = b <;> simp [PyData.eqv, e]
theorem zjq (c : Int) (ls : List (Int × Int × Int)) (h : ls.length ≤ 1000) : Fit 3 (zM c ls) :=
  vQ (n := 2) (show 2 ≤ 1000 by decide) fun e he => by
    simp only [List.mem_cons, List.not_mem_nil, or_false] at he
    rcases he with rfl | rfl
    · exact zfH c 2
    · refine vQ (n := 1) (by rw [List.length_map]; exact h) fun e he => ?_
      obtain ⟨l, _, rfl⟩ := List.mem_map.mp he
      refine vQ (n := 0) (show 3 ≤ 1000 by decide) fun e he => ?_
      simp only [List.mem_cons, List.not_mem_nil, or_false] at he
      rcases he with rfl | rfl | rfl <;> exact zfH _ 0
theorem zih {n : Nat} {d : D} (h : Fit n d) (hn : n ≤ 64) : eqD d d = some (.bool true) := by
  have e : SeqAt.shaped d = true := by unfold SeqAt.shaped; rw [zao h.1, decide_eq_true (Nat.le_trans h.2 hn)]; rfl
  unfold eqD
  rw [e, SeqAt.eqv_refl d (zao h.1)]
  rfl
theorem zgn (ns : List Int) (hl : ns.length ≤ 63) : F_law [scrD (ns.map PyData.int)] = some (.bool true) := by
  obtain ⟨c, ls, ey, gy⟩ := zh5 (mixI ns 0) 5 4 (by omega) (by omega) (by omega)
  have few := gy.few
  have c1 := gy.c1
  have c5 := gy.c2
  have hll : ls.length ≤ 8 := by omega
  have yd := zff gy (by omega) (by omega)
  have dc : dig c := ⟨by omega, by omega⟩
  have dl : ∀ l ∈ ls, DigL l := fun l h => by obtain ⟨a1, a2, a3, a4, a5⟩ := gy.rng l h; exact ⟨⟨by omega, by omega⟩, ⟨by omega, by omega⟩, ⟨by omega, by omega⟩⟩
  have c9 : D9 c := ⟨by omega, by omega⟩
  have l9 : ∀ l ∈ ls, L9 l := fun l h => by obtain ⟨a1, a2, a3, a4, a5⟩ := gy.rng l h; exact ⟨⟨by omega, by omega⟩, ⟨by omega, by omega⟩, ⟨by omega, by omega⟩⟩
  have lw := wn dc (by omega) dl
  have ow := zkg c ls
  have wl : (wrS c ls).length ≤ 94 := by
    unfold wrS
    rw [zcD ls _ dl, zg8 dc]
    omega
  obtain ⟨m, hm⟩ : ∃ m, m = mixI ns 1 := ⟨_, rfl⟩
  have m0 := zh0 ns 1
  have k0 : 0 ≤ m % 3 := by omega
  have r0 : 0 ≤ m % 3 * (1 + m / 3 % 2) ∧ m % 3 * (1 + m / 3 % 2) ≤ 4 := by
    have a : m % 3 = 0 ∨ m % 3 = 1 ∨ m % 3 = 2 := by omega
    have b : m / 3 % 2 = 0 ∨ m / 3 % 2 = 1 := by omega
    rcases a with a | a | a <;> rcases b with b | b <;> rw [a, b] <;> decide
  let S : Option En := some (.val (scrD (ns.map PyData.int)))
  let Y : Option En := some (.val (zM c ls))
  let W : Option En := some (.val (.str (wrS c ls)))
  obtain ⟨ρ', eL, y, x5, hρ, oy, ly⟩ := wa (h := hName 5) (gb := zck) (fun i ρ => ∃ y x5, ρ = [S, Y, W, vI m, some (.val (.str y)), x5, none] ∧ PyData.strOk y = true ∧ y.length ≤ bnd i) (zF 0 (m % 3 * (1 + m / 3 % 2)).toNat) 0 [S, Y, W, vI m, W, none, none] ⟨wrS c ls, none, rfl, ow, wl⟩ (by
    rintro k d ρ hk ⟨y, x5, rfl, oy, ly⟩
    obtain ⟨hk, rfl⟩ := xU hk
    have b1 : bnd (0 + k) ≤ bnd 3 := zhi (by omega)
    have b3 : bnd 3 = 3097 := rfl
    obtain ⟨d, ed, z, rfl, oz, lz⟩ := zdL oy (by omega) (zN m (0 + k)) (Int.emod_nonneg _ (by decide))
    refine ⟨[S, Y, W, vI m, some (.val (.str y)), vI (0 + k), none], [S, Y, W, vI m, some (.val (.str z)), vI (0 + k), none], rfl, ?_, z, vI (0 + k), rfl, oz, ?_⟩
    · unfold zck
      exact jl (qw (zm (x := .str y) rfl (zm (qw (zm (x := .int m) rfl (zm (x := .int (0 + k)) rfl zB)) (by rw [qa]; exact qB _ _)) zB)) (by rw [qa]; exact ed)) rfl
    · show z.length ≤ 3 * bnd (0 + k) + 43
      omega)
  rw [qF] at ly
  have b4 : bnd 4 = 9334 := rfl
  have ly' : y.length ≤ 10000 := by have := zhi (i := 0 + (m % 3 * (1 + m / 3 % 2)).toNat) (j := 4) (by omega); omega
  unfold F_law
  refine jo ?_
  show zhK [S, none, none, none, none, none, none] = _
  unfold zhK
  rw [zg (ρ' := [S, Y, none, none, none, none, none]) (jl (qw (zm (zhv (ns := ns) 0 (by omega) rfl) (zm zW (zm zW zB))) (by rw [wZ]; exact ey)) rfl),
    zg (ρ' := [S, Y, W, none, none, none, none]) (jl (qw (zm (x := zM c ls) rfl zB) (by rw [xK]; exact lw)) rfl),
    zg (ρ' := [S, Y, W, vI m, none, none, none]) (jl (by rw [hm]; exact zhv (ns := ns) 1 (by omega) rfl) rfl),
    zg (ρ' := [S, Y, W, vI m, W, none, none]) (jl (d := .str (wrS c ls)) rfl rfl),
    zg (qL (zcs (zm (zD (zD (x := .int m) rfl zW (zP (by omega))) (zD zW (zD (zD (x := .int m) rfl zW (xh (by omega) (by omega))) zW (zP (by omega))) (zI _ _)) (xD (by omega) (by omega))) zB) (za0 (by omega) (by omega))) eL)]
  subst hρ
  rcases zig oy ly' with ⟨e, ms, hw, e9, m9, ml, ye, er⟩ | ⟨er, ex, no⟩
  · have fd := zft er
    obtain ⟨e', ms', he, dce, dle⟩ := zeb ye
    have hwr : wrS e ms = y := by rw [← zax, ← hw, vf]
    have eq2 : e = e' ∧ ms = ms' := by
      unfold zM at he
      injection he with he
      injection he with h1 h2
      injection h1 with h1
      injection h2 with h2 _
      injection h2 with h2
      exact ⟨h1, List.map_inj_right (fun a b q => by
        unfold zu at q
        injection q with q
        injection q with q1 q
        injection q with q2 q
        injection q with q3 q
        injection q1 with q1; injection q2 with q2; injection q3 with q3
        exact Prod.ext q1 (Prod.ext q2 q3)) |>.mp h2⟩
    obtain ⟨rfl, rfl⟩ := eq2
    have oD := zcA (c := e) ml
    have li := km oD (by have := (zjq e ms ml).2; omega)
    rw [ye] at li
    have lwe := wn dce ml dle
    rw [zg (ρ' := [S, Y, W, vI m, some (.val (.str y)), x5, some (.val (zM e ms))]) (jl (qw (zm (x := .str y) rfl zB) (by rw [xK]; exact fd)) rfl)]
    have cq : gBo (g2 eqD (gVar 4) (gVar 2)) [S, Y, W, vI m, some (.val (.str y)), x5, some (.val (zM e ms))] = some (decide (y = wrS c ls)) := xH (zD (x := .str y) rfl (y := .str (wrS c ls)) rfl (zfr oy ow))
    have gi : gA (zA 1 F_law_is_yard) (zb (gVar 6) gNil) [S, Y, W, vI m, some (.val (.str y)), x5, some (.val (zM e ms))] = some (.bool true) := qw (zm (x := zM e ms) rfl zB) (by rw [xK]; exact li)
    by_cases q : y = wrS c ls
    · rw [decide_eq_true q] at cq
      refine qA ?_
      rw [zdO cq]
      have : wdY e ms = wdY c ls := by
        rw [← hw, q, ← zax]
        exact zhm (by unfold wdY; simp) (zcO c9 l9)
      obtain ⟨rfl, rfl⟩ := zek e9 c9 m9 l9 this
      refine qg (zc0 (a := true) (b := true) (zD (x := zM e ms) rfl (y := zM e ms) rfl ?_) fun _ => gi)
      exact zih (zjq e ms ml) (by decide)
    · rw [decide_eq_false q] at cq
      rw [zg (ρ' := [S, Y, W, vI m, some (.val (.str y)), x5, some (.val (zM e ms))]) (by rw [zcg cq]; rfl)]
      refine qg (zeD (a := false) (b := true) (zD (x := zM e ms) rfl zW rfl) fun _ => zc0 (a := true) (b := true) gi fun _ => zD (qw (zm (x := zM e ms) rfl zB) (by rw [xK]; exact lwe)) (y := .str y) rfl ?_)
      rw [hwr]
      exact zj2 oy
  · have fd := zgf er ex
    rw [zg (ρ' := [S, Y, W, vI m, some (.val (.str y)), x5, some (.val .none)]) (jl (qw (zm (x := .str y) rfl zB) (by rw [xK]; exact fd)) rfl)]
    have cq : gBo (g2 eqD (gVar 4) (gVar 2)) [S, Y, W, vI m, some (.val (.str y)), x5, some (.val .none)] = some (decide (y = wrS c ls)) := xH (zD (x := .str y) rfl (y := .str (wrS c ls)) rfl (zfr oy ow))
    have q : ¬ y = wrS c ls := fun q => no ⟨c, ls, by rw [q, ← zax]; exact zhm (by unfold wdY; simp) (zcO c9 l9), c9, l9, yd⟩
    rw [decide_eq_false q] at cq
    rw [zg (ρ' := [S, Y, W, vI m, some (.val (.str y)), x5, some (.val .none)]) (by rw [zcg cq]; rfl)]
    exact qg (zeD (a := true) (b := true) (zD (x := .none) rfl zW rfl) fun h => by cases h)
end L2.Y
set_option maxHeartbeats 4000000
namespace L2.Y
open PySem PySem.Spec PyProof.Rows
local macro_rules | `(! $x) => `(by exact $x)
noncomputable def top (i : Nat) : Stmt := PySem.Challenge.pw_sandyard_k03_whole_read.main.body.getD i (.Pass ⟨0, 0, 0, 0⟩)
structure Adr where
  f_is_whole : Addr
  d_is_whole : FuncData
  f_is_whole_within : Addr
  d_is_whole_within : FuncData
  f_is_tuple_of_length : Addr
  d_is_tuple_of_length : FuncData
  f_is_tie : Addr
  d_is_tie : FuncData
  f_are_rising : Addr
  d_are_rising : FuncData
  f_all_lead_to_ditch : Addr
  d_all_lead_to_ditch : FuncData
  f_is_yard : Addr
  d_is_yard : FuncData
  f_number_of : Addr
  d_number_of : FuncData
  f_numbers_behind : Addr
  d_numbers_behind : FuncData
  f_read : Addr
  d_read : FuncData
  f_law_cell_at : Addr
  d_law_cell_at : FuncData
  f_law_mixed : Addr
  d_law_mixed : FuncData
  f_law_drawn : Addr
  d_law_drawn : FuncData
  f_law_yard : Addr
  d_law_yard : FuncData
  f_law_number : Addr
  d_law_number : FuncData
  f_law_is_link : Addr
  d_law_is_link : FuncData
  f_law_is_yard : Addr
  d_law_is_yard : FuncData
  f_law_written : Addr
  d_law_written : FuncData
  f_law_changed : Addr
  d_law_changed : FuncData
  f_law_found : Addr
  d_law_found : FuncData
  f_law : Addr
  d_law : FuncData
  x_SandError : Addr
  x_NoYard : Addr
  x_NoText : Addr
  x_NoTumble : Addr
  x_NoRest : Addr
  x_NotLasting : Addr
structure Tx (K : Frag) (mg : Str → Option Value) (a : Adr) : Prop where
  F_is_whole : Fun K "is_whole" "is_whole" (top 11) a.f_is_whole a.d_is_whole
  b_is_whole : Binds K a.d_is_whole ["thing"] []
  m_is_whole : mg "is_whole" = some (.ref a.f_is_whole)
  F_is_whole_within : Fun K "is_whole_within" "is_whole_within" (top 12) a.f_is_whole_within a.d_is_whole_within
  b_is_whole_within : Binds K a.d_is_whole_within ["thing", "least", "most"] []
  m_is_whole_within : mg "is_whole_within" = some (.ref a.f_is_whole_within)
  F_is_tuple_of_length : Fun K "is_tuple_of_length" "is_tuple_of_length" (top 13) a.f_is_tuple_of_length a.d_is_tuple_of_length
  b_is_tuple_of_length : Binds K a.d_is_tuple_of_length ["thing", "length"] []
  m_is_tuple_of_length : mg "is_tuple_of_length" = some (.ref a.f_is_tuple_of_length)
  F_is_tie : Fun K "is_tie" "is_tie" (top 14) a.f_is_tie a.d_is_tie
  b_is_tie : Binds K a.d_is_tie ["thing", "count"] []
  m_is_tie : mg "is_tie" = some (.ref a.f_is_tie)
  F_are_rising : Fun K "are_rising" "are_rising" (top 15) a.f_are_rising a.d_are_rising
  b_are_rising : Binds K a.d_are_rising ["ties"] []
  m_are_rising : mg "are_rising" = some (.ref a.f_are_rising)
  F_all_lead_to_ditch : Fun K "all_lead_to_ditch" "all_lead_to_ditch" (top 16) a.f_all_lead_to_ditch a.d_all_lead_to_ditch
  b_all_lead_to_ditch : Binds K a.d_all_lead_to_ditch ["count", "ties"] []
  m_all_lead_to_ditch : mg "all_lead_to_ditch" = some (.ref a.f_all_lead_to_ditch)
  F_is_yard : Fun K "is_yard" "is_yard" (top 17) a.f_is_yard a.d_is_yard
  b_is_yard : Binds K a.d_is_yard ["thing"] []
  m_is_yard : mg "is_yard" = some (.ref a.f_is_yard)
  F_number_of : Fun K "number_of" "number_of" (top 22) a.f_number_of a.d_number_of
  b_number_of : Binds K a.d_number_of ["word"] []
  m_number_of : mg "number_of" = some (.ref a.f_number_of)
  F_numbers_behind : Fun K "numbers_behind" "numbers_behind" (top 23) a.f_numbers_behind a.d_numbers_behind
  b_numbers_behind : Binds K a.d_numbers_behind ["head", "words"] []
  m_numbers_behind : mg "numbers_behind" = some (.ref a.f_numbers_behind)
  F_read : Fun K "read" "read" (top 24) a.f_read a.d_read
  b_read : Binds K a.d_read ["text"] []
  m_read : mg "read" = some (.ref a.f_read)
  F_law_cell_at : Fun K "_law_cell_at" "_law_cell_at" (top 26) a.f_law_cell_at a.d_law_cell_at
  b_law_cell_at : Binds K a.d_law_cell_at ["_law_script", "_law_k"] []
  m_law_cell_at : mg "_law_cell_at" = some (.ref a.f_law_cell_at)
  F_law_mixed : Fun K "_law_mixed" "_law_mixed" (top 27) a.f_law_mixed a.d_law_mixed
  b_law_mixed : Binds K a.d_law_mixed ["_law_script", "_law_k"] []
  m_law_mixed : mg "_law_mixed" = some (.ref a.f_law_mixed)
  F_law_drawn : Fun K "_law_drawn" "_law_drawn" (top 28) a.f_law_drawn a.d_law_drawn
  b_law_drawn : Binds K a.d_law_drawn ["_law_number_here", "_law_k"] []
  m_law_drawn : mg "_law_drawn" = some (.ref a.f_law_drawn)
  F_law_yard : Fun K "_law_yard" "_law_yard" (top 29) a.f_law_yard a.d_law_yard
  b_law_yard : Binds K a.d_law_yard ["_law_number_here", "_law_most", "_law_wide"] []
  m_law_yard : mg "_law_yard" = some (.ref a.f_law_yard)
  F_law_number : Fun K "_law_number" "_law_number" (top 31) a.f_law_number a.d_law_number
  b_law_number : Binds K a.d_law_number ["_law_thing", "_law_low", "_law_high"] []
  m_law_number : mg "_law_number" = some (.ref a.f_law_number)
  F_law_is_link : Fun K "_law_is_link" "_law_is_link" (top 32) a.f_law_is_link a.d_law_is_link
  b_law_is_link : Binds K a.d_law_is_link ["_law_thing", "_law_count"] []
  m_law_is_link : mg "_law_is_link" = some (.ref a.f_law_is_link)
  F_law_is_yard : Fun K "_law_is_yard" "_law_is_yard" (top 33) a.f_law_is_yard a.d_law_is_yard
  b_law_is_yard : Binds K a.d_law_is_yard ["_law_thing"] []
  m_law_is_yard : mg "_law_is_yard" = some (.ref a.f_law_is_yard)
  F_law_written : Fun K "_law_written" "_law_written" (top 34) a.f_law_written a.d_law_written
  b_law_written : Binds K a.d_law_written ["_law_yard_here"] []
  m_law_written : mg "_law_written" = some (.ref a.f_law_written)
  F_law_changed : Fun K "_law_changed" "_law_changed" (top 35) a.f_law_changed a.d_law_changed
  b_law_changed : Binds K a.d_law_changed ["_law_text", "_law_number_here"] []
  m_law_changed : mg "_law_changed" = some (.ref a.f_law_changed)
  F_law_found : Fun K "_law_found" "_law_found" (top 36) a.f_law_found a.d_law_found
  b_law_found : Binds K a.d_law_found ["_law_text"] []
  m_law_found : mg "_law_found" = some (.ref a.f_law_found)
  F_law : Fun K "law" "law" (top 37) a.f_law a.d_law
  b_law : Binds K a.d_law ["_law_script"] []
  m_law : mg "law" = some (.ref a.f_law)
  k_SandError : mg "SandError" = some (.ref a.x_SandError)
  k_NoYard : mg "NoYard" = some (.ref a.x_NoYard)
  k_NoText : mg "NoText" = some (.ref a.x_NoText)
  k_NoTumble : mg "NoTumble" = some (.ref a.x_NoTumble)
  k_NoRest : mg "NoRest" = some (.ref a.x_NoRest)
  k_NotLasting : mg "NotLasting" = some (.ref a.x_NotLasting)
  r_NoText : ExR K a.x_NoText
  e_NoText : ExK K a.x_NoText
  mt_NoText_NoText : PySem.W.exmOne K (.ref a.x_NoText) (.ref a.x_NoText) = some true
  ki_NoText_NoRest : PySem.W.kitOne K (.ref a.x_NoText) (.ref a.x_NoRest) = some false
  ki_NoText_NoTumble : PySem.W.kitOne K (.ref a.x_NoText) (.ref a.x_NoTumble) = some false
  ki_NoText_NoYard : PySem.W.kitOne K (.ref a.x_NoText) (.ref a.x_NoYard) = some false
  ki_NoText_NotLasting : PySem.W.kitOne K (.ref a.x_NoText) (.ref a.x_NotLasting) = some false
  ki_NoText_SandError : PySem.W.kitOne K (.ref a.x_NoText) (.ref a.x_SandError) = some true
  ki_NoText_ValueError : PySem.W.kitOne K (.ref a.x_NoText) (.type "ValueError") = some true
  c_DITCH : ∃ t, mg "DITCH" = some (.int 0 t)
  c_MOST_PLACES : ∃ t, mg "MOST_PLACES" = some (.int 5 t)
  c_MOST_TIES : ∃ t, mg "MOST_TIES" = some (.int 4 t)
  c_FIGURES : ∃ t, mg "FIGURES" = some (.str "0123456789" t)
  c_YARD_WORDS : ∃ t, mg "YARD_WORDS" = some (.int 2 t)
  c_LINK_WORDS : ∃ t, mg "LINK_WORDS" = some (.int 4 t)
  n_ValueError : mg "ValueError" = none
  n_all : mg "all" = none
  n_any : mg "any" = none
  n_bool : mg "bool" = none
  n_int : mg "int" = none
  n_isinstance : mg "isinstance" = none
  n_len : mg "len" = none
  n_max : mg "max" = none
  n_min : mg "min" = none
  n_range : mg "range" = none
  n_sorted : mg "sorted" = none
  n_str : mg "str" = none
  n_tuple : mg "tuple" = none
  n_zip : mg "zip" = none
section
variable (P : Program) (w : World) (K : Frag) (mg : Str → Option Value) (base : Heap) (a : Adr) (cdv : Value) (A : Around) (outer : List Env) (s : Shared) (H : Hp) (E : XK)
end
section
variable {P : Program} {w : World} {K : Frag} {mg : Str → Option Value} {base : Heap} {a : Adr}
theorem zdR : FnScope ["thing"] ["thing"] (zc (top 11)) := ⟨rfl, rfl, rfl, by decide +kernel, rfl, by decide +kernel, by decide +kernel⟩
theorem zcn (T : Tx K mg a) : FnOk P w K mg base CX0 1 a.f_is_whole a.d_is_whole ["thing"] (spD K 1 F_is_whole) := by
  refine qY (N := ["thing"]) T.F_is_whole zdR fun cdv A outer s H E hr => ?_
  conv in (zj _) => whnf
  exact (!zi (!zo (!xw (!qi (zep _) (!PD.b (!za (pv 0))) (!rfl) T.n_isinstance (!rfl) T.n_int boot_isinstance boot_int) (!xM (!zdW (!qi (zcL _) (!PD.b (!za (pv 0))) (!rfl) T.n_isinstance (!rfl) T.n_bool boot_isinstance boot_bool))))))
theorem yr : FnScope ["thing", "least", "most"] ["thing", "least", "most"] (zc (top 12)) := ⟨rfl, rfl, rfl, by decide +kernel, rfl, by decide +kernel, by decide +kernel⟩
theorem qS (T : Tx K mg a) : FnOk P w K mg base CX0 2 a.f_is_whole_within a.d_is_whole_within ["thing", "least", "most"] (spD K 3 F_is_whole_within) := by
  have O_is_whole := zcn (P := P) (w := w) (base := base) T
  refine qY (N := ["thing", "least", "most"]) T.F_is_whole_within yr fun cdv A outer s H E hr => ?_
  conv in (zj _) => whnf
  exact (!zi (!zo (!xw (!zx O_is_whole (hr.mono (by omega)) (!rfl) T.m_is_whole T.F_is_whole.kp T.b_is_whole (!zk (!rfl) (!za (pv 0)) (!zh))) (!xM (!zc7 zcX zcX (!PD.b (!za (pv 1))) (!PD.b (!za (pv 0))) (!PD.b (!za (pv 2))))))))
theorem wf : FnScope ["thing", "length"] ["thing", "length"] (zc (top 13)) := ⟨rfl, rfl, rfl, by decide +kernel, rfl, by decide +kernel, by decide +kernel⟩
theorem qp (T : Tx K mg a) : FnOk P w K mg base CX0 1 a.f_is_tuple_of_length a.d_is_tuple_of_length ["thing", "length"] (spD K 2 F_is_tuple_of_length) := by
  refine qY (N := ["thing", "length"]) T.F_is_tuple_of_length wf fun cdv A outer s H E hr => ?_
  have hu64 := qx hr
  conv in (zj _) => whnf
  exact (!zi (!zo (!xw (!qi (kit_tuple _) (!PD.b (!za (pv 0))) (!rfl) T.n_isinstance (!rfl) T.n_tuple boot_isinstance boot_tuple) (!xM (!wk (wv hu64) (!PD.b (!zO jb (!rfl) T.n_len boot_len (!jQ (!rfl) (!PD.b (!za (pv 0))) (!zH)))) (!PD.b (!za (pv 1))) (jk _))))))
theorem yY : FnScope ["thing", "count", "one", "other", "many"] ["thing", "count"] (zc (top 14)) := ⟨rfl, rfl, rfl, by decide +kernel, rfl, by decide +kernel, by decide +kernel⟩
theorem zd5 (T : Tx K mg a) : FnOk P w K mg base CX0 3 a.f_is_tie a.d_is_tie ["thing", "count"] (spD K 2 F_is_tie) := by
  have O_is_tuple_of_length := qp (P := P) (w := w) (base := base) T
  have O_is_whole_within := qS (P := P) (w := w) (base := base) T
  refine qY (N := ["thing", "count", "one", "other", "many"]) T.F_is_tie yY fun cdv A outer s H E hr => ?_
  have hu0 := vp hr
  conv in (zj _) => whnf
  exact (!ze (!jp (!jS (!jR (!PD.b (!zx O_is_tuple_of_length (hr.mono (by omega)) (!rfl) T.m_is_tuple_of_length T.F_is_tuple_of_length.kp T.b_is_tuple_of_length (!zk (!rfl) (!za (pv 0)) (!zk (!rfl) (!zd) (!zh))))))) (!zi (!zo (!xg))) (!zC)) (!ze (!zq (!rfl) (!rfl) (!rfl) (!yq (!rfl) (!ji (!zf (!pgn (i := 2) yY.nd)) (!ji (!zf (!pgn (i := 3) yY.nd)) (!ji (!zf (!pgn (i := 4) yY.nd)) (!xS))))) (!za (pv 0))) (!ze (!jp (!PWd.t (!ww (!jS (!jR (!PD.b (!zx O_is_whole_within (hr.mono (by omega)) (!rfl) T.m_is_whole_within T.F_is_whole_within.kp T.b_is_whole_within (!zk (!rfl) (!za (pv 2)) (!zk (!rfl) (!zJ (!rfl) T.c_DITCH (by decide)) (!zk (!rfl) (!za (pv 1)) (!zh)))))))) (!xq (!jS (!jR (!PD.b (!zx O_is_whole_within (hr.mono (by omega)) (!rfl) T.m_is_whole_within T.F_is_whole_within.kp T.b_is_whole_within (!zk (!rfl) (!za (pv 3)) (!zk (!rfl) (!zJ (!rfl) T.c_DITCH (by decide)) (!zk (!rfl) (!za (pv 1)) (!zh))))))))))) (!zi (!zo (!xg))) (!zC)) (!zi (!zo (!xw (!wk (zae hu0) (!PD.b (!za (pv 2))) (!PD.b (!za (pv 3))) (jk _)) (!xM (!zx O_is_whole_within (hr.mono (by omega)) (!rfl) T.m_is_whole_within T.F_is_whole_within.kp T.b_is_whole_within (!zk (!rfl) (!za (pv 4)) (!zk (!rfl) (!zd) (!zk (!rfl) (!zJ (!rfl) T.c_MOST_TIES (by decide)) (!zh))))))))))))
theorem yJ : FnScope ["ties", "pairs"] ["ties"] (zc (top 15)) := ⟨rfl, rfl, rfl, by decide +kernel, rfl, by decide +kernel, by decide +kernel⟩
theorem zaH (T : Tx K mg a) : FnOk P w K mg base CX0 1 a.f_are_rising a.d_are_rising ["ties"] (spD K 1 F_are_rising) := by
  refine qY (N := ["ties", "pairs"]) T.F_are_rising yJ fun cdv A outer s H E hr => ?_
  have hu0 := vp hr
  conv in (zj _) => whnf
  exact (!ze (!zfw (i := 1) (jA (oscope := zc (top 15)) (oN := ["ties", "pairs"]) (own := ["tie"]) (caps := []) (N := ["tie"]) (by decide +kernel) (!rfl) (!rfl)) (by decide) (jv (by decide)) (!rfl) (!qW (!za (pv 0))) (fun _ _ _ _ _ => (!zf (jU (i := 0) (nd_ ["tie"]) (!rfl) (Or.inl (!rfl))))) (fun _ _ _ _ _ => (!qj)) (fun _ _ _ _ _ => (!zG (!PD.b (!za (pv 0))) (!zQ) (!zw (!PD.b (!zd))))) yJ.nd (!rfl) (!rfl) (!rfl)) (!zi (!zo (!zO (zbh (!rfl)) (!rfl) T.n_all boot_all (!jQ (!rfl) (!PD.b (!PFr.d_ (!xP (jA (oscope := zc (top 15)) (oN := ["ties", "pairs"]) (own := ["earlier", "later"]) (caps := []) (N := ["earlier", "later"]) (by decide +kernel) (!rfl) (!rfl)) (by decide) (zgM (zbG (jv (by decide)) (zbG (jv (by decide)) zg0))) (!rfl) (!ziH (!rfl) T.n_zip (!zk (!rfl) (!za (pv 1)) (!zk (!rfl) (!zG (!PD.b (!za (pv 1))) (!zw (!PD.b (!zd))) (!zQ)) (!zh)))) (fun _ _ _ _ _ => (!yq (!rfl) (!ji (!zf (jU (i := 0) (nd_ ["earlier", "later"]) (!rfl) (Or.inl (!rfl)))) (!ji (!zf (jU (i := 1) (nd_ ["earlier", "later"]) (!rfl) (Or.inl (!rfl)))) (!xS))))) (fun _ _ _ _ _ => (!qj)) (fun _ _ _ _ _ => (!wk (zae hu0) (!PD.b (!za (pv 0))) (!PD.b (!za (pv 1))) (jk _)))))) (!zH))))))
theorem zR : FnScope ["count", "ties", "reached", "turn", "one", "other", "many"] ["count", "ties"] (zc (top 16)) := ⟨rfl, rfl, rfl, by decide +kernel, rfl, by decide +kernel, by decide +kernel⟩
theorem wg (T : Tx K mg a) : FnOk P w K mg base CX0 1 a.f_all_lead_to_ditch a.d_all_lead_to_ditch ["count", "ties"] (spD K 2 F_all_lead_to_ditch) := by
  refine qY (N := ["count", "ties", "reached", "turn", "one", "other", "many"]) T.F_all_lead_to_ditch zR fun cdv A outer s H E hr => ?_
  have hu64 := qx hr
  have hu1 := zjM hr
  conv in (zj _) => whnf
  exact (!ze (!zdB (!pgn (i := 2) zR.nd) (!zJ (!rfl) T.c_DITCH (by decide)) (!xg)) (!ze (!qJ PassesOwn.never (!rfl) (!yV (!rfl) T.n_range (!zk (!rfl) (!za (pv 0)) (!zh))) (!zf (!pgn (i := 3) zR.nd)) (!zi (!qJ PassesOwn.never (!rfl) (!qW (!za (pv 1))) (!yq (!rfl) (!ji (!zf (!pgn (i := 4) zR.nd)) (!ji (!zf (!pgn (i := 5) zR.nd)) (!ji (!zf (!pgn (i := 6) zR.nd)) (!xS))))) (!zi (!jp (!PWd.t (!ww (!zK (zcM hu1) (!PD.b (!za (pv 4))) (!wm (pv 2)) (by rfl)) (!xq (!zK (zcM hu1) (!PD.b (!za (pv 5))) (!wm (pv 2)) (by rfl))))) (!ze (!zbD hu1 (pv 2) (!za (pv 4)) (!xg)) (!zi (!zbD hu1 (pv 2) (!za (pv 5)) (!xg)))) (!zC)))))) (!zi (!zo (!wk (wv hu64) (!PD.b (!zO zdI (!rfl) T.n_len boot_len (!jQ (!rfl) (!wm (pv 2)) (!zH)))) (!PD.b (!zt zn (!PD.b (!za (pv 0))) (!PD.b (!zd)))) (jk _))))))
theorem vY : FnScope ["thing", "count", "ties"] ["thing"] (zc (top 17)) := ⟨rfl, rfl, rfl, by decide +kernel, rfl, by decide +kernel, by decide +kernel⟩
theorem kU (T : Tx K mg a) : FnOk P w K mg base CX0 4 a.f_is_yard a.d_is_yard ["thing"] (spD K 1 F_is_yard) := by
  have O_is_tuple_of_length := qp (P := P) (w := w) (base := base) T
  have O_is_whole_within := qS (P := P) (w := w) (base := base) T
  have O_is_tie := zd5 (P := P) (w := w) (base := base) T
  have O_all_lead_to_ditch := wg (P := P) (w := w) (base := base) T
  have O_are_rising := zaH (P := P) (w := w) (base := base) T
  refine qY (N := ["thing", "count", "ties"]) T.F_is_yard vY fun cdv A outer s H E hr => ?_
  conv in (zj _) => whnf
  exact (!ze (!jp (!jS (!jR (!PD.b (!zx O_is_tuple_of_length (hr.mono (by omega)) (!rfl) T.m_is_tuple_of_length T.F_is_tuple_of_length.kp T.b_is_tuple_of_length (!zk (!rfl) (!za (pv 0)) (!zk (!rfl) (!zd) (!zh))))))) (!zi (!zo (!xg))) (!zC)) (!ze (!zq (!rfl) (!rfl) (!rfl) (!yq (!rfl) (!ji (!zf (!pgn (i := 1) vY.nd)) (!ji (!zf (!pgn (i := 2) vY.nd)) (!xS)))) (!za (pv 0))) (!ze (!jp (!PWd.t (!ww (!jS (!jR (!PD.b (!zx O_is_whole_within (hr.mono (by omega)) (!rfl) T.m_is_whole_within T.F_is_whole_within.kp T.b_is_whole_within (!zk (!rfl) (!za (pv 1)) (!zk (!rfl) (!zd) (!zk (!rfl) (!zJ (!rfl) T.c_MOST_PLACES (by decide)) (!zh)))))))) (!xq (!jS (!jR (!PD.b (!qi (kit_tuple _) (!PD.b (!za (pv 2))) (!rfl) T.n_isinstance (!rfl) T.n_tuple boot_isinstance boot_tuple))))))) (!zi (!zo (!xg))) (!zC)) (!ze (!jp (!jS (!jR (!PD.b (!zO (zbh (!rfl)) (!rfl) T.n_all boot_all (!jQ (!rfl) (!PD.b (!PFr.d_ (!xP (jA (oscope := zc (top 17)) (oN := ["thing", "count", "ties"]) (own := ["tie"]) (caps := [1]) (N := ["tie", "count"]) (by decide +kernel) (!rfl) (!rfl)) (by decide) (jv (by decide)) (!rfl) (!qW (!za (pv 2))) (fun _ _ _ _ _ => (!zf (jU (i := 0) (nd_ ["tie", "count"]) (!rfl) (Or.inl (!rfl))))) (fun _ _ _ _ _ => (!qj)) (fun _ _ _ _ _ => (!zx O_is_tie (hr.mono (by omega)) (!rfl) T.m_is_tie T.F_is_tie.kp T.b_is_tie (!zk (!rfl) (!za (pv 0)) (!zk (!rfl) (!za (pv 1)) (!zh)))))))) (!zH)))))) (!zi (!zo (!xg))) (!zC)) (!zi (!zo (!xw (!zx O_are_rising (hr.mono (by omega)) (!rfl) T.m_are_rising T.F_are_rising.kp T.b_are_rising (!zk (!rfl) (!za (pv 2)) (!zh))) (!xM (!zx O_all_lead_to_ditch (hr.mono (by omega)) (!rfl) T.m_all_lead_to_ditch T.F_all_lead_to_ditch.kp T.b_all_lead_to_ditch (!zk (!rfl) (!za (pv 1)) (!zk (!rfl) (!za (pv 2)) (!zh))))))))))))
theorem vB : FnScope ["word"] ["word"] (zc (top 22)) := ⟨rfl, rfl, rfl, by decide +kernel, rfl, by decide +kernel, by decide +kernel⟩
theorem yK (ds : List D) (c : Str) (h : jC ds = some c) : c = "NoText" := zaY (x := qb) (za2 xT vL) h
theorem yL (T : Tx K mg a) : FnOk P w K mg base CX0 1 a.f_number_of a.d_number_of ["word"] (spD K 1 F_number_of) := by
  refine qY (N := ["word"]) T.F_number_of vB fun cdv A outer s H E hr => ?_
  have hu64 := qx hr
  conv in (zj _) => whnf
  exact (!ze (!jp (!PWd.t (!ww (!zK (xy hu64) (!PD.b (!zO jb (!rfl) T.n_len boot_len (!jQ (!rfl) (!PD.b (!za (pv 0))) (!zH)))) (!PD.b (!zd)) (jk _)) (!xq (!zK kK (!PD.b (!za (pv 0))) (!PD.b (!zaA (!rfl) T.c_FIGURES (by decide))) (by rfl))))) (!zi zdv) (!zC)) (!zi (!zo (!zgw (!zaA (!rfl) T.c_FIGURES (by decide)) (!za (pv 0))))))
theorem zan (T : Tx K mg a) : FnOk P w K mg base (CXr P w) 1 a.f_number_of a.d_number_of ["word"] (spX K mg 1 jC) := by
  refine zfI (N := ["word"]) T.F_number_of vB fun cdv A outer s H E hr => ?_
  have hu64 := qx hr
  conv in (zj _) => whnf
  exact (!qd (!zg5 (!PWd.t (!ww (!zK (xy hu64) (!PD.b (!zO jb (!rfl) T.n_len boot_len (!jQ (!rfl) (!PD.b (!za (pv 0))) (!zH)))) (!PD.b (!zd)) (jk _)) (!xq (!zK kK (!PD.b (!za (pv 0))) (!PD.b (!zaA (!rfl) T.c_FIGURES (by decide))) (by rfl))))) (!qd (!vj T.r_NoText T.k_NoText (!rfl) (!rfl))) zcU))
theorem xx : FnScope ["head", "words"] ["head", "words"] (zc (top 23)) := ⟨rfl, rfl, rfl, by decide +kernel, rfl, by decide +kernel, by decide +kernel⟩
theorem jN (ds : List D) (c : Str) (h : zp ds = some c) : c = "NoText" := zaY (x := ja) (wO (za2 xT vL) (zfM (kC (yu yK)))) h
theorem xf (T : Tx K mg a) : FnOk P w K mg base CX0 2 a.f_numbers_behind a.d_numbers_behind ["head", "words"] (spD K 2 F_numbers_behind) := by
  have O_number_of := yL (P := P) (w := w) (base := base) T
  refine qY (N := ["head", "words"]) T.F_numbers_behind xx fun cdv A outer s H E hr => ?_
  have hu64 := qx hr
  conv in (zj _) => whnf
  exact (!ze (!jp (!zK (xy hu64) (!PD.b (!qm (!PD.b (!za (pv 1))) (!PD.b (!zd)) (fun _ _ => (!rfl)))) (!PD.b (!za (pv 0))) (jk _)) (!zi zdv) (!zC)) (!zi (!zo (!qq xt (!rfl) T.n_tuple boot_tuple (!jQ (!rfl) (!PD.b (!PFr.d_ (!xP (jA (oscope := zc (top 23)) (oN := ["head", "words"]) (own := ["word"]) (caps := []) (N := ["word"]) (by decide +kernel) (!rfl) (!rfl)) (by decide) (jv (by decide)) (!rfl) (!qW (!zG (!PD.b (!za (pv 1))) (!zw (!PD.b (!zd))) (!zQ))) (fun _ _ _ _ _ => (!zf (jU (i := 0) (nd_ ["word"]) (!rfl) (Or.inl (!rfl))))) (fun _ _ _ _ _ => (!qj)) (fun _ _ _ _ _ => (!zx O_number_of (hr.mono (by omega)) (!rfl) T.m_number_of T.F_number_of.kp T.b_number_of (!zk (!rfl) (!za (pv 0)) (!zh))))))) (!zH))))))
theorem wK (T : Tx K mg a) : FnOk P w K mg base (CXr P w) 2 a.f_numbers_behind a.d_numbers_behind ["head", "words"] (spX K mg 2 zp) := by
  have O_number_of := yL (P := P) (w := w) (base := base) T
  have OX_number_of := zan (P := P) (w := w) (base := base) T
  refine zfI (N := ["head", "words"]) T.F_numbers_behind xx fun cdv A outer s H E hr => ?_
  have hu64 := qx hr
  conv in (zj _) => whnf
  exact (!ya (!jp (!zK (xy hu64) (!PD.b (!qm (!PD.b (!za (pv 1))) (!PD.b (!zd)) (fun _ _ => (!rfl)))) (!PD.b (!za (pv 0))) (jk _)) (!zi zdv) (!zC)) (!zg5 (!zK (xy hu64) (!PD.b (!qm (!PD.b (!za (pv 1))) (!PD.b (!zd)) (fun _ _ => (!rfl)))) (!PD.b (!za (pv 0))) (jk _)) (!qd (!vj T.r_NoText T.k_NoText (!rfl) (!rfl))) zcU) (!qd (!zil (!PXf.x (!zbq (!zct (jA (oscope := zc (top 23)) (oN := ["head", "words"]) (own := ["word"]) (caps := []) (N := ["word"]) (by decide +kernel) (!rfl) (!rfl)) (by decide) (jv (by decide)) (!rfl) (!rfl) (!rfl) (!qW (!zG (!PD.b (!za (pv 1))) (!zw (!PD.b (!zd))) (!zQ))) (fun _ _ _ _ _ => (!zf (jU (i := 0) (nd_ ["word"]) (!rfl) (Or.inl (!rfl))))) (fun _ _ _ _ _ => (!qj)) (fun _ _ _ _ _ _ => (!zx O_number_of (hr.mono (by omega)) (!rfl) T.m_number_of T.F_number_of.kp T.b_number_of (!zk (!rfl) (!za (pv 0)) (!zh)))) (fun _ _ _ _ _ _ => (!zaw (fun ds c h => ⟨a.x_NoText, by rw [yK ds c h]; exact T.k_NoText⟩) OX_number_of (hr.mono (by omega)) (!rfl) T.m_number_of T.F_number_of.kp T.b_number_of (!zk (!rfl) (!za (pv 0)) (!zh))))) (!rfl) T.n_tuple boot_tuple)))))
theorem yD : FnScope ["text", "words", "count", "ties"] ["text"] (zc (top 24)) := ⟨rfl, rfl, rfl, by decide +kernel, rfl, by decide +kernel, by decide +kernel⟩
theorem zhH (ds : List D) (c : Str) (h : yE ds = some c) : c = "NoText" := zaY (x := kh) (wO vL (wO (za2 xT vL) (wO (zfM (yu jN)) (wO (zfM (kC (yu jN))) (za2 xT vL))))) h
theorem ziu (T : Tx K mg a) : FnOk P w K mg base CX0 5 a.f_read a.d_read ["text"] (spD K 1 F_read) := by
  have O_numbers_behind := xf (P := P) (w := w) (base := base) T
  have O_is_yard := kU (P := P) (w := w) (base := base) T
  refine qY (N := ["text", "words", "count", "ties"]) T.F_read yD fun cdv A outer s H E hr => ?_
  have hu64 := qx hr
  conv in (zj _) => whnf
  exact (!ze (!zq (!rfl) (!rfl) (!rfl) (!zf (!pgn (i := 1) yD.nd)) (!PFr.d_ (!vk (!za (pv 0))))) (!ze (!jp (!zK (xy hu64) (!PD.b (!zt je (!PD.b (!zO jb (!rfl) T.n_len boot_len (!jQ (!rfl) (!PD.b (!za (pv 1))) (!zH)))) (!PD.b (!zJ (!rfl) T.c_LINK_WORDS (by decide))))) (!PD.b (!zJ (!rfl) T.c_YARD_WORDS (by decide))) (jk _)) (!zi zdv) (!zC)) (!ze (!zq (!rfl) (!rfl) (!rfl) (!zf (!pgn (i := 2) yD.nd)) (!qm (!PD.b (!zx O_numbers_behind (hr.mono (by omega)) (!rfl) T.m_numbers_behind T.F_numbers_behind.kp T.b_numbers_behind (!zk (!rfl) (!qu) (!zk (!rfl) (!zG (!PD.b (!za (pv 1))) (!zQ) (!zw (!PD.b (!zJ (!rfl) T.c_YARD_WORDS (by decide))))) (!zh))))) (!PD.b (!zd)) (fun _ _ => (!rfl)))) (!ze (!zq (!rfl) (!rfl) (!rfl) (!zf (!pgn (i := 3) yD.nd)) (!qq xt (!rfl) T.n_tuple boot_tuple (!jQ (!rfl) (!PD.b (!PFr.d_ (!xP (jA (oscope := zc (top 24)) (oN := ["text", "words", "count", "ties"]) (own := ["start"]) (caps := [1]) (N := ["start", "words"]) (by decide +kernel) (!rfl) (!rfl)) (by decide) (jv (by decide)) (!rfl) (!zaZ (!rfl) T.n_range (!zk (!rfl) (!zJ (!rfl) T.c_YARD_WORDS (by decide)) (!zk (!rfl) (!zO jb (!rfl) T.n_len boot_len (!jQ (!rfl) (!PD.b (!za (pv 1))) (!zH))) (!zk (!rfl) (!zJ (!rfl) T.c_LINK_WORDS (by decide)) (!zh))))) (fun _ _ _ _ _ => (!zf (jU (i := 0) (nd_ ["start", "words"]) (!rfl) (Or.inl (!rfl))))) (fun _ _ _ _ _ => (!qj)) (fun _ _ _ _ _ => (!zx O_numbers_behind (hr.mono (by omega)) (!rfl) T.m_numbers_behind T.F_numbers_behind.kp T.b_numbers_behind (!zk (!rfl) (!qu) (!zk (!rfl) (!zG (!PD.b (!za (pv 1))) (!zw (!PD.b (!za (pv 0)))) (!zw (!PD.b (!zt zn (!PD.b (!za (pv 0))) (!PD.b (!zJ (!rfl) T.c_LINK_WORDS (by decide))))))) (!zh)))))))) (!zH)))) (!ze (!jp (!jS (!jR (!PD.b (!zx O_is_yard (hr.mono (by omega)) (!rfl) T.m_is_yard T.F_is_yard.kp T.b_is_yard (!zk (!rfl) (!wx (!zk (!rfl) (!za (pv 2)) (!zk (!rfl) (!za (pv 3)) (!zh)))) (!zh)))))) (!zi zdv) (!zC)) (!zi (!zo (!wx (!zk (!rfl) (!za (pv 2)) (!zk (!rfl) (!za (pv 3)) (!zh)))))))))))
theorem zg6 (T : Tx K mg a) : FnOk P w K mg base (CXr P w) 5 a.f_read a.d_read ["text"] (spX K mg 1 yE) := by
  have O_numbers_behind := xf (P := P) (w := w) (base := base) T
  have O_is_yard := kU (P := P) (w := w) (base := base) T
  have OX_numbers_behind := wK (P := P) (w := w) (base := base) T
  refine zfI (N := ["text", "words", "count", "ties"]) T.F_read yD fun cdv A outer s H E hr => ?_
  have hu64 := qx hr
  conv in (zj _) => whnf
  exact (!ya (!zq (!rfl) (!rfl) (!rfl) (!zf (!pgn (i := 1) yD.nd)) (!PFr.d_ (!vk (!za (pv 0))))) zkA (!ya (!jp (!zK (xy hu64) (!PD.b (!zt je (!PD.b (!zO jb (!rfl) T.n_len boot_len (!jQ (!rfl) (!PD.b (!za (pv 1))) (!zH)))) (!PD.b (!zJ (!rfl) T.c_LINK_WORDS (by decide))))) (!PD.b (!zJ (!rfl) T.c_YARD_WORDS (by decide))) (jk _)) (!zi zdv) (!zC)) (!zg5 (!zK (xy hu64) (!PD.b (!zt je (!PD.b (!zO jb (!rfl) T.n_len boot_len (!jQ (!rfl) (!PD.b (!za (pv 1))) (!zH)))) (!PD.b (!zJ (!rfl) T.c_LINK_WORDS (by decide))))) (!PD.b (!zJ (!rfl) T.c_YARD_WORDS (by decide))) (jk _)) (!qd (!vj T.r_NoText T.k_NoText (!rfl) (!rfl))) zcU) (!ya (!zq (!rfl) (!rfl) (!rfl) (!zf (!pgn (i := 2) yD.nd)) (!qm (!PD.b (!zx O_numbers_behind (hr.mono (by omega)) (!rfl) T.m_numbers_behind T.F_numbers_behind.kp T.b_numbers_behind (!zk (!rfl) (!qu) (!zk (!rfl) (!zG (!PD.b (!za (pv 1))) (!zQ) (!zw (!PD.b (!zJ (!rfl) T.c_YARD_WORDS (by decide))))) (!zh))))) (!PD.b (!zd)) (fun _ _ => (!rfl)))) (!zcr (!PXf.x (!zid (!zaw (fun ds c h => ⟨a.x_NoText, by rw [jN ds c h]; exact T.k_NoText⟩) OX_numbers_behind (hr.mono (by omega)) (!rfl) T.m_numbers_behind T.F_numbers_behind.kp T.b_numbers_behind (!zk (!rfl) (!qu) (!zk (!rfl) (!zG (!PD.b (!za (pv 1))) (!zQ) (!zw (!PD.b (!zJ (!rfl) T.c_YARD_WORDS (by decide))))) (!zh)))) (!PD.b (!zd)) (fun _ _ => (!rfl))))) (!ya (!zq (!rfl) (!rfl) (!rfl) (!zf (!pgn (i := 3) yD.nd)) (!qq xt (!rfl) T.n_tuple boot_tuple (!jQ (!rfl) (!PD.b (!PFr.d_ (!xP (jA (oscope := zc (top 24)) (oN := ["text", "words", "count", "ties"]) (own := ["start"]) (caps := [1]) (N := ["start", "words"]) (by decide +kernel) (!rfl) (!rfl)) (by decide) (jv (by decide)) (!rfl) (!zaZ (!rfl) T.n_range (!zk (!rfl) (!zJ (!rfl) T.c_YARD_WORDS (by decide)) (!zk (!rfl) (!zO jb (!rfl) T.n_len boot_len (!jQ (!rfl) (!PD.b (!za (pv 1))) (!zH))) (!zk (!rfl) (!zJ (!rfl) T.c_LINK_WORDS (by decide)) (!zh))))) (fun _ _ _ _ _ => (!zf (jU (i := 0) (nd_ ["start", "words"]) (!rfl) (Or.inl (!rfl))))) (fun _ _ _ _ _ => (!qj)) (fun _ _ _ _ _ => (!zx O_numbers_behind (hr.mono (by omega)) (!rfl) T.m_numbers_behind T.F_numbers_behind.kp T.b_numbers_behind (!zk (!rfl) (!qu) (!zk (!rfl) (!zG (!PD.b (!za (pv 1))) (!zw (!PD.b (!za (pv 0)))) (!zw (!PD.b (!zt zn (!PD.b (!za (pv 0))) (!PD.b (!zJ (!rfl) T.c_LINK_WORDS (by decide))))))) (!zh)))))))) (!zH)))) (!zcr (!PXf.x (!zbq (!zct (jA (oscope := zc (top 24)) (oN := ["text", "words", "count", "ties"]) (own := ["start"]) (caps := [1]) (N := ["start", "words"]) (by decide +kernel) (!rfl) (!rfl)) (by decide) (jv (by decide)) (!rfl) (!rfl) (!rfl) (!zaZ (!rfl) T.n_range (!zk (!rfl) (!zJ (!rfl) T.c_YARD_WORDS (by decide)) (!zk (!rfl) (!zO jb (!rfl) T.n_len boot_len (!jQ (!rfl) (!PD.b (!za (pv 1))) (!zH))) (!zk (!rfl) (!zJ (!rfl) T.c_LINK_WORDS (by decide)) (!zh))))) (fun _ _ _ _ _ => (!zf (jU (i := 0) (nd_ ["start", "words"]) (!rfl) (Or.inl (!rfl))))) (fun _ _ _ _ _ => (!qj)) (fun _ _ _ _ _ _ => (!zx O_numbers_behind (hr.mono (by omega)) (!rfl) T.m_numbers_behind T.F_numbers_behind.kp T.b_numbers_behind (!zk (!rfl) (!qu) (!zk (!rfl) (!zG (!PD.b (!za (pv 1))) (!zw (!PD.b (!za (pv 0)))) (!zw (!PD.b (!zt zn (!PD.b (!za (pv 0))) (!PD.b (!zJ (!rfl) T.c_LINK_WORDS (by decide))))))) (!zh))))) (fun _ _ _ _ _ _ => (!zaw (fun ds c h => ⟨a.x_NoText, by rw [jN ds c h]; exact T.k_NoText⟩) OX_numbers_behind (hr.mono (by omega)) (!rfl) T.m_numbers_behind T.F_numbers_behind.kp T.b_numbers_behind (!zk (!rfl) (!qu) (!zk (!rfl) (!zG (!PD.b (!za (pv 1))) (!zw (!PD.b (!za (pv 0)))) (!zw (!PD.b (!zt zn (!PD.b (!za (pv 0))) (!PD.b (!zJ (!rfl) T.c_LINK_WORDS (by decide))))))) (!zh)))))) (!rfl) T.n_tuple boot_tuple))) (!qd (!zg5 (!jS (!jR (!PD.b (!zx O_is_yard (hr.mono (by omega)) (!rfl) T.m_is_yard T.F_is_yard.kp T.b_is_yard (!zk (!rfl) (!wx (!zk (!rfl) (!za (pv 2)) (!zk (!rfl) (!za (pv 3)) (!zh)))) (!zh)))))) (!qd (!vj T.r_NoText T.k_NoText (!rfl) (!rfl))) zcU))))))
theorem zaI : FnScope ["_law_script", "_law_k"] ["_law_script", "_law_k"] (zc (top 26)) := ⟨rfl, rfl, rfl, by decide +kernel, rfl, by decide +kernel, by decide +kernel⟩
theorem kz (T : Tx K mg a) : FnOk P w K mg base CX0 1 a.f_law_cell_at a.d_law_cell_at ["_law_script", "_law_k"] (spD K 2 F_law_cell_at) := by
  refine qY (N := ["_law_script", "_law_k"]) T.F_law_cell_at zaI fun cdv A outer s H E hr => ?_
  have hu0 := vp hr
  conv in (zj _) => whnf
  exact (!ze (!jp (!zK (zae hu0) (!PD.b (!za (pv 1))) (!PD.b (!zO zdp (!rfl) T.n_len boot_len (!jQ (!rfl) (!PD.b (!za (pv 0))) (!zH)))) (jk _)) (!zi (!zo (!zi2 (!PD.b (!za (pv 0))) (!PD.b (!za (pv 1))) (fun _ _ => (!rfl))))) (!zC)) (!zi (!zo (!zd))))
theorem vS : FnScope ["_law_script", "_law_k", "_law_drawn_here"] ["_law_script", "_law_k"] (zc (top 27)) := ⟨rfl, rfl, rfl, by decide +kernel, rfl, by decide +kernel, by decide +kernel⟩
theorem za9 (T : Tx K mg a) : FnOk P w K mg base CX0 2 a.f_law_mixed a.d_law_mixed ["_law_script", "_law_k"] (spD K 2 F_law_mixed) := by
  have O_law_cell_at := kz (P := P) (w := w) (base := base) T
  refine qY (N := ["_law_script", "_law_k", "_law_drawn_here"]) T.F_law_mixed vS fun cdv A outer s H E hr => ?_
  conv in (zj _) => whnf
  exact (!ze (!zq (!rfl) (!rfl) (!rfl) (!zf (!pgn (i := 2) vS.nd)) (!zt je (!PD.b (!zt xm (!PD.b (!zt zn (!PD.b (!zt zn (!PD.b (!zx O_law_cell_at (hr.mono (by omega)) (!rfl) T.m_law_cell_at T.F_law_cell_at.kp T.b_law_cell_at (!zk (!rfl) (!za (pv 0)) (!zk (!rfl) (!za (pv 1)) (!zh))))) (!PD.b (!zt xm (!PD.b (!zd)) (!PD.b (!za (pv 1))))))) (!PD.b (!zd)))) (!PD.b (!zd)))) (!PD.b (!zd)))) (!zi (!zo (!zt je (!PD.b (!zt zn (!PD.b (!zt zn (!PD.b (!zt xm (!PD.b (!za (pv 2))) (!PD.b (!za (pv 2))))) (!PD.b (!zt xm (!PD.b (!zd)) (!PD.b (!za (pv 2))))))) (!PD.b (!za (pv 1))))) (!PD.b (!zd))))))
theorem vO : FnScope ["_law_number_here", "_law_k", "_law_drawn_here"] ["_law_number_here", "_law_k"] (zc (top 28)) := ⟨rfl, rfl, rfl, by decide +kernel, rfl, by decide +kernel, by decide +kernel⟩
theorem yP (T : Tx K mg a) : FnOk P w K mg base CX0 1 a.f_law_drawn a.d_law_drawn ["_law_number_here", "_law_k"] (spD K 2 F_law_drawn) := by
  refine qY (N := ["_law_number_here", "_law_k", "_law_drawn_here"]) T.F_law_drawn vO fun cdv A outer s H E hr => ?_
  conv in (zj _) => whnf
  exact (!ze (!zq (!rfl) (!rfl) (!rfl) (!zf (!pgn (i := 2) vO.nd)) (!zt je (!PD.b (!zt xm (!PD.b (!zt zn (!PD.b (!zt zn (!PD.b (!za (pv 0))) (!PD.b (!zt xm (!PD.b (!zd)) (!PD.b (!za (pv 1))))))) (!PD.b (!zd)))) (!PD.b (!zd)))) (!PD.b (!zd)))) (!zi (!zo (!zt je (!PD.b (!zt zn (!PD.b (!zt zn (!PD.b (!zt xm (!PD.b (!za (pv 2))) (!PD.b (!za (pv 2))))) (!PD.b (!zt xm (!PD.b (!zd)) (!PD.b (!za (pv 2))))))) (!PD.b (!za (pv 1))))) (!PD.b (!zd))))))
theorem zL : FnScope ["_law_number_here", "_law_most", "_law_wide", "_law_count", "_law_found_here", "_law_place", "_law_k", "_law_low", "_law_high", "_law_names", "_law_at", "_law_links", "_law_one", "_law_other"] ["_law_number_here", "_law_most", "_law_wide"] (zc (top 29)) := ⟨rfl, rfl, rfl, by decide +kernel, rfl, by decide +kernel, by decide +kernel⟩
theorem zcc (T : Tx K mg a) : FnOk P w K mg base CX0 2 a.f_law_yard a.d_law_yard ["_law_number_here", "_law_most", "_law_wide"] (spD K 3 F_law_yard) := by
  have O_law_drawn := yP (P := P) (w := w) (base := base) T
  refine qY (N := ["_law_number_here", "_law_most", "_law_wide", "_law_count", "_law_found_here", "_law_place", "_law_k", "_law_low", "_law_high", "_law_names", "_law_at", "_law_links", "_law_one", "_law_other"]) T.F_law_yard zL fun cdv A outer s H E hr => ?_
  have hu0 := vp hr
  have hu1 := zjM hr
  conv in (zj _) => whnf
  exact (!ze (!zq (!rfl) (!rfl) (!rfl) (!zf (!pgn (i := 3) zL.nd)) (!zt zn (!PD.b (!zd)) (!PD.b (!zt je (!PD.b (!za (pv 0))) (!PD.b (!za (pv 1))))))) (!ze (!zfl (!pgn (i := 4) zL.nd)) (!ze (!qJ PassesOwn.never (!rfl) (!zag (!rfl) T.n_range (!zk (!rfl) (!zd) (!zk (!rfl) (!zt zn (!PD.b (!za (pv 3))) (!PD.b (!zd))) (!zh)))) (!zf (!pgn (i := 5) zL.nd)) (!zi (!za3 hu1 (pv 4) (!wx (!zk (!rfl) (!zt je (!PD.b (!zx O_law_drawn (hr.mono (by omega)) (!rfl) T.m_law_drawn T.F_law_drawn.kp T.b_law_drawn (!zk (!rfl) (!za (pv 0)) (!zk (!rfl) (!za (pv 5)) (!zh))))) (!PD.b (!za (pv 5)))) (!zk (!rfl) (!za (pv 5)) (!zh)))) (!zt zn (!PD.b (!zd)) (!PD.b (!zt je (!PD.b (!zx O_law_drawn (hr.mono (by omega)) (!rfl) T.m_law_drawn T.F_law_drawn.kp T.b_law_drawn (!zk (!rfl) (!za (pv 0)) (!zk (!rfl) (!zt zn (!PD.b (!zd)) (!PD.b (!za (pv 5)))) (!zh))))) (!PD.b (!za (pv 2))))))))) (!ze (!qJ PassesOwn.never (!rfl) (!yV (!rfl) T.n_range (!zk (!rfl) (!zt je (!PD.b (!zt xW (!PD.b (!za (pv 0))) (!PD.b (!zd)))) (!PD.b (!zd))) (!zh))) (!zf (!pgn (i := 6) zL.nd)) (!ze (!zq (!rfl) (!rfl) (!rfl) (!zf (!pgn (i := 7) zL.nd)) (!zt je (!PD.b (!zx O_law_drawn (hr.mono (by omega)) (!rfl) T.m_law_drawn T.F_law_drawn.kp T.b_law_drawn (!zk (!rfl) (!za (pv 0)) (!zk (!rfl) (!zt zn (!PD.b (!zd)) (!PD.b (!za (pv 6)))) (!zh))))) (!PD.b (!zt zn (!PD.b (!za (pv 3))) (!PD.b (!zd)))))) (!ze (!zq (!rfl) (!rfl) (!rfl) (!zf (!pgn (i := 8) zL.nd)) (!zt je (!PD.b (!zx O_law_drawn (hr.mono (by omega)) (!rfl) T.m_law_drawn T.F_law_drawn.kp T.b_law_drawn (!zk (!rfl) (!za (pv 0)) (!zk (!rfl) (!zt zn (!PD.b (!zd)) (!PD.b (!za (pv 6)))) (!zh))))) (!PD.b (!zt zn (!PD.b (!za (pv 3))) (!PD.b (!zd)))))) (!zi (!jp (!zK (zae hu0) (!PD.b (!za (pv 7))) (!PD.b (!za (pv 8))) (jk _)) (!zi (!za3 hu1 (pv 4) (!wx (!zk (!rfl) (!za (pv 7)) (!zk (!rfl) (!za (pv 8)) (!zh)))) (!zt zn (!PD.b (!zd)) (!PD.b (!zt je (!PD.b (!zx O_law_drawn (hr.mono (by omega)) (!rfl) T.m_law_drawn T.F_law_drawn.kp T.b_law_drawn (!zk (!rfl) (!za (pv 0)) (!zk (!rfl) (!zt zn (!PD.b (!zd)) (!PD.b (!za (pv 6)))) (!zh))))) (!PD.b (!za (pv 2)))))))) (!zC)))))) (!ze (!zq (!rfl) (!rfl) (!rfl) (!zf (!pgn (i := 9) zL.nd)) (!PFr.d_ (!wo (!zk (!rfl) (!zd) (!zh))))) (!ze (!qJ PassesOwn.never (!rfl) (!zag (!rfl) T.n_range (!zk (!rfl) (!zd) (!zk (!rfl) (!zt zn (!PD.b (!za (pv 3))) (!PD.b (!zd))) (!zh)))) (!zf (!pgn (i := 5) zL.nd)) (!ze (!zq (!rfl) (!rfl) (!rfl) (!zf (!pgn (i := 10) zL.nd)) (!zt zn (!PD.b (!zd)) (!PD.b (!zt je (!PD.b (!zx O_law_drawn (hr.mono (by omega)) (!rfl) T.m_law_drawn T.F_law_drawn.kp T.b_law_drawn (!zk (!rfl) (!za (pv 0)) (!zk (!rfl) (!zt zn (!PD.b (!zd)) (!PD.b (!za (pv 5)))) (!zh))))) (!PD.b (!za (pv 5))))))) (!zi (!zq (!rfl) (!rfl) (!rfl) (!zf (!pgn (i := 9) zL.nd)) (!zt zn (!PD.b (!zt zn (!PD.b (!zG (!PD.b (!za (pv 9))) (!zQ) (!zw (!PD.b (!za (pv 10)))))) (!PD.b (!PFr.d_ (!wo (!zk (!rfl) (!za (pv 5)) (!zh))))))) (!PD.b (!zG (!PD.b (!za (pv 9))) (!zw (!PD.b (!za (pv 10)))) (!zQ)))))))) (!ze (!zda (!rfl) (!rfl) (!rfl) (!pgn (i := 11) zL.nd) (!wo (!zh))) (!ze (!zd0 4 (!qJ PassesOwn.never (!rfl) (!zea (!za (pv 4))) (!yq (!rfl) (!ji (!zf (!pgn (i := 7) zL.nd)) (!ji (!zf (!pgn (i := 8) zL.nd)) (!xS)))) (!ze (!zq (!rfl) (!rfl) (!rfl) (!zf (!pgn (i := 12) zL.nd)) (!qm (!PD.b (!za (pv 9))) (!PD.b (!za (pv 7))) (fun _ _ => (!rfl)))) (!ze (!zq (!rfl) (!rfl) (!rfl) (!zf (!pgn (i := 13) zL.nd)) (!qm (!PD.b (!za (pv 9))) (!PD.b (!za (pv 8))) (fun _ _ => (!rfl)))) (!zi (!zcp (pv 11) (!wx (!zk (!rfl) (!zO (zfQ (!rfl)) (!rfl) T.n_min boot_min (!jQ (!rfl) (!PD.b (!za (pv 12))) (!jQ (!rfl) (!PD.b (!za (pv 13))) (!zH)))) (!zk (!rfl) (!zO (zfx (!rfl)) (!rfl) T.n_max boot_max (!jQ (!rfl) (!PD.b (!za (pv 12))) (!jQ (!rfl) (!PD.b (!za (pv 13))) (!zH)))) (!zk (!rfl) (!zgb hu1 (!wm (pv 4)) (!PD.b (!wx (!zk (!rfl) (!za (pv 7)) (!zk (!rfl) (!za (pv 8)) (!zh))))) (fun _ _ => (!rfl))) (!zh))))))))))) (!zi (!zo (!wx (!zk (!rfl) (!za (pv 3)) (!zk (!rfl) (!qq xt (!rfl) T.n_tuple boot_tuple (!jQ (!rfl) (!PD.b (!PFr.d_ (!zfR (!rfl) T.n_sorted (!jQ (!rfl) (!wm (pv 11)) (!zH))))) (!zH))) (!zh))))))))))))))
theorem zbS : FnScope ["_law_thing", "_law_low", "_law_high"] ["_law_thing", "_law_low", "_law_high"] (zc (top 31)) := ⟨rfl, rfl, rfl, by decide +kernel, rfl, by decide +kernel, by decide +kernel⟩
theorem wV (T : Tx K mg a) : FnOk P w K mg base CX0 1 a.f_law_number a.d_law_number ["_law_thing", "_law_low", "_law_high"] (spD K 3 F_law_number) := by
  refine qY (N := ["_law_thing", "_law_low", "_law_high"]) T.F_law_number zbS fun cdv A outer s H E hr => ?_
  conv in (zj _) => whnf
  exact (!zi (!zo (!xw (!qi (zep _) (!PD.b (!za (pv 0))) (!rfl) T.n_isinstance (!rfl) T.n_int boot_isinstance boot_int) (!xw (!zdW (!qi (zcL _) (!PD.b (!za (pv 0))) (!rfl) T.n_isinstance (!rfl) T.n_bool boot_isinstance boot_bool)) (!xM (!zc7 zcX zcX (!PD.b (!za (pv 1))) (!PD.b (!za (pv 0))) (!PD.b (!za (pv 2)))))))))
theorem zaE : FnScope ["_law_thing", "_law_count"] ["_law_thing", "_law_count"] (zc (top 32)) := ⟨rfl, rfl, rfl, by decide +kernel, rfl, by decide +kernel, by decide +kernel⟩
theorem kl (T : Tx K mg a) : FnOk P w K mg base CX0 2 a.f_law_is_link a.d_law_is_link ["_law_thing", "_law_count"] (spD K 2 F_law_is_link) := by
  have O_law_number := wV (P := P) (w := w) (base := base) T
  refine qY (N := ["_law_thing", "_law_count"]) T.F_law_is_link zaE fun cdv A outer s H E hr => ?_
  have hu64 := qx hr
  have hu0 := vp hr
  conv in (zj _) => whnf
  exact (!ze (!jp (!PWd.t (!ww (!jS (!jR (!PD.b (!qi (kit_tuple _) (!PD.b (!za (pv 0))) (!rfl) T.n_isinstance (!rfl) T.n_tuple boot_isinstance boot_tuple)))) (!xq (!zK (xy hu64) (!PD.b (!zO jb (!rfl) T.n_len boot_len (!jQ (!rfl) (!PD.b (!za (pv 0))) (!zH)))) (!PD.b (!zd)) (jk _))))) (!zi (!zo (!xg))) (!zC)) (!ze (!jp (!PWd.t (!ww (!jS (!jR (!PD.b (!zx O_law_number (hr.mono (by omega)) (!rfl) T.m_law_number T.F_law_number.kp T.b_law_number (!zk (!rfl) (!qm (!PD.b (!za (pv 0))) (!PD.b (!zd)) (fun _ _ => (!rfl))) (!zk (!rfl) (!zd) (!zk (!rfl) (!za (pv 1)) (!zh)))))))) (!xq (!jS (!jR (!PD.b (!zx O_law_number (hr.mono (by omega)) (!rfl) T.m_law_number T.F_law_number.kp T.b_law_number (!zk (!rfl) (!qm (!PD.b (!za (pv 0))) (!PD.b (!zd)) (fun _ _ => (!rfl))) (!zk (!rfl) (!zd) (!zk (!rfl) (!za (pv 1)) (!zh))))))))))) (!zi (!zo (!xg))) (!zC)) (!zi (!zo (!xw (!wk (zae hu0) (!PD.b (!qm (!PD.b (!za (pv 0))) (!PD.b (!zd)) (fun _ _ => (!rfl)))) (!PD.b (!qm (!PD.b (!za (pv 0))) (!PD.b (!zd)) (fun _ _ => (!rfl)))) (jk _)) (!xM (!zx O_law_number (hr.mono (by omega)) (!rfl) T.m_law_number T.F_law_number.kp T.b_law_number (!zk (!rfl) (!qm (!PD.b (!za (pv 0))) (!PD.b (!zd)) (fun _ _ => (!rfl))) (!zk (!rfl) (!zd) (!zk (!rfl) (!zd) (!zh)))))))))))
theorem jM : FnScope ["_law_thing", "_law_pairs", "_law_met", "_law_k", "_law_low", "_law_high"] ["_law_thing"] (zc (top 33)) := ⟨rfl, rfl, rfl, by decide +kernel, rfl, by decide +kernel, by decide +kernel⟩
theorem ku (T : Tx K mg a) : FnOk P w K mg base CX0 3 a.f_law_is_yard a.d_law_is_yard ["_law_thing"] (spD K 1 F_law_is_yard) := by
  have O_law_number := wV (P := P) (w := w) (base := base) T
  have O_law_is_link := kl (P := P) (w := w) (base := base) T
  refine qY (N := ["_law_thing", "_law_pairs", "_law_met", "_law_k", "_law_low", "_law_high"]) T.F_law_is_yard jM fun cdv A outer s H E hr => ?_
  have hu66 := zh2 hr
  have hu64 := qx hr
  have hu0 := vp hr
  conv in (zj _) => whnf
  exact (!ze (!jp (!PWd.t (!ww (!jS (!jR (!PD.b (!qi (kit_tuple _) (!PD.b (!za (pv 0))) (!rfl) T.n_isinstance (!rfl) T.n_tuple boot_isinstance boot_tuple)))) (!ww (!zK (xy hu64) (!PD.b (!zO jb (!rfl) T.n_len boot_len (!jQ (!rfl) (!PD.b (!za (pv 0))) (!zH)))) (!PD.b (!zd)) (jk _)) (!xq (!jS (!jR (!PD.b (!zx O_law_number (hr.mono (by omega)) (!rfl) T.m_law_number T.F_law_number.kp T.b_law_number (!zk (!rfl) (!qm (!PD.b (!za (pv 0))) (!PD.b (!zd)) (fun _ _ => (!rfl))) (!zk (!rfl) (!zd) (!zk (!rfl) (!zd) (!zh)))))))))))) (!zi (!zo (!xg))) (!zC)) (!ze (!jp (!PWd.t (!ww (!jS (!jR (!PD.b (!qi (kit_tuple _) (!PD.b (!qm (!PD.b (!za (pv 0))) (!PD.b (!zd)) (fun _ _ => (!rfl)))) (!rfl) T.n_isinstance (!rfl) T.n_tuple boot_isinstance boot_tuple)))) (!xq (!zK (xy hu64) (!PD.b (!PFr.d_ (!xP (jA (oscope := zc (top 33)) (oN := ["_law_thing", "_law_pairs", "_law_met", "_law_k", "_law_low", "_law_high"]) (own := ["_law_link"]) (caps := [0]) (N := ["_law_link", "_law_thing"]) (by decide +kernel) (!rfl) (!rfl)) (by decide) (jv (by decide)) (!rfl) (!qW (!qm (!PD.b (!za (pv 0))) (!PD.b (!zd)) (fun _ _ => (!rfl)))) (fun _ _ _ _ _ => (!zf (jU (i := 0) (nd_ ["_law_link", "_law_thing"]) (!rfl) (Or.inl (!rfl))))) (fun _ _ _ _ _ => (!zdd (!jS (!jR (!PD.b (!zx O_law_is_link (hr.mono (by omega)) (!rfl) T.m_law_is_link T.F_law_is_link.kp T.b_law_is_link (!zk (!rfl) (!za (pv 0)) (!zk (!rfl) (!qm (!PD.b (!za (pv 1))) (!PD.b (!zd)) (fun _ _ => (!rfl))) (!zh))))))))) (fun _ _ _ _ _ => (!za (pv 0)))))) (!PD.b (!PFr.d_ (!wo (!zh)))) (jk _))))) (!zi (!zo (!xg))) (!zC)) (!ze (!zq (!rfl) (!rfl) (!rfl) (!zf (!pgn (i := 1) jM.nd)) (!PFr.d_ (!xP (jA (oscope := zc (top 33)) (oN := ["_law_thing", "_law_pairs", "_law_met", "_law_k", "_law_low", "_law_high"]) (own := ["_law_link"]) (caps := []) (N := ["_law_link"]) (by decide +kernel) (!rfl) (!rfl)) (by decide) (jv (by decide)) (!rfl) (!qW (!qm (!PD.b (!za (pv 0))) (!PD.b (!zd)) (fun _ _ => (!rfl)))) (fun _ _ _ _ _ => (!zf (jU (i := 0) (nd_ ["_law_link"]) (!rfl) (Or.inl (!rfl))))) (fun _ _ _ _ _ => (!qj)) (fun _ _ _ _ _ => (!zG (!PD.b (!za (pv 0))) (!zQ) (!zw (!PD.b (!zd)))))))) (!ze (!jp (!zK (xy hu64) (!PD.b (!PFr.d_ (!xP (jA (oscope := zc (top 33)) (oN := ["_law_thing", "_law_pairs", "_law_met", "_law_k", "_law_low", "_law_high"]) (own := ["_law_k"]) (caps := [1]) (N := ["_law_k", "_law_pairs"]) (by decide +kernel) (!rfl) (!rfl)) (by decide) (jv (by decide)) (!rfl) (!zag (!rfl) T.n_range (!zk (!rfl) (!zd) (!zk (!rfl) (!zO jb (!rfl) T.n_len boot_len (!jQ (!rfl) (!PD.b (!za (pv 1))) (!zH))) (!zh)))) (fun _ _ _ _ _ => (!zf (jU (i := 0) (nd_ ["_law_k", "_law_pairs"]) (!rfl) (Or.inl (!rfl))))) (fun _ _ _ _ _ => (!zdd (!zK (zjG hu0) (!PD.b (!qm (!PD.b (!za (pv 1))) (!PD.b (!zt zeo (!PD.b (!za (pv 0))) (!PD.b (!zd)))) (fun _ _ => (!rfl)))) (!PD.b (!qm (!PD.b (!za (pv 1))) (!PD.b (!za (pv 0))) (fun _ _ => (!rfl)))) (jk _)))) (fun _ _ _ _ _ => (!za (pv 0)))))) (!PD.b (!PFr.d_ (!wo (!zh)))) (jk _)) (!zi (!zo (!xg))) (!zC)) (!ze (!zda (!rfl) (!rfl) (!rfl) (!pgn (i := 2) jM.nd) (!wo (!zk (!rfl) (!zd) (!zh)))) (!ze (!qJ PassesOwn.never (!rfl) (!yV (!rfl) T.n_range (!zk (!rfl) (!qm (!PD.b (!za (pv 0))) (!PD.b (!zd)) (fun _ _ => (!rfl))) (!zh))) (!zf (!pgn (i := 3) jM.nd)) (!zi (!qJ PassesOwn.never (!rfl) (!qW (!za (pv 1))) (!yq (!rfl) (!ji (!zf (!pgn (i := 4) jM.nd)) (!ji (!zf (!pgn (i := 5) jM.nd)) (!xS)))) (!ze (!jp (!PWd.t (!zfv (!zK (zg9 hu66) (!PD.b (!za (pv 4))) (!wm (pv 2)) (by rfl)) (!zcC (!zK (zbc hu66) (!PD.b (!za (pv 5))) (!wm (pv 2)) (by rfl))))) (!zi (!zcp (pv 2) (!za (pv 5)))) (!zC)) (!zi (!jp (!PWd.t (!zfv (!zK (zg9 hu66) (!PD.b (!za (pv 5))) (!wm (pv 2)) (by rfl)) (!zcC (!zK (zbc hu66) (!PD.b (!za (pv 4))) (!wm (pv 2)) (by rfl))))) (!zi (!zcp (pv 2) (!za (pv 4)))) (!zC))))))) (!zi (!zo (!wk (wv hu64) (!PD.b (!zO jb (!rfl) T.n_len boot_len (!jQ (!rfl) (!wm (pv 2)) (!zH)))) (!PD.b (!zt zn (!PD.b (!qm (!PD.b (!za (pv 0))) (!PD.b (!zd)) (fun _ _ => (!rfl)))) (!PD.b (!zd)))) (jk _))))))))))
theorem jJ : FnScope ["_law_yard_here", "_law_found_here", "_law_link", "_law_part"] ["_law_yard_here"] (zc (top 34)) := ⟨rfl, rfl, rfl, by decide +kernel, rfl, by decide +kernel, by decide +kernel⟩
theorem ko (T : Tx K mg a) : FnOk P w K mg base CX0 1 a.f_law_written a.d_law_written ["_law_yard_here"] (spD K 1 F_law_written) := by
  refine qY (N := ["_law_yard_here", "_law_found_here", "_law_link", "_law_part"]) T.F_law_written jJ fun cdv A outer s H E hr => ?_
  conv in (zj _) => whnf
  exact (!ze (!zq (!rfl) (!rfl) (!rfl) (!zf (!pgn (i := 1) jJ.nd)) (!zt zn (!PD.b (!qu)) (!PD.b (!qq zbt (!rfl) T.n_str boot_str (!jQ (!rfl) (!PD.b (!qm (!PD.b (!za (pv 0))) (!PD.b (!zd)) (fun _ _ => (!rfl)))) (!zH)))))) (!ze (!qJ PassesOwn.never (!rfl) (!qW (!qm (!PD.b (!za (pv 0))) (!PD.b (!zd)) (fun _ _ => (!rfl)))) (!zf (!pgn (i := 2) jJ.nd)) (!ze (!zq (!rfl) (!rfl) (!rfl) (!zf (!pgn (i := 1) jJ.nd)) (!zt zn (!PD.b (!za (pv 1))) (!PD.b (!qu)))) (!zi (!qJ PassesOwn.never (!rfl) (!qW (!za (pv 2))) (!zf (!pgn (i := 3) jJ.nd)) (!zi (!zq (!rfl) (!rfl) (!rfl) (!zf (!pgn (i := 1) jJ.nd)) (!zt zn (!PD.b (!zt zn (!PD.b (!za (pv 1))) (!PD.b (!qu)))) (!PD.b (!qq zbt (!rfl) T.n_str boot_str (!jQ (!rfl) (!PD.b (!za (pv 3))) (!zH))))))))))) (!zi (!zo (!za (pv 1))))))
theorem jh : FnScope ["_law_text", "_law_number_here", "_law_words", "_law_at", "_law_place", "_law_kind", "_law_sign", "_law_swapped", "_law_some"] ["_law_text", "_law_number_here"] (zc (top 35)) := ⟨rfl, rfl, rfl, by decide +kernel, rfl, by decide +kernel, by decide +kernel⟩
theorem kn (T : Tx K mg a) : FnOk P w K mg base CX0 1 a.f_law_changed a.d_law_changed ["_law_text", "_law_number_here"] (spD K 2 F_law_changed) := by
  refine qY (N := ["_law_text", "_law_number_here", "_law_words", "_law_at", "_law_place", "_law_kind", "_law_sign", "_law_swapped", "_law_some"]) T.F_law_changed jh fun cdv A outer s H E hr => ?_
  have hu64 := qx hr
  have hu0 := vp hr
  conv in (zj _) => whnf
  exact (!ze (!zq (!rfl) (!rfl) (!rfl) (!zf (!pgn (i := 2) jh.nd)) (!PFr.d_ (!vk (!za (pv 0))))) (!ze (!zq (!rfl) (!rfl) (!rfl) (!zf (!pgn (i := 3) jh.nd)) (!zt je (!PD.b (!zt xW (!PD.b (!za (pv 1))) (!PD.b (!zd)))) (!PD.b (!zO jb (!rfl) T.n_len boot_len (!jQ (!rfl) (!PD.b (!za (pv 2))) (!zH)))))) (!ze (!zq (!rfl) (!rfl) (!rfl) (!zf (!pgn (i := 4) jh.nd)) (!zt je (!PD.b (!zt xW (!PD.b (!za (pv 1))) (!PD.b (!zd)))) (!PD.b (!zt zn (!PD.b (!zO jb (!rfl) T.n_len boot_len (!jQ (!rfl) (!PD.b (!za (pv 0))) (!zH)))) (!PD.b (!zd)))))) (!ze (!zq (!rfl) (!rfl) (!rfl) (!zf (!pgn (i := 5) jh.nd)) (!zt je (!PD.b (!za (pv 1))) (!PD.b (!zd)))) (!ze (!jp (!zK (wv hu64) (!PD.b (!za (pv 5))) (!PD.b (!zd)) (jk _)) (!zi (!zo (!zt zn (!PD.b (!yk (!PD.b (!za (pv 0))) (!zQ) (!zw (!PD.b (!za (pv 4)))))) (!PD.b (!yk (!PD.b (!za (pv 0))) (!zw (!PD.b (!zt zn (!PD.b (!za (pv 4))) (!PD.b (!zd))))) (!zQ)))))) (!zC)) (!ze (!jp (!zK (zae hu0) (!PD.b (!za (pv 5))) (!PD.b (!zd)) (jk _)) (!ze (!zq (!rfl) (!rfl) (!rfl) (!zf (!pgn (i := 6) jh.nd)) (!qm (!PD.b (!qu)) (!PD.b (!zt je (!PD.b (!zt xW (!PD.b (!za (pv 1))) (!PD.b (!zd)))) (!PD.b (!zd)))) (fun _ _ => (!rfl)))) (!zi (!zo (!zt zn (!PD.b (!zt zn (!PD.b (!yk (!PD.b (!za (pv 0))) (!zQ) (!zw (!PD.b (!za (pv 4)))))) (!PD.b (!za (pv 6))))) (!PD.b (!yk (!PD.b (!za (pv 0))) (!zw (!PD.b (!zt zeo (!PD.b (!zt zn (!PD.b (!za (pv 4))) (!PD.b (!za (pv 5))))) (!PD.b (!zd))))) (!zQ))))))) (!zC)) (!ze (!jp (!zK (wv hu64) (!PD.b (!za (pv 5))) (!PD.b (!zd)) (jk _)) (!zi (!zo (!zak (!PD.b (!zt zn (!PD.b (!zG (!PD.b (!za (pv 2))) (!zQ) (!zw (!PD.b (!za (pv 3)))))) (!PD.b (!zG (!PD.b (!za (pv 2))) (!zw (!PD.b (!zt zn (!PD.b (!za (pv 3))) (!PD.b (!zd))))) (!zQ)))))))) (!zC)) (!ze (!jp (!zK (wv hu64) (!PD.b (!za (pv 5))) (!PD.b (!zd)) (jk _)) (!zi (!zo (!zak (!PD.b (!zt zn (!PD.b (!zt zn (!PD.b (!zG (!PD.b (!za (pv 2))) (!zQ) (!zw (!PD.b (!za (pv 3)))))) (!PD.b (!zG (!PD.b (!za (pv 2))) (!zw (!PD.b (!za (pv 3)))) (!zw (!PD.b (!zt zn (!PD.b (!za (pv 3))) (!PD.b (!zd))))))))) (!PD.b (!zG (!PD.b (!za (pv 2))) (!zw (!PD.b (!za (pv 3)))) (!zQ)))))))) (!zC)) (!ze (!jp (!zK (wv hu64) (!PD.b (!za (pv 5))) (!PD.b (!zd)) (jk _)) (!ze (!zq (!rfl) (!rfl) (!rfl) (!zf (!pgn (i := 7) jh.nd)) (!zt zn (!PD.b (!zG (!PD.b (!za (pv 2))) (!zw (!PD.b (!zt zn (!PD.b (!za (pv 3))) (!PD.b (!zd))))) (!zw (!PD.b (!zt zn (!PD.b (!za (pv 3))) (!PD.b (!zd))))))) (!PD.b (!zG (!PD.b (!za (pv 2))) (!zw (!PD.b (!za (pv 3)))) (!zw (!PD.b (!zt zn (!PD.b (!za (pv 3))) (!PD.b (!zd))))))))) (!zi (!zo (!zak (!PD.b (!zt zn (!PD.b (!zt zn (!PD.b (!zG (!PD.b (!za (pv 2))) (!zQ) (!zw (!PD.b (!za (pv 3)))))) (!PD.b (!za (pv 7))))) (!PD.b (!zG (!PD.b (!za (pv 2))) (!zw (!PD.b (!zt zn (!PD.b (!za (pv 3))) (!PD.b (!zd))))) (!zQ))))))))) (!zC)) (!ze (!zq (!rfl) (!rfl) (!rfl) (!zf (!pgn (i := 8) jh.nd)) (!PFr.d_ (!vk (!qu)))) (!zi (!zo (!zak (!PD.b (!zt zn (!PD.b (!zt zn (!PD.b (!zG (!PD.b (!za (pv 2))) (!zQ) (!zw (!PD.b (!za (pv 3)))))) (!PD.b (!PFr.d_ (!wo (!zk (!rfl) (!qm (!PD.b (!za (pv 8))) (!PD.b (!zt je (!PD.b (!zt xW (!PD.b (!za (pv 1))) (!PD.b (!zd)))) (!PD.b (!zd)))) (fun _ _ => (!rfl))) (!zh))))))) (!PD.b (!zG (!PD.b (!za (pv 2))) (!zw (!PD.b (!zt zn (!PD.b (!za (pv 3))) (!PD.b (!zd))))) (!zQ))))))))))))))))))
theorem qO : FnScope ["_law_text", "_law_found_here", "e", "_law_some", "_law_good"] ["_law_text"] (zc (top 36)) := ⟨rfl, rfl, rfl, by decide +kernel, rfl, by decide +kernel, by decide +kernel⟩
theorem zb1 {e0 : Nat} {c : Str} {d : D} {r0 r1 r2 r3 r4 : Option En} (h : xi 0 c ([r0, r1, r2, r3, r4].set 2 (some (.val (adrD 0)))) = some (.ret d)) : xi e0 c ([r0, r1, r2, r3, r4].set 2 (some (.val (adrD e0)))) = some (.ret d) := by
  simp [xi, sSeq, sAsg, sRet, hName, gLs, gLst, zb, gNil, gExc, gVar, gA, g2, gK, qP, zcb, gBo, jT, adrD, sizeLine, anyD, yI, jO] at h ⊢; exact h
theorem zby (T : Tx K mg a) : FnOk P w K mg base CX0 6 a.f_law_found a.d_law_found ["_law_text"] (spD K 1 F_law_found) := by
  have O_read := ziu (P := P) (w := w) (base := base) T
  have OX_read := zg6 (P := P) (w := w) (base := base) T
  refine qY (N := ["_law_text", "_law_found_here", "e", "_law_some", "_law_good"]) T.F_law_found qO fun cdv A outer s H E hr => ?_
  conv in (zj _) => whnf
  exact (!ze (!zeQ (!rfl) (!rfl) qO.nd (!rfl) (!rfl) T.k_NoText (!rfl) (fun c h => by rw [zc5 h]; exact ⟨_, T.k_NoText, T.mt_NoText_NoText⟩) (fun _ _ => (!zi (!zq (!rfl) (!rfl) (!rfl) (!zf (jU (i := 1) qO.nd (!rfl) (Or.inl (!rfl)))) (!zx O_read (hr.mono (by omega)) (!rfl) T.m_read T.F_read.kp T.b_read (!zk (!rfl) (!za (pv 0)) (!zh)))))) (fun _ _ => (!qd (!zcr (!zgJ (fun ds c h => ⟨a.x_NoText, by rw [zhH ds c h]; exact T.k_NoText⟩) OX_read (hr.mono (by omega)) (!rfl) T.m_read T.F_read.kp T.b_read (!zk (!rfl) (!za (pv 0)) (!zh)))))) (fun e0 oe vs C c E pn hc hC h1 h2 h3 => by rw [zjj hC (by rw [zc5 hc]; exact T.k_NoText)] at h1; exact (!ze (!zq (!rfl) (!rfl) (!rfl) (!zf (jU (i := 3) qO.nd (!rfl) (Or.inl (!rfl)))) (!PFr.d_ (!wo (!zk (!rfl) (!xZ (w := .ref a.x_NoYard) T.e_NoText T.ki_NoText_NoYard h1 h2 (pv 2) (wA (!rfl) T.k_NoYard (!rfl)) (!rfl) (!rfl) T.n_isinstance boot_isinstance (huniq := fun u h => h)) (!zk (!rfl) (!xZ (w := .ref a.x_NoTumble) T.e_NoText T.ki_NoText_NoTumble h1 h2 (pv 2) (wA (!rfl) T.k_NoTumble (!rfl)) (!rfl) (!rfl) T.n_isinstance boot_isinstance (huniq := fun u h => h)) (!zk (!rfl) (!xZ (w := .ref a.x_NoRest) T.e_NoText T.ki_NoText_NoRest h1 h2 (pv 2) (wA (!rfl) T.k_NoRest (!rfl)) (!rfl) (!rfl) T.n_isinstance boot_isinstance (huniq := fun u h => h)) (!zk (!rfl) (!xZ (w := .ref a.x_NotLasting) T.e_NoText T.ki_NoText_NotLasting h1 h2 (pv 2) (wA (!rfl) T.k_NotLasting (!rfl)) (!rfl) (!rfl) T.n_isinstance boot_isinstance (huniq := fun u h => h)) (!zh)))))))) (!ze (!zq (!rfl) (!rfl) (!rfl) (!zf (jU (i := 4) qO.nd (!rfl) (Or.inl (!rfl)))) (!xw (!xZ (w := .ref a.x_SandError) T.e_NoText T.ki_NoText_SandError h1 h2 (pv 2) (wA (!rfl) T.k_SandError (!rfl)) (!rfl) (!rfl) T.n_isinstance boot_isinstance (huniq := fun u h => h)) (!xw (!xZ (w := .ty "ValueError") T.e_NoText T.ki_NoText_ValueError h1 h2 (pv 2) (ze9 (!rfl) T.n_ValueError vM (!rfl)) (!rfl) (!rfl) T.n_isinstance boot_isinstance (huniq := fun u h => h)) (!xM (!zdW (!zO (zdE h2 h3) (!rfl) T.n_any boot_any (!jQ (!rfl) (!PD.b (!za (pv 3))) (!zH)))))))) (!zi (!zo (!qm (!PD.b (!PFr.d_ (!wo (!zk (!rfl) (!wx (!zh)) (!zk (!rfl) (!zci) (!zh)))))) (!PD.b (!qq zbM (!rfl) T.n_int boot_int (!jQ (!rfl) (!PD.b (!za (pv 4))) (!zH)))) (fun _ _ => (!rfl)))))))) (fun e0 c ρ d hl => match ρ, hl with | [r0, r1, r2, r3, r4], _ => (by intro h; exact zb1 h))) (!zi (!zo (!qm (!PD.b (!PFr.d_ (!wo (!zk (!rfl) (!za (pv 1)) (!zk (!rfl) (!wx (!zh)) (!zh)))))) (!PD.b (!qq zbM (!rfl) T.n_int boot_int (!jQ (!rfl) (!PD.b (!wk zeE (!PD.b (!za (pv 1))) (!PD.b (!zci)) (by rfl))) (!zH)))) (fun _ _ => (!rfl))))))
theorem zbx : FnScope ["_law_script", "_law_yard_here", "_law_first", "_law_number_here", "_law_text", "_law_k", "_law_found_here"] ["_law_script"] (zc (top 37)) := ⟨rfl, rfl, rfl, by decide +kernel, rfl, by decide +kernel, by decide +kernel⟩
theorem zjE (T : Tx K mg a) : FnOk P w K mg base CX0 7 a.f_law a.d_law ["_law_script"] (spD K 1 F_law) := by
  have O_law_mixed := za9 (P := P) (w := w) (base := base) T
  have O_law_yard := zcc (P := P) (w := w) (base := base) T
  have O_law_written := ko (P := P) (w := w) (base := base) T
  have O_law_drawn := yP (P := P) (w := w) (base := base) T
  have O_law_changed := kn (P := P) (w := w) (base := base) T
  have O_law_found := zby (P := P) (w := w) (base := base) T
  have O_law_is_yard := ku (P := P) (w := w) (base := base) T
  refine qY (N := ["_law_script", "_law_yard_here", "_law_first", "_law_number_here", "_law_text", "_law_k", "_law_found_here"]) T.F_law zbx fun cdv A outer s H E hr => ?_
  have hu64 := qx hr
  conv in (zj _) => whnf
  exact (!ze (!zq (!rfl) (!rfl) (!rfl) (!zf (!pgn (i := 1) zbx.nd)) (!zx O_law_yard (hr.mono (by omega)) (!rfl) T.m_law_yard T.F_law_yard.kp T.b_law_yard (!zk (!rfl) (!zx O_law_mixed (hr.mono (by omega)) (!rfl) T.m_law_mixed T.F_law_mixed.kp T.b_law_mixed (!zk (!rfl) (!za (pv 0)) (!zk (!rfl) (!zd) (!zh)))) (!zk (!rfl) (!zd) (!zk (!rfl) (!zd) (!zh)))))) (!ze (!zq (!rfl) (!rfl) (!rfl) (!zf (!pgn (i := 2) zbx.nd)) (!zx O_law_written (hr.mono (by omega)) (!rfl) T.m_law_written T.F_law_written.kp T.b_law_written (!zk (!rfl) (!za (pv 1)) (!zh)))) (!ze (!zq (!rfl) (!rfl) (!rfl) (!zf (!pgn (i := 3) zbx.nd)) (!zx O_law_mixed (hr.mono (by omega)) (!rfl) T.m_law_mixed T.F_law_mixed.kp T.b_law_mixed (!zk (!rfl) (!za (pv 0)) (!zk (!rfl) (!zd) (!zh))))) (!ze (!zq (!rfl) (!rfl) (!rfl) (!zf (!pgn (i := 4) zbx.nd)) (!za (pv 2))) (!ze (!qJ PassesOwn.never (!rfl) (!yV (!rfl) T.n_range (!zk (!rfl) (!zt xm (!PD.b (!zt je (!PD.b (!za (pv 3))) (!PD.b (!zd)))) (!PD.b (!zt zn (!PD.b (!zd)) (!PD.b (!zt je (!PD.b (!zt xW (!PD.b (!za (pv 3))) (!PD.b (!zd)))) (!PD.b (!zd))))))) (!zh))) (!zf (!pgn (i := 5) zbx.nd)) (!zi (!zq (!rfl) (!rfl) (!rfl) (!zf (!pgn (i := 4) zbx.nd)) (!zx O_law_changed (hr.mono (by omega)) (!rfl) T.m_law_changed T.F_law_changed.kp T.b_law_changed (!zk (!rfl) (!za (pv 4)) (!zk (!rfl) (!zx O_law_drawn (hr.mono (by omega)) (!rfl) T.m_law_drawn T.F_law_drawn.kp T.b_law_drawn (!zk (!rfl) (!za (pv 3)) (!zk (!rfl) (!za (pv 5)) (!zh)))) (!zh))))))) (!ze (!zq (!rfl) (!rfl) (!rfl) (!zf (!pgn (i := 6) zbx.nd)) (!zx O_law_found (hr.mono (by omega)) (!rfl) T.m_law_found T.F_law_found.kp T.b_law_found (!zk (!rfl) (!za (pv 4)) (!zh)))) (!ze (!jp (!zK (wv hu64) (!PD.b (!za (pv 4))) (!PD.b (!za (pv 2))) (jk _)) (!zi (!zo (!xw (!wk (wv hu64) (!PD.b (!za (pv 6))) (!PD.b (!za (pv 1))) (jk _)) (!xM (!zx O_law_is_yard (hr.mono (by omega)) (!rfl) T.m_law_is_yard T.F_law_is_yard.kp T.b_law_is_yard (!zk (!rfl) (!za (pv 6)) (!zh))))))) (!zC)) (!zi (!zo (!zkB (!wk zeE (!PD.b (!za (pv 6))) (!PD.b (!zci)) (by rfl)) (!xM (!xw (!zx O_law_is_yard (hr.mono (by omega)) (!rfl) T.m_law_is_yard T.F_law_is_yard.kp T.b_law_is_yard (!zk (!rfl) (!za (pv 6)) (!zh))) (!xM (!wk (wv hu64) (!PD.b (!zx O_law_written (hr.mono (by omega)) (!rfl) T.m_law_written T.F_law_written.kp T.b_law_written (!zk (!rfl) (!za (pv 6)) (!zh)))) (!PD.b (!za (pv 4))) (jk _)))))))))))))))
end
end L2.Y
set_option maxHeartbeats 4000000
namespace L2.Y
open PySem PySem.Spec PyProof.Rows
theorem all_mk {l : PySem.W.OpenLaw} {w : World} {K : Frag} {h : Heap} {mg : Str → Option Value} {fa : Addr} (X : K.In h) (G : h.Ns mainGlobals mg) (hfa : mg "law" = some (.ref fa))
    {f0 : Addr} {od0 an0 : Option Addr} {sl0 : Array (Option Value)} {oc0 kV0 dc0 pm0 cd0 ct0 : Value}
    (a0 : PySem.W.nsIn K mainGlobals "is_whole" = some (some (.ref f0)))
    (l0 : K.lookup f0 = some ⟨oc0, od0, .func (PySem.W.fnOf "is_whole" "is_whole" (zr (top 11)) (zj (top 11)) (zc (top 11)) .none kV0 dc0 pm0 an0 cd0 ct0), sl0⟩)
    (c0 : PySem.W.codeIn K cd0 "is_whole" = true) (k0 : PySem.W.keepIn K (.ref f0) = true)
    {f1 : Addr} {od1 an1 : Option Addr} {sl1 : Array (Option Value)} {oc1 kV1 dc1 pm1 cd1 ct1 : Value}
    (a1 : PySem.W.nsIn K mainGlobals "is_whole_within" = some (some (.ref f1)))
    (l1 : K.lookup f1 = some ⟨oc1, od1, .func (PySem.W.fnOf "is_whole_within" "is_whole_within" (zr (top 12)) (zj (top 12)) (zc (top 12)) .none kV1 dc1 pm1 an1 cd1 ct1), sl1⟩)
    (c1 : PySem.W.codeIn K cd1 "is_whole_within" = true) (k1 : PySem.W.keepIn K (.ref f1) = true)
    {f2 : Addr} {od2 an2 : Option Addr} {sl2 : Array (Option Value)} {oc2 kV2 dc2 pm2 cd2 ct2 : Value}
    (a2 : PySem.W.nsIn K mainGlobals "is_tuple_of_length" = some (some (.ref f2)))
    (l2 : K.lookup f2 = some ⟨oc2, od2, .func (PySem.W.fnOf "is_tuple_of_length" "is_tuple_of_length" (zr (top 13)) (zj (top 13)) (zc (top 13)) .none kV2 dc2 pm2 an2 cd2 ct2), sl2⟩)
    (c2 : PySem.W.codeIn K cd2 "is_tuple_of_length" = true) (k2 : PySem.W.keepIn K (.ref f2) = true)
    {f3 : Addr} {od3 an3 : Option Addr} {sl3 : Array (Option Value)} {oc3 kV3 dc3 pm3 cd3 ct3 : Value}
    (a3 : PySem.W.nsIn K mainGlobals "is_tie" = some (some (.ref f3)))
    (l3 : K.lookup f3 = some ⟨oc3, od3, .func (PySem.W.fnOf "is_tie" "is_tie" (zr (top 14)) (zj (top 14)) (zc (top 14)) .none kV3 dc3 pm3 an3 cd3 ct3), sl3⟩)
    (c3 : PySem.W.codeIn K cd3 "is_tie" = true) (k3 : PySem.W.keepIn K (.ref f3) = true)
    {f4 : Addr} {od4 an4 : Option Addr} {sl4 : Array (Option Value)} {oc4 kV4 dc4 pm4 cd4 ct4 : Value}
    (a4 : PySem.W.nsIn K mainGlobals "are_rising" = some (some (.ref f4)))
    (l4 : K.lookup f4 = some ⟨oc4, od4, .func (PySem.W.fnOf "are_rising" "are_rising" (zr (top 15)) (zj (top 15)) (zc (top 15)) .none kV4 dc4 pm4 an4 cd4 ct4), sl4⟩)
    (c4 : PySem.W.codeIn K cd4 "are_rising" = true) (k4 : PySem.W.keepIn K (.ref f4) = true)
    {f5 : Addr} {od5 an5 : Option Addr} {sl5 : Array (Option Value)} {oc5 kV5 dc5 pm5 cd5 ct5 : Value}
    (a5 : PySem.W.nsIn K mainGlobals "all_lead_to_ditch" = some (some (.ref f5)))
    (l5 : K.lookup f5 = some ⟨oc5, od5, .func (PySem.W.fnOf "all_lead_to_ditch" "all_lead_to_ditch" (zr (top 16)) (zj (top 16)) (zc (top 16)) .none kV5 dc5 pm5 an5 cd5 ct5), sl5⟩)
    (c5 : PySem.W.codeIn K cd5 "all_lead_to_ditch" = true) (k5 : PySem.W.keepIn K (.ref f5) = true)
    {f6 : Addr} {od6 an6 : Option Addr} {sl6 : Array (Option Value)} {oc6 kV6 dc6 pm6 cd6 ct6 : Value}
    (a6 : PySem.W.nsIn K mainGlobals "is_yard" = some (some (.ref f6)))
    (l6 : K.lookup f6 = some ⟨oc6, od6, .func (PySem.W.fnOf "is_yard" "is_yard" (zr (top 17)) (zj (top 17)) (zc (top 17)) .none kV6 dc6 pm6 an6 cd6 ct6), sl6⟩)
    (c6 : PySem.W.codeIn K cd6 "is_yard" = true) (k6 : PySem.W.keepIn K (.ref f6) = true)
    {f7 : Addr} {od7 an7 : Option Addr} {sl7 : Array (Option Value)} {oc7 kV7 dc7 pm7 cd7 ct7 : Value}
    (a7 : PySem.W.nsIn K mainGlobals "number_of" = some (some (.ref f7)))
    (l7 : K.lookup f7 = some ⟨oc7, od7, .func (PySem.W.fnOf "number_of" "number_of" (zr (top 22)) (zj (top 22)) (zc (top 22)) .none kV7 dc7 pm7 an7 cd7 ct7), sl7⟩)
    (c7 : PySem.W.codeIn K cd7 "number_of" = true) (k7 : PySem.W.keepIn K (.ref f7) = true)
    {f8 : Addr} {od8 an8 : Option Addr} {sl8 : Array (Option Value)} {oc8 kV8 dc8 pm8 cd8 ct8 : Value}
    (a8 : PySem.W.nsIn K mainGlobals "numbers_behind" = some (some (.ref f8)))
    (l8 : K.lookup f8 = some ⟨oc8, od8, .func (PySem.W.fnOf "numbers_behind" "numbers_behind" (zr (top 23)) (zj (top 23)) (zc (top 23)) .none kV8 dc8 pm8 an8 cd8 ct8), sl8⟩)
    (c8 : PySem.W.codeIn K cd8 "numbers_behind" = true) (k8 : PySem.W.keepIn K (.ref f8) = true)
    {f9 : Addr} {od9 an9 : Option Addr} {sl9 : Array (Option Value)} {oc9 kV9 dc9 pm9 cd9 ct9 : Value}
    (a9 : PySem.W.nsIn K mainGlobals "read" = some (some (.ref f9)))
    (l9 : K.lookup f9 = some ⟨oc9, od9, .func (PySem.W.fnOf "read" "read" (zr (top 24)) (zj (top 24)) (zc (top 24)) .none kV9 dc9 pm9 an9 cd9 ct9), sl9⟩)
    (c9 : PySem.W.codeIn K cd9 "read" = true) (k9 : PySem.W.keepIn K (.ref f9) = true)
    {f10 : Addr} {od10 an10 : Option Addr} {sl10 : Array (Option Value)} {oc10 kV10 dc10 pm10 cd10 ct10 : Value}
    (a10 : PySem.W.nsIn K mainGlobals "_law_cell_at" = some (some (.ref f10)))
    (l10 : K.lookup f10 = some ⟨oc10, od10, .func (PySem.W.fnOf "_law_cell_at" "_law_cell_at" (zr (top 26)) (zj (top 26)) (zc (top 26)) .none kV10 dc10 pm10 an10 cd10 ct10), sl10⟩)
    (c10 : PySem.W.codeIn K cd10 "_law_cell_at" = true) (k10 : PySem.W.keepIn K (.ref f10) = true)
    {f11 : Addr} {od11 an11 : Option Addr} {sl11 : Array (Option Value)} {oc11 kV11 dc11 pm11 cd11 ct11 : Value}
    (a11 : PySem.W.nsIn K mainGlobals "_law_mixed" = some (some (.ref f11)))
    (l11 : K.lookup f11 = some ⟨oc11, od11, .func (PySem.W.fnOf "_law_mixed" "_law_mixed" (zr (top 27)) (zj (top 27)) (zc (top 27)) .none kV11 dc11 pm11 an11 cd11 ct11), sl11⟩)
    (c11 : PySem.W.codeIn K cd11 "_law_mixed" = true) (k11 : PySem.W.keepIn K (.ref f11) = true)
    {f12 : Addr} {od12 an12 : Option Addr} {sl12 : Array (Option Value)} {oc12 kV12 dc12 pm12 cd12 ct12 : Value}
    (a12 : PySem.W.nsIn K mainGlobals "_law_drawn" = some (some (.ref f12)))
    (l12 : K.lookup f12 = some ⟨oc12, od12, .func (PySem.W.fnOf "_law_drawn" "_law_drawn" (zr (top 28)) (zj (top 28)) (zc (top 28)) .none kV12 dc12 pm12 an12 cd12 ct12), sl12⟩)
    (c12 : PySem.W.codeIn K cd12 "_law_drawn" = true) (k12 : PySem.W.keepIn K (.ref f12) = true)
    {f13 : Addr} {od13 an13 : Option Addr} {sl13 : Array (Option Value)} {oc13 kV13 dc13 pm13 cd13 ct13 : Value}
    (a13 : PySem.W.nsIn K mainGlobals "_law_yard" = some (some (.ref f13)))
    (l13 : K.lookup f13 = some ⟨oc13, od13, .func (PySem.W.fnOf "_law_yard" "_law_yard" (zr (top 29)) (zj (top 29)) (zc (top 29)) .none kV13 dc13 pm13 an13 cd13 ct13), sl13⟩)
    (c13 : PySem.W.codeIn K cd13 "_law_yard" = true) (k13 : PySem.W.keepIn K (.ref f13) = true)
    {f14 : Addr} {od14 an14 : Option Addr} {sl14 : Array (Option Value)} {oc14 kV14 dc14 pm14 cd14 ct14 : Value}
    (a14 : PySem.W.nsIn K mainGlobals "_law_number" = some (some (.ref f14)))
    (l14 : K.lookup f14 = some ⟨oc14, od14, .func (PySem.W.fnOf "_law_number" "_law_number" (zr (top 31)) (zj (top 31)) (zc (top 31)) .none kV14 dc14 pm14 an14 cd14 ct14), sl14⟩)
    (c14 : PySem.W.codeIn K cd14 "_law_number" = true) (k14 : PySem.W.keepIn K (.ref f14) = true)
    {f15 : Addr} {od15 an15 : Option Addr} {sl15 : Array (Option Value)} {oc15 kV15 dc15 pm15 cd15 ct15 : Value}
    (a15 : PySem.W.nsIn K mainGlobals "_law_is_link" = some (some (.ref f15)))
    (l15 : K.lookup f15 = some ⟨oc15, od15, .func (PySem.W.fnOf "_law_is_link" "_law_is_link" (zr (top 32)) (zj (top 32)) (zc (top 32)) .none kV15 dc15 pm15 an15 cd15 ct15), sl15⟩)
    (c15 : PySem.W.codeIn K cd15 "_law_is_link" = true) (k15 : PySem.W.keepIn K (.ref f15) = true)
    {f16 : Addr} {od16 an16 : Option Addr} {sl16 : Array (Option Value)} {oc16 kV16 dc16 pm16 cd16 ct16 : Value}
    (a16 : PySem.W.nsIn K mainGlobals "_law_is_yard" = some (some (.ref f16)))
    (l16 : K.lookup f16 = some ⟨oc16, od16, .func (PySem.W.fnOf "_law_is_yard" "_law_is_yard" (zr (top 33)) (zj (top 33)) (zc (top 33)) .none kV16 dc16 pm16 an16 cd16 ct16), sl16⟩)
    (c16 : PySem.W.codeIn K cd16 "_law_is_yard" = true) (k16 : PySem.W.keepIn K (.ref f16) = true)
    {f17 : Addr} {od17 an17 : Option Addr} {sl17 : Array (Option Value)} {oc17 kV17 dc17 pm17 cd17 ct17 : Value}
    (a17 : PySem.W.nsIn K mainGlobals "_law_written" = some (some (.ref f17)))
    (l17 : K.lookup f17 = some ⟨oc17, od17, .func (PySem.W.fnOf "_law_written" "_law_written" (zr (top 34)) (zj (top 34)) (zc (top 34)) .none kV17 dc17 pm17 an17 cd17 ct17), sl17⟩)
    (c17 : PySem.W.codeIn K cd17 "_law_written" = true) (k17 : PySem.W.keepIn K (.ref f17) = true)
    {f18 : Addr} {od18 an18 : Option Addr} {sl18 : Array (Option Value)} {oc18 kV18 dc18 pm18 cd18 ct18 : Value}
    (a18 : PySem.W.nsIn K mainGlobals "_law_changed" = some (some (.ref f18)))
    (l18 : K.lookup f18 = some ⟨oc18, od18, .func (PySem.W.fnOf "_law_changed" "_law_changed" (zr (top 35)) (zj (top 35)) (zc (top 35)) .none kV18 dc18 pm18 an18 cd18 ct18), sl18⟩)
    (c18 : PySem.W.codeIn K cd18 "_law_changed" = true) (k18 : PySem.W.keepIn K (.ref f18) = true)
    {f19 : Addr} {od19 an19 : Option Addr} {sl19 : Array (Option Value)} {oc19 kV19 dc19 pm19 cd19 ct19 : Value}
    (a19 : PySem.W.nsIn K mainGlobals "_law_found" = some (some (.ref f19)))
    (l19 : K.lookup f19 = some ⟨oc19, od19, .func (PySem.W.fnOf "_law_found" "_law_found" (zr (top 36)) (zj (top 36)) (zc (top 36)) .none kV19 dc19 pm19 an19 cd19 ct19), sl19⟩)
    (c19 : PySem.W.codeIn K cd19 "_law_found" = true) (k19 : PySem.W.keepIn K (.ref f19) = true)
    {f20 : Addr} {od20 an20 : Option Addr} {sl20 : Array (Option Value)} {oc20 kV20 dc20 pm20 cd20 ct20 : Value}
    (a20 : PySem.W.nsIn K mainGlobals "law" = some (some (.ref f20)))
    (l20 : K.lookup f20 = some ⟨oc20, od20, .func (PySem.W.fnOf "law" "law" (zr (top 37)) (zj (top 37)) (zc (top 37)) .none kV20 dc20 pm20 an20 cd20 ct20), sl20⟩)
    (c20 : PySem.W.codeIn K cd20 "law" = true) (k20 : PySem.W.keepIn K (.ref f20) = true)
    {x_SandError : Addr} (qx_SandError : PySem.W.nsIn K mainGlobals "SandError" = some (some (.ref x_SandError)))
    {x_NoYard : Addr} (qx_NoYard : PySem.W.nsIn K mainGlobals "NoYard" = some (some (.ref x_NoYard)))
    {x_NoText : Addr} (qx_NoText : PySem.W.nsIn K mainGlobals "NoText" = some (some (.ref x_NoText)))
    {x_NoTumble : Addr} (qx_NoTumble : PySem.W.nsIn K mainGlobals "NoTumble" = some (some (.ref x_NoTumble)))
    {x_NoRest : Addr} (qx_NoRest : PySem.W.nsIn K mainGlobals "NoRest" = some (some (.ref x_NoRest)))
    {x_NotLasting : Addr} (qx_NotLasting : PySem.W.nsIn K mainGlobals "NotLasting" = some (some (.ref x_NotLasting)))
    {c_SandError : Value} {d_SandError : Option Addr} {cd_SandError : ClassData} {s_SandError : Array (Option Value)} (lp_SandError : K.lookup x_SandError = some ⟨c_SandError, d_SandError, .cls cd_SandError, s_SandError⟩) 
    {nc_SandError : Value} {nd_SandError : Option Addr} {ne_SandError : Array DictEntry} {np_SandError : Nat} {ns_SandError : Array (Option Value)} (ln_SandError : K.lookup cd_SandError.ns = some ⟨nc_SandError, nd_SandError, .dict ne_SandError np_SandError, ns_SandError⟩) (li_SandError : (strK ne_SandError && (nsFind ne_SandError "__init__").isNone) = true)
    {nm_NoText qn_NoText : Str} {N_NoText : Addr} {bs_NoText sub_NoText : List Value} {hd_NoText ab_NoText : Bool} {sn_NoText : List Str} {col_NoText : Option Bool} {dd_NoText : Option Addr} {k0_NoText k1_NoText k2_NoText k3_NoText k5_NoText : Option Value}
    (lx_NoText : K.lookup x_NoText = some (excClassObj nm_NoText qn_NoText x_NoText N_NoText bs_NoText (.ref x_SandError :: VE) hd_NoText sn_NoText sub_NoText ab_NoText col_NoText dd_NoText k0_NoText k1_NoText k2_NoText k3_NoText k5_NoText "ValueError.__new__")) 
    {nc_NoText : Value} {nd_NoText : Option Addr} {ne_NoText : Array DictEntry} {np_NoText : Nat} {ns_NoText : Array (Option Value)} (ln_NoText : K.lookup N_NoText = some ⟨nc_NoText, nd_NoText, .dict ne_NoText np_NoText, ns_NoText⟩) (li_NoText : (strK ne_NoText && (nsFind ne_NoText "__init__").isNone) = true)
    (g1_NoText : PySem.W.findIn K (.ref x_NoText) "__getattribute__" = some (some (.builtin "BaseException.__getattribute__"))) (g2_NoText : PySem.W.findIn K (.ref x_NoText) "__getattr__" = some none) (g3_NoText : PySem.W.findIn K (.ref x_NoText) "__class__" = some (some (.builtin "object.__class__")))
    (g4_NoText : PySem.W.mroIn K x_NoText (.type "object") = some true) (g5_NoText : PySem.W.subIn K (.ref x_NoText) (.type "BaseException") = some true) (g6_NoText : PySem.W.isClsIn K x_NoText = true)
    (ic_NoRest : PySem.W.isClsIn K x_NoRest = true) (it_NoRest : PySem.W.typeIn K (.ref x_NoRest) = some (.type "type"))
    (ic_NoText : PySem.W.isClsIn K x_NoText = true) (it_NoText : PySem.W.typeIn K (.ref x_NoText) = some (.type "type"))
    (ic_NoTumble : PySem.W.isClsIn K x_NoTumble = true) (it_NoTumble : PySem.W.typeIn K (.ref x_NoTumble) = some (.type "type"))
    (ic_NoYard : PySem.W.isClsIn K x_NoYard = true) (it_NoYard : PySem.W.typeIn K (.ref x_NoYard) = some (.type "type"))
    (ic_NotLasting : PySem.W.isClsIn K x_NotLasting = true) (it_NotLasting : PySem.W.typeIn K (.ref x_NotLasting) = some (.type "type"))
    (ic_SandError : PySem.W.isClsIn K x_SandError = true) (it_SandError : PySem.W.typeIn K (.ref x_SandError) = some (.type "type"))
    (ib_NoText : PySem.W.subIn K (.ref x_NoText) (.type "BaseException") = some true)
    (sb_NoText_NoRest : PySem.W.subIn K (.ref x_NoText) (.ref x_NoRest) = some false)
    (sb_NoText_NoText : PySem.W.subIn K (.ref x_NoText) (.ref x_NoText) = some true)
    (sb_NoText_NoTumble : PySem.W.subIn K (.ref x_NoText) (.ref x_NoTumble) = some false)
    (sb_NoText_NoYard : PySem.W.subIn K (.ref x_NoText) (.ref x_NoYard) = some false)
    (sb_NoText_NotLasting : PySem.W.subIn K (.ref x_NoText) (.ref x_NotLasting) = some false)
    (sb_NoText_SandError : PySem.W.subIn K (.ref x_NoText) (.ref x_SandError) = some true)
    (sb_NoText_ValueError : PySem.W.subIn K (.ref x_NoText) (.type "ValueError") = some true)
    (nq_NoText_NoRest : Nat.beq x_NoText x_NoRest = false)
    (nq_NoText_NoTumble : Nat.beq x_NoText x_NoTumble = false)
    (nq_NoText_NoYard : Nat.beq x_NoText x_NoYard = false)
    (nq_NoText_NotLasting : Nat.beq x_NoText x_NotLasting = false)
    (nq_NoText_SandError : Nat.beq x_NoText x_SandError = false)
    {t0 : Tok} (y0 : PySem.W.nsIn K mainGlobals "DITCH" = some (some (.int 0 t0)))
    {t1 : Tok} (y1 : PySem.W.nsIn K mainGlobals "MOST_PLACES" = some (some (.int 5 t1)))
    {t2 : Tok} (y2 : PySem.W.nsIn K mainGlobals "MOST_TIES" = some (some (.int 4 t2)))
    {t3 : Tok} (y3 : PySem.W.nsIn K mainGlobals "FIGURES" = some (some (.str "0123456789" t3)))
    {t4 : Tok} (y4 : PySem.W.nsIn K mainGlobals "YARD_WORDS" = some (some (.int 2 t4)))
    {t5 : Tok} (y5 : PySem.W.nsIn K mainGlobals "LINK_WORDS" = some (some (.int 4 t5)))
    (z0 : PySem.W.nsIn K mainGlobals "ValueError" = some none)
    (z1 : PySem.W.nsIn K mainGlobals "all" = some none)
    (z2 : PySem.W.nsIn K mainGlobals "any" = some none)
    (z3 : PySem.W.nsIn K mainGlobals "bool" = some none)
    (z4 : PySem.W.nsIn K mainGlobals "int" = some none)
    (z5 : PySem.W.nsIn K mainGlobals "isinstance" = some none)
    (z6 : PySem.W.nsIn K mainGlobals "len" = some none)
    (z7 : PySem.W.nsIn K mainGlobals "max" = some none)
    (z8 : PySem.W.nsIn K mainGlobals "min" = some none)
    (z9 : PySem.W.nsIn K mainGlobals "range" = some none)
    (z10 : PySem.W.nsIn K mainGlobals "sorted" = some none)
    (z11 : PySem.W.nsIn K mainGlobals "str" = some none)
    (z12 : PySem.W.nsIn K mainGlobals "tuple" = some none)
    (z13 : PySem.W.nsIn K mainGlobals "zip" = some none)
    : ∃ fd : FuncData, (∀ (s : Shared) (v : Value), BindsTo s fd ⟨[v], []⟩ [("_law_script", v)]) ∧ ∀ base : Heap, K.In base → base.Ns mainGlobals mg → FnOk l.prog w K mg base CX0 7 fa fd ["_law_script"] (spD K 1 F_law) := by
  have e := hfa.symm.trans (PySem.W.mg_of X G a20)
  cases e
  have F0 := jX (st := top 11) l0 c0 k0
  have b0 := F0.binds (ps := ["thing"]) fun _ _ _ _ _ _ us hl => match us, hl with | [_], _ => rfl
  have F1 := jX (st := top 12) l1 c1 k1
  have b1 := F1.binds (ps := ["thing", "least", "most"]) fun _ _ _ _ _ _ us hl => match us, hl with | [_, _, _], _ => rfl
  have F2 := jX (st := top 13) l2 c2 k2
  have b2 := F2.binds (ps := ["thing", "length"]) fun _ _ _ _ _ _ us hl => match us, hl with | [_, _], _ => rfl
  have F3 := jX (st := top 14) l3 c3 k3
  have b3 := F3.binds (ps := ["thing", "count"]) fun _ _ _ _ _ _ us hl => match us, hl with | [_, _], _ => rfl
  have F4 := jX (st := top 15) l4 c4 k4
  have b4 := F4.binds (ps := ["ties"]) fun _ _ _ _ _ _ us hl => match us, hl with | [_], _ => rfl
  have F5 := jX (st := top 16) l5 c5 k5
  have b5 := F5.binds (ps := ["count", "ties"]) fun _ _ _ _ _ _ us hl => match us, hl with | [_, _], _ => rfl
  have F6 := jX (st := top 17) l6 c6 k6
  have b6 := F6.binds (ps := ["thing"]) fun _ _ _ _ _ _ us hl => match us, hl with | [_], _ => rfl
  have F7 := jX (st := top 22) l7 c7 k7
  have b7 := F7.binds (ps := ["word"]) fun _ _ _ _ _ _ us hl => match us, hl with | [_], _ => rfl
  have F8 := jX (st := top 23) l8 c8 k8
  have b8 := F8.binds (ps := ["head", "words"]) fun _ _ _ _ _ _ us hl => match us, hl with | [_, _], _ => rfl
  have F9 := jX (st := top 24) l9 c9 k9
  have b9 := F9.binds (ps := ["text"]) fun _ _ _ _ _ _ us hl => match us, hl with | [_], _ => rfl
  have F10 := jX (st := top 26) l10 c10 k10
  have b10 := F10.binds (ps := ["_law_script", "_law_k"]) fun _ _ _ _ _ _ us hl => match us, hl with | [_, _], _ => rfl
  have F11 := jX (st := top 27) l11 c11 k11
  have b11 := F11.binds (ps := ["_law_script", "_law_k"]) fun _ _ _ _ _ _ us hl => match us, hl with | [_, _], _ => rfl
  have F12 := jX (st := top 28) l12 c12 k12
  have b12 := F12.binds (ps := ["_law_number_here", "_law_k"]) fun _ _ _ _ _ _ us hl => match us, hl with | [_, _], _ => rfl
  have F13 := jX (st := top 29) l13 c13 k13
  have b13 := F13.binds (ps := ["_law_number_here", "_law_most", "_law_wide"]) fun _ _ _ _ _ _ us hl => match us, hl with | [_, _, _], _ => rfl
  have F14 := jX (st := top 31) l14 c14 k14
  have b14 := F14.binds (ps := ["_law_thing", "_law_low", "_law_high"]) fun _ _ _ _ _ _ us hl => match us, hl with | [_, _, _], _ => rfl
  have F15 := jX (st := top 32) l15 c15 k15
  have b15 := F15.binds (ps := ["_law_thing", "_law_count"]) fun _ _ _ _ _ _ us hl => match us, hl with | [_, _], _ => rfl
  have F16 := jX (st := top 33) l16 c16 k16
  have b16 := F16.binds (ps := ["_law_thing"]) fun _ _ _ _ _ _ us hl => match us, hl with | [_], _ => rfl
  have F17 := jX (st := top 34) l17 c17 k17
  have b17 := F17.binds (ps := ["_law_yard_here"]) fun _ _ _ _ _ _ us hl => match us, hl with | [_], _ => rfl
  have F18 := jX (st := top 35) l18 c18 k18
  have b18 := F18.binds (ps := ["_law_text", "_law_number_here"]) fun _ _ _ _ _ _ us hl => match us, hl with | [_, _], _ => rfl
  have F19 := jX (st := top 36) l19 c19 k19
  have b19 := F19.binds (ps := ["_law_text"]) fun _ _ _ _ _ _ us hl => match us, hl with | [_], _ => rfl
  have F20 := jX (st := top 37) l20 c20 k20
  have b20 := F20.binds (ps := ["_law_script"]) fun _ _ _ _ _ _ us hl => match us, hl with | [_], _ => rfl
  have T : Tx K mg ⟨f0, PySem.W.fnOf "is_whole" "is_whole" (zr (top 11)) (zj (top 11)) (zc (top 11)) .none kV0 dc0 pm0 an0 cd0 ct0, f1, PySem.W.fnOf "is_whole_within" "is_whole_within" (zr (top 12)) (zj (top 12)) (zc (top 12)) .none kV1 dc1 pm1 an1 cd1 ct1, f2, PySem.W.fnOf "is_tuple_of_length" "is_tuple_of_length" (zr (top 13)) (zj (top 13)) (zc (top 13)) .none kV2 dc2 pm2 an2 cd2 ct2, f3, PySem.W.fnOf "is_tie" "is_tie" (zr (top 14)) (zj (top 14)) (zc (top 14)) .none kV3 dc3 pm3 an3 cd3 ct3, f4, PySem.W.fnOf "are_rising" "are_rising" (zr (top 15)) (zj (top 15)) (zc (top 15)) .none kV4 dc4 pm4 an4 cd4 ct4, f5, PySem.W.fnOf "all_lead_to_ditch" "all_lead_to_ditch" (zr (top 16)) (zj (top 16)) (zc (top 16)) .none kV5 dc5 pm5 an5 cd5 ct5, f6, PySem.W.fnOf "is_yard" "is_yard" (zr (top 17)) (zj (top 17)) (zc (top 17)) .none kV6 dc6 pm6 an6 cd6 ct6, f7, PySem.W.fnOf "number_of" "number_of" (zr (top 22)) (zj (top 22)) (zc (top 22)) .none kV7 dc7 pm7 an7 cd7 ct7, f8, PySem.W.fnOf "numbers_behind" "numbers_behind" (zr (top 23)) (zj (top 23)) (zc (top 23)) .none kV8 dc8 pm8 an8 cd8 ct8, f9, PySem.W.fnOf "read" "read" (zr (top 24)) (zj (top 24)) (zc (top 24)) .none kV9 dc9 pm9 an9 cd9 ct9, f10, PySem.W.fnOf "_law_cell_at" "_law_cell_at" (zr (top 26)) (zj (top 26)) (zc (top 26)) .none kV10 dc10 pm10 an10 cd10 ct10, f11, PySem.W.fnOf "_law_mixed" "_law_mixed" (zr (top 27)) (zj (top 27)) (zc (top 27)) .none kV11 dc11 pm11 an11 cd11 ct11, f12, PySem.W.fnOf "_law_drawn" "_law_drawn" (zr (top 28)) (zj (top 28)) (zc (top 28)) .none kV12 dc12 pm12 an12 cd12 ct12, f13, PySem.W.fnOf "_law_yard" "_law_yard" (zr (top 29)) (zj (top 29)) (zc (top 29)) .none kV13 dc13 pm13 an13 cd13 ct13, f14, PySem.W.fnOf "_law_number" "_law_number" (zr (top 31)) (zj (top 31)) (zc (top 31)) .none kV14 dc14 pm14 an14 cd14 ct14, f15, PySem.W.fnOf "_law_is_link" "_law_is_link" (zr (top 32)) (zj (top 32)) (zc (top 32)) .none kV15 dc15 pm15 an15 cd15 ct15, f16, PySem.W.fnOf "_law_is_yard" "_law_is_yard" (zr (top 33)) (zj (top 33)) (zc (top 33)) .none kV16 dc16 pm16 an16 cd16 ct16, f17, PySem.W.fnOf "_law_written" "_law_written" (zr (top 34)) (zj (top 34)) (zc (top 34)) .none kV17 dc17 pm17 an17 cd17 ct17, f18, PySem.W.fnOf "_law_changed" "_law_changed" (zr (top 35)) (zj (top 35)) (zc (top 35)) .none kV18 dc18 pm18 an18 cd18 ct18, f19, PySem.W.fnOf "_law_found" "_law_found" (zr (top 36)) (zj (top 36)) (zc (top 36)) .none kV19 dc19 pm19 an19 cd19 ct19, fa, PySem.W.fnOf "law" "law" (zr (top 37)) (zj (top 37)) (zc (top 37)) .none kV20 dc20 pm20 an20 cd20 ct20, x_SandError, x_NoYard, x_NoText, x_NoTumble, x_NoRest, x_NotLasting⟩ := ⟨F0, b0, PySem.W.mg_of X G a0, F1, b1, PySem.W.mg_of X G a1, F2, b2, PySem.W.mg_of X G a2, F3, b3, PySem.W.mg_of X G a3, F4, b4, PySem.W.mg_of X G a4, F5, b5, PySem.W.mg_of X G a5, F6, b6, PySem.W.mg_of X G a6, F7, b7, PySem.W.mg_of X G a7, F8, b8, PySem.W.mg_of X G a8, F9, b9, PySem.W.mg_of X G a9, F10, b10, PySem.W.mg_of X G a10, F11, b11, PySem.W.mg_of X G a11, F12, b12, PySem.W.mg_of X G a12, F13, b13, PySem.W.mg_of X G a13, F14, b14, PySem.W.mg_of X G a14, F15, b15, PySem.W.mg_of X G a15, F16, b16, PySem.W.mg_of X G a16, F17, b17, PySem.W.mg_of X G a17, F18, b18, PySem.W.mg_of X G a18, F19, b19, PySem.W.mg_of X G a19, F20, b20, PySem.W.mg_of X G a20, PySem.W.mg_of X G qx_SandError, PySem.W.mg_of X G qx_NoYard, PySem.W.mg_of X G qx_NoText, PySem.W.mg_of X G qx_NoTumble, PySem.W.mg_of X G qx_NoRest, PySem.W.mg_of X G qx_NotLasting, ⟨_, _, _, _, _, _, _, _, _, _, _, _, _, _, _, _, lx_NoText, zbs ln_NoText li_NoText, (.own lp_SandError (zbs ln_SandError li_SandError) .base)⟩, ⟨g1_NoText, g2_NoText, g3_NoText, g4_NoText, g5_NoText, g6_NoText⟩, ziQ ic_NoText it_NoText ib_NoText sb_NoText_NoText, za6 ic_NoRest it_NoRest sb_NoText_NoRest nq_NoText_NoRest, za6 ic_NoTumble it_NoTumble sb_NoText_NoTumble nq_NoText_NoTumble, za6 ic_NoYard it_NoYard sb_NoText_NoYard nq_NoText_NoYard, za6 ic_NotLasting it_NotLasting sb_NoText_NotLasting nq_NoText_NotLasting, za6 ic_SandError it_SandError sb_NoText_SandError nq_NoText_SandError, zi8 (by decide +kernel) sb_NoText_ValueError, ⟨_, PySem.W.mg_of X G y0⟩, ⟨_, PySem.W.mg_of X G y1⟩, ⟨_, PySem.W.mg_of X G y2⟩, ⟨_, PySem.W.mg_of X G y3⟩, ⟨_, PySem.W.mg_of X G y4⟩, ⟨_, PySem.W.mg_of X G y5⟩, PySem.W.mg_none_of X G z0, PySem.W.mg_none_of X G z1, PySem.W.mg_none_of X G z2, PySem.W.mg_none_of X G z3, PySem.W.mg_none_of X G z4, PySem.W.mg_none_of X G z5, PySem.W.mg_none_of X G z6, PySem.W.mg_none_of X G z7, PySem.W.mg_none_of X G z8, PySem.W.mg_none_of X G z9, PySem.W.mg_none_of X G z10, PySem.W.mg_none_of X G z11, PySem.W.mg_none_of X G z12, PySem.W.mg_none_of X G z13⟩
  exact ⟨PySem.W.fnOf "law" "law" (zr (top 37)) (zj (top 37)) (zc (top 37)) .none kV20 dc20 pm20 an20 cd20 ct20, fun s v => .of_eq rfl, fun base _ _ => zjE T⟩
theorem walk {l : PySem.W.OpenLaw} {q : Program} {loose : List Str} {XP : (Str → Option Value) → Heap → Prop} {YP : World → Heap → Prop} {d : DefRec} {K : Params → PySem.W.Frag} (hn : l.most = some 63) (hdf : d.params.defaults = [])
    (hY : ∀ (w : World) (h : Heap), YP w h → (K w.params).In h)
    (F : ∀ (w : World) (mg : Str → Option Value) (fa : Addr) (h : Heap), (K w.params).In h → h.Ns mainGlobals mg → mg d.name = some (.ref fa) →
      ∃ fd : FuncData, (∀ (s : Shared) (u : Value), BindsTo s fd ⟨[u], []⟩ [("_law_script", u)]) ∧ ∀ base : Heap, (K w.params).In base → base.Ns mainGlobals mg → FnOk l.prog w (K w.params) mg base CX0 7 fa fd ["_law_script"] (spD (K w.params) 1 F_law)) :
    PySem.W.WalkO q loose XP YP l.row.toRowW d [] (fun f vs => PySem.call f vs) :=
  L2.walk_of (n := 63) (k := 7) (x := "_law_script") (CX := fun _ => CX0) (sp := fun w => spD (K w.params) 1 F_law) hn (by decide) hdf ⟨rfl, by decide, by decide⟩ hY F (fun _ _ a ns hl _ hS => zel hS (zgn ns hl)) fun _ _ _ _ _ z => z
end L2.Y
open PySem PySem.W PyProof.Rows
set_option maxRecDepth 100000 in
set_option maxHeartbeats 0 in
theorem PySem.Challenge.cw_sandyard_k03_whole_read_holds : PySem.Challenge.rw_sandyard_k03_whole_read.Holds := by
  w_on; o_law; k_head; (case hw => w_witness2)
  k_fill
  refine L2.Y.walk (l := PySem.Challenge.rw_sandyard_k03_whole_read) rfl rfl (fun w h Y => PySem.W.kIn_of Y) ?F
  case F =>
    intro w mg fa h KX G hmg
    refine' L2.Y.all_mk KX G hmg ?a0 ?l0 ?c0 ?k0 ?a1 ?l1 ?c1 ?k1 ?a2 ?l2 ?c2 ?k2 ?a3 ?l3 ?c3 ?k3 ?a4 ?l4 ?c4 ?k4 ?a5 ?l5 ?c5 ?k5 ?a6 ?l6 ?c6 ?k6 ?a7 ?l7 ?c7 ?k7 ?a8 ?l8 ?c8 ?k8 ?a9 ?l9 ?c9 ?k9 ?a10 ?l10 ?c10 ?k10 ?a11 ?l11 ?c11 ?k11 ?a12 ?l12 ?c12 ?k12 ?a13 ?l13 ?c13 ?k13 ?a14 ?l14 ?c14 ?k14 ?a15 ?l15 ?c15 ?k15 ?a16 ?l16 ?c16 ?k16 ?a17 ?l17 ?c17 ?k17 ?a18 ?l18 ?c18 ?k18 ?a19 ?l19 ?c19 ?k19 ?a20 ?l20 ?c20 ?k20 ?qx_SandError ?qx_NoYard ?qx_NoText ?qx_NoTumble ?qx_NoRest ?qx_NotLasting ?lp_SandError ?ln_SandError ?li_SandError ?lx_NoText ?ln_NoText ?li_NoText ?g1_NoText ?g2_NoText ?g3_NoText ?g4_NoText ?g5_NoText ?g6_NoText ?ic_NoRest ?it_NoRest ?ic_NoText ?it_NoText ?ic_NoTumble ?it_NoTumble ?ic_NoYard ?it_NoYard ?ic_NotLasting ?it_NotLasting ?ic_SandError ?it_SandError ?ib_NoText ?sb_NoText_NoRest ?sb_NoText_NoText ?sb_NoText_NoTumble ?sb_NoText_NoYard ?sb_NoText_NotLasting ?sb_NoText_SandError ?sb_NoText_ValueError ?nq_NoText_NoRest ?nq_NoText_NoTumble ?nq_NoText_NoYard ?nq_NoText_NotLasting ?nq_NoText_SandError ?y0 ?y1 ?y2 ?y3 ?y4 ?y5 ?z0 ?z1 ?z2 ?z3 ?z4 ?z5 ?z6 ?z7 ?z8 ?z9 ?z10 ?z11 ?z12 ?z13
    (case a0 => k_is)
    (case l0 => k_is)
    (case c0 => k_is)
    (case k0 => k_is)
    (case a1 => k_is)
    (case l1 => k_is)
    (case c1 => k_is)
    (case k1 => k_is)
    (case a2 => k_is)
    (case l2 => k_is)
    (case c2 => k_is)
    (case k2 => k_is)
    (case a3 => k_is)
    (case l3 => k_is)
    (case c3 => k_is)
    (case k3 => k_is)
    (case a4 => k_is)
    (case l4 => k_is)
    (case c4 => k_is)
    (case k4 => k_is)
    (case a5 => k_is)
    (case l5 => k_is)
    (case c5 => k_is)
    (case k5 => k_is)
    (case a6 => k_is)
    (case l6 => k_is)
    (case c6 => k_is)
    (case k6 => k_is)
    (case a7 => k_is)
    (case l7 => k_is)
    (case c7 => k_is)
    (case k7 => k_is)
    (case a8 => k_is)
    (case l8 => k_is)
    (case c8 => k_is)
    (case k8 => k_is)
    (case a9 => k_is)
    (case l9 => k_is)
    (case c9 => k_is)
    (case k9 => k_is)
    (case a10 => k_is)
    (case l10 => k_is)
    (case c10 => k_is)
    (case k10 => k_is)
    (case a11 => k_is)
    (case l11 => k_is)
    (case c11 => k_is)
    (case k11 => k_is)
    (case a12 => k_is)
    (case l12 => k_is)
    (case c12 => k_is)
    (case k12 => k_is)
    (case a13 => k_is)
    (case l13 => k_is)
    (case c13 => k_is)
    (case k13 => k_is)
    (case a14 => k_is)
    (case l14 => k_is)
    (case c14 => k_is)
    (case k14 => k_is)
    (case a15 => k_is)
    (case l15 => k_is)
    (case c15 => k_is)
    (case k15 => k_is)
    (case a16 => k_is)
    (case l16 => k_is)
    (case c16 => k_is)
    (case k16 => k_is)
    (case a17 => k_is)
    (case l17 => k_is)
    (case c17 => k_is)
    (case k17 => k_is)
    (case a18 => k_is)
    (case l18 => k_is)
    (case c18 => k_is)
    (case k18 => k_is)
    (case a19 => k_is)
    (case l19 => k_is)
    (case c19 => k_is)
    (case k19 => k_is)
    (case a20 => k_is)
    (case l20 => k_is)
    (case c20 => k_is)
    (case k20 => k_is)
    (case qx_SandError => k_is)
    (case qx_NoYard => k_is)
    (case qx_NoText => k_is)
    (case qx_NoTumble => k_is)
    (case qx_NoRest => k_is)
    (case qx_NotLasting => k_is)
    (case lp_SandError => k_is)
    (case ln_SandError => k_is)
    (case li_SandError => exact rfl)
    (case lx_NoText => k_is)
    (case ln_NoText => k_is)
    (case li_NoText => exact rfl)
    (case g1_NoText => k_is)
    (case g2_NoText => k_is)
    (case g3_NoText => k_is)
    (case g4_NoText => k_is)
    (case g5_NoText => k_is)
    (case g6_NoText => k_is)
    (case ic_NoRest => k_is)
    (case it_NoRest => k_is)
    (case ic_NoText => k_is)
    (case it_NoText => k_is)
    (case ic_NoTumble => k_is)
    (case it_NoTumble => k_is)
    (case ic_NoYard => k_is)
    (case it_NoYard => k_is)
    (case ic_NotLasting => k_is)
    (case it_NotLasting => k_is)
    (case ic_SandError => k_is)
    (case it_SandError => k_is)
    (case ib_NoText => k_is)
    (case sb_NoText_NoRest => k_is)
    (case sb_NoText_NoText => k_is)
    (case sb_NoText_NoTumble => k_is)
    (case sb_NoText_NoYard => k_is)
    (case sb_NoText_NotLasting => k_is)
    (case sb_NoText_SandError => k_is)
    (case sb_NoText_ValueError => k_is)
    (case nq_NoText_NoRest => exact rfl)
    (case nq_NoText_NoTumble => exact rfl)
    (case nq_NoText_NoYard => exact rfl)
    (case nq_NoText_NotLasting => exact rfl)
    (case nq_NoText_SandError => exact rfl)
    (case y0 => k_is)
    (case y1 => k_is)
    (case y2 => k_is)
    (case y3 => k_is)
    (case y4 => k_is)
    (case y5 => k_is)
    (case z0 => k_is)
    (case z1 => k_is)
    (case z2 => k_is)
    (case z3 => k_is)
    (case z4 => k_is)
    (case z5 => k_is)
    (case z6 => k_is)
    (case z7 => k_is)
    (case z8 => k_is)
    (case z9 => k_is)
    (case z10 => k_is)
    (case z11 => k_is)
    (case z12 => k_is)
    (case z13 => k_is)
end
