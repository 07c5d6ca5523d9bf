import PyProof.Rows.All
import Wide.All
import OpenK.AllK
import Wide.FinOn
import Lean
import PyProof.EqAt
import PyProof.EqKinds
import PyProof.TupleCall
import PyProof.EqLayable
import PySem.PyData
import PyProof.Rows.SortKey
import KE.KSortTup
import PyProof.ZipIter
import PyProof.Draws
import PyProof.ExcAttrAll.ValueError
import PyProof.ExcBaseAll.ValueError
import PyProof.NsDelKeeps
import PyProof.StrOps2
import PyProof.ListRange
import PyProof.FString
import PyProof.StrCalls3
import PyProof.Rows.StrJoin2
import PyProof.StrLaws
import PyProof.Fits
import PyProof.AutoIntG0
import PyProof.AutoIntG1
import PyProof.AutoSeq1
import PyProof.DictKinds
import PyProof.FactsAll.int
import PyProof.IsRules
import PyProof.MinMaxWalk
import PyProof.Rows.CallKwBuiltin
import PyProof.Rows.SetFrom
import PyProof.SetKind
import PyProof.SetRoads
import PyProof.SetScanFacts
import PyProof.StrCalls2
import PyProof.SumAny
import PyProof.TupleKey
import PyProof.WalkInts
import PySem.Challenge.RW_sandyard_k22_whole_dial
set_option compiler.extract_closed false
set_option Elab.async false
set_option linter.all false
set_option maxRecDepth 100000
local macro_rules | `(tactic| omega)=>`(tactic| first | lia | omega (splitNatSub:=true))
noncomputable section
namespace aT
theorem a (h:True:=by first | exact Or.inl rfl | exact Or.inr rfl | exact Or.inr (Or.inl rfl) | exact Or.inr (Or.inr rfl) | assumption):True:=trivial
theorem b (h:True:=by decide +kernel):True:=trivial
theorem c (h:True:=by rfl):True:=trivial
theorem d (h:True:=by intros;rfl):True:=trivial
theorem e (h:True:=by exact yt rfl):True:=trivial
end aT
open aT renaming a._auto_1→aTa,b._auto_1→aTb,c._auto_1→aTc,d._auto_1→aTd,e._auto_1→aTe
namespace HT
noncomputable def lexLt:List Int→List Int→Bool
 | [],[]=>false
 | [],_ :: _=>true
 | _ :: _,[]=>false
 | x :: xs,y :: ys=>if x=y then lexLt xs ys else decide (x < y)
noncomputable def sIx (n d:Nat):Option Int→Nat
 | none=>d
 | some v=>if v < 0 then (v + (n:Int)).toNat else min v.toNat n
end HT
namespace L2
open PySem
noncomputable abbrev Key:=Sum Int Str
noncomputable def CMul (i j:Int):Prop:=(-(2 ^ 64) < i∧i < 2 ^ 64) ∨ (-(2 ^ 64) < j∧j < 2 ^ 64)
noncomputable def CPow (i j:Int):Prop:=0 ≤ j∧j ≤ 1000000∧i.natAbs < 2 ^ 64
noncomputable def ixN (n:Nat) (i:Int):Option Nat:=if 0 ≤ i then (if i < n then some i.toNat else none) else if -(n:Int) ≤ i then some (i + n).toNat else none
noncomputable def atI {α:Type} (xs:List α) (i:Int):Option α:=(ixN xs.length i).bind fun j=>xs[j]?
end L2
namespace L2.Y
open PySem
noncomputable abbrev D:=PyData
noncomputable def keyD:Key→D
 | .inl i=>.int i
 | .inr x=>.str x
noncomputable def wC (ks:List Key):D:=.tuple (ks.map keyD)
inductive En where
 | val (d:D)
 | own (d:D)
noncomputable abbrev Env':=List (Option En)
noncomputable def gVar (i:Nat):Env'→Option D:=fun ρ=>match ρ[i]? with
 | some (some (.val d))=>some d
 | _=>none
noncomputable def zar (i:Nat):Env'→Option D:=fun ρ=>match ρ[i]? with
 | some (some (.val d))=>some d
 | some (some (.own d))=>some d
 | _=>none
noncomputable def g2 (h:D→D→Option D) (ga gb:Env'→Option D):Env'→Option D:=fun ρ=>(ga ρ).bind fun x=>(gb ρ).bind fun y=>h x y
noncomputable def g1 (h:D→Option D) (ga:Env'→Option D):Env'→Option D:=fun ρ=>(ga ρ).bind h
noncomputable def gA (h:List D→Option D) (ga:Env'→Option (List D)):Env'→Option D:=fun ρ=>(ga ρ).bind h
noncomputable def gNil:Env'→Option (List D):=fun _=>some []
noncomputable def zc (ga:Env'→Option D) (gr:Env'→Option (List D)):Env'→Option (List D):=fun ρ=>(ga ρ).bind fun x=>(gr ρ).bind fun xs=>some (x :: xs)
noncomputable def tupD (ds:List D):Option D:=if ds.length ≤ sizeLine then some (.tuple ds) else none
noncomputable def gLst (g:Env'→Option (List D)):Env'→Option (List D):=fun ρ=>(g ρ).bind fun ds=>if ds.length ≤ sizeLine then some ds else none
noncomputable def frz (i:Nat) (ρ:Env'):Env':=match ρ[i]? with
 | some (some (.own d))=>ρ.set i (some (.val d))
 | _=>ρ
inductive Out where
 | nxt (ρ:Env')
 | ret (d:D)
 | brk (ρ:Env')
 | cnt (ρ:Env')
noncomputable abbrev GS:=Env'→Option Out
noncomputable def sNil:GS:=fun ρ=>some (.nxt ρ)
noncomputable def sSeq (g h:GS):GS:=fun ρ=>(g ρ).bind fun
 | .nxt ρ'=>h ρ'
 | o=>some o
noncomputable abbrev GT:=D→Env'→Option Env'
noncomputable def hName (i:Nat):GT:=fun d ρ=>some (ρ.set i (some (.val d)))
noncomputable def hNil:List D→Env'→Option Env':=fun ds ρ=>match ds with
 | []=>some ρ
 | _=>none
noncomputable def jD (h:GT) (k:List D→Env'→Option Env'):List D→Env'→Option Env':=fun ds ρ=>match ds with
 | d :: r=>(h d ρ).bind fun ρ'=>k r ρ'
 | []=>none
noncomputable def hTup (n:Nat) (k:List D→Env'→Option Env'):GT:=fun d ρ=>match d with
 | .tuple ds=>if ds.length=n then k ds ρ else none
 | _=>none
noncomputable def sAsg (h:GT) (ge:Env'→Option D):GS:=fun ρ=>(ge ρ).bind fun d=>(h d ρ).map Out.nxt
noncomputable def sOwn (i:Nat) (ge:Env'→Option (List D)):GS:=fun ρ=>(ge ρ).map fun ds=>Out.nxt (ρ.set i (some (.own (.list ds))))
noncomputable def ziw:D→Option Bool
 | .none=>some false
 | .bool b=>some b
 | .int i=>some (i != 0)
 | .str y=>if y.length ≤ sizeLine then some ((y.length:Int) != 0) else none
 | .list ds=>some (!ds.isEmpty)
 | .tuple ds=>some (!ds.isEmpty)
 | .dict _=>none
noncomputable def gTr (g:Env'→Option D):Env'→Option Bool:=fun ρ=>(g ρ).bind ziw
noncomputable def za4:D→Option Bool
 | .bool b=>some b
 | _=>none
noncomputable def gBo (g:Env'→Option D):Env'→Option Bool:=fun ρ=>(g ρ).bind za4
noncomputable def zeI (g h:Env'→Option Bool):Env'→Option Bool:=fun ρ=>(g ρ).bind fun b=>if b then h ρ else some false
noncomputable def gOrT (g h:Env'→Option Bool):Env'→Option Bool:=fun ρ=>(g ρ).bind fun b=>if b then some true else h ρ
noncomputable def wz (g:Env'→Option Bool):Env'→Option Bool:=fun ρ=>(g ρ).map fun b=>!b
noncomputable def sIf (c:Env'→Option Bool) (g h:GS):GS:=fun ρ=>(c ρ).bind fun b=>if b then g ρ else h ρ
noncomputable def zT (lo:Int) (n:Nat):List D:=(List.range n).map fun (i:Nat)=>PyData.int (lo + i)
noncomputable def seqD:D→Option (List D)
 | .tuple ds=>some ds
 | .list ds=>some ds
 | _=>none
noncomputable def gIt (f:D→Option (List D)) (g:Env'→Option D):Env'→Option (List D):=fun ρ=>(g ρ).bind f
noncomputable def wK (ds:List D):Option (List D):=match ds with
 | [.int j]=>if -(2 ^ 62) ≤ j∧j < 2 ^ 62 then some (zT 0 j.toNat) else none
 | _=>none
noncomputable def qE (ds:List D):Option (List D):=match ds with
 | [.int i,.int j]=>if -(2 ^ 62) ≤ i∧i < 2 ^ 62∧-(2 ^ 62) ≤ j∧j < 2 ^ 62 then some (zT i (j - i).toNat) else none
 | _=>none
noncomputable def gItA (f:List D→Option (List D)) (g:Env'→Option (List D)):Env'→Option (List D):=fun ρ=>(g ρ).bind f
noncomputable def forF (h:GT) (gb:GS):List D→Env'→Option Out
 | [],ρ=>some (.nxt ρ)
 | d :: ds,ρ=>(h d ρ).bind fun ρ1=>(gb ρ1).bind fun
  | .nxt ρ2=>forF h gb ds ρ2
  | .cnt ρ2=>forF h gb ds ρ2
  | .brk ρ2=>some (.nxt ρ2)
  | .ret d=>some (.ret d)
noncomputable def sFor (g:Env'→Option (List D)) (h:GT) (gb:GS):GS:=fun ρ=>(g ρ).bind fun ds=>forF h gb ds ρ
noncomputable def jZ (c:Env'→Option Bool) (gb:GS):Nat→Env'→Option Out
 | 0,_=>none
 | n + 1,ρ=>(c ρ).bind fun b=>if b then (gb ρ).bind fun
  | .nxt ρ2=>jZ c gb n ρ2
  | .cnt ρ2=>jZ c gb n ρ2
  | .brk ρ2=>some (.nxt ρ2)
  | .ret d=>some (.ret d) else some (.nxt ρ)
open Classical in
noncomputable def wM (c:Env'→Option Bool) (gb:GS):GS:=fun ρ=>if h:∃ n o,jZ c gb n ρ=some o then some h.choose_spec.choose else none
noncomputable def ownL (i:Nat) (ρ:Env'):Option (List D):=match ρ[i]? with
 | some (some (.own (.list ds)))=>some ds
 | _=>none
noncomputable def sApp (i:Nat) (ge:Env'→Option D):GS:=fun ρ=>(ge ρ).bind fun d=>(ownL i ρ).bind fun ds=>if ds.length < sizeLine then some (.nxt (ρ.set i (some (.own (.list (ds ++ [d])))))) else none
noncomputable def eqD (a b:D):Option D:=if SeqAt.shaped a && SeqAt.shaped b then some (.bool (PyData.eqv a b)) else none
noncomputable def neD (a b:D):Option D:=if SeqAt.shaped a && SeqAt.shaped b then some (.bool (!PyData.eqv a b)) else none
noncomputable def keyQ:D→Option Key
 | .int i=>some (.inl i)
 | .str x=>some (.inr x)
 | _=>none
noncomputable def ziV:D→Option (List Key)
 | .tuple ds=>ds.mapM keyQ
 | _=>none
noncomputable def zaC (kds:List (D × D)) (x:D):Option D:=(kds.find? fun p=>PyData.eqv p.1 x).map (·.2)
noncomputable def putD (kds:List (D × D)) (x y:D):List (D × D):=if (kds.any fun p=>PyData.eqv p.1 x)=true then kds.map (fun p=>if PyData.eqv p.1 x=true then (p.1,y) else p) else kds ++ [(x,y)]
noncomputable def hasD (x:D):D→Option Bool
 | .list ds=>if (ds.all SeqAt.shaped && SeqAt.shaped x)=true then some (ds.any fun y=>PyData.eqv y x) else none
 | .tuple ds=>if (ds.all SeqAt.shaped && SeqAt.shaped x)=true then some (ds.any fun y=>PyData.eqv y x) else none
 | _=>none
noncomputable def inD (x c:D):Option D:=(hasD x c).map PyData.bool
noncomputable def jX (x c:D):Option D:=(hasD x c).map fun b=>PyData.bool !b
noncomputable def xN (f:Int→Int→Option D):D→D→Option D
 | .int i,.int j=>f i j
 | _,_=>none
noncomputable def subD:=xN fun i j=>some (.int (i - j))
noncomputable def zdj:=xN fun i j=>if 0 < j∧j < 1073741824 then some (.int (i / j)) else none
noncomputable def modD:=xN fun i j=>if 0 < j then some (.int (i % j)) else none
instance (i j:Int):Decidable (CMul i j):=by unfold CMul;exact inferInstance
instance (i j:Int):Decidable (CPow i j):=by unfold CPow;exact inferInstance
noncomputable def mulI (i j:Int):Option D:=if CMul i j then some (.int (i * j)) else none
noncomputable def repD (ds:List D) (k:Int):Option (List D):=if -(2 ^ 63) ≤ k∧k < 2 ^ 63∧ds.length * k.toNat ≤ sizeLine then some (List.replicate k.toNat ds).flatten else none
noncomputable def addD:D→D→Option D
 | .int i,.int j=>some (.int (i + j))
 | .tuple xs,.tuple ys=>if xs.length + ys.length ≤ sizeLine then some (.tuple (xs ++ ys)) else none
 | .list xs,.list ys=>if xs.length + ys.length ≤ sizeLine then some (.list (xs ++ ys)) else none
 | _,_=>none
noncomputable def negD:D→Option D
 | .int i=>some (.int (-i))
 | _=>none
noncomputable def wB (ds:List D):Option (List Int):=ds.mapM fun
 | .int i=>some i
 | _=>none
noncomputable def ltD:=xN fun i j=>some (.bool (decide (i < j)))
noncomputable def geD:=xN fun i j=>some (.bool (decide (j ≤ i)))
noncomputable def leD:=xN fun i j=>some (.bool (decide (i ≤ j)))
noncomputable def ixD:D→D→Option D
 | .tuple ds,.int i=>atI ds i
 | .list ds,.int i=>atI ds i
 | _,_=>none
noncomputable def lenD:List D→Option D
 | [.tuple ds]=>some (.int ds.length)
 | [.list ds]=>some (.int ds.length)
 | _=>none
noncomputable def minD:List D→Option D
 | [.int i,.int j]=>some (.int (if j < i then j else i))
 | _=>none
noncomputable def maxD:List D→Option D
 | [.int i,.int j]=>some (.int (if j > i then j else i))
 | _=>none
noncomputable def jR:List D→Option D
 | [.tuple ds]=>some (.tuple ds)
 | [.list ds]=>some (.tuple ds)
 | _=>none
noncomputable def gItL (h:List D→Option (List D)) (g:Env'→Option (List D)):Env'→Option (List D):=fun ρ=>(g ρ).bind h
noncomputable def capS {α:Type} (n:Nat) (caps:List Nat) (σ:List (Option α)):List (Option α):=List.replicate n none ++ caps.map fun j=>(σ[j]?).join
noncomputable def xF (h:GT) (gt:Env'→Option Bool) (ge:Env'→Option D) (ρ:Env'):List D→Option (List D)
 | []=>some []
 | d :: ds=>(h d ρ).bind fun ρ1=>(gt ρ1).bind fun b=>if b then (ge ρ1).bind fun y=>(xF h gt ge ρ ds).map (y :: ·) else xF h gt ge ρ ds
noncomputable def jx (n:Nat) (caps:List Nat) (gi:Env'→Option (List D)) (h:GT) (gt:Env'→Option Bool) (ge:Env'→Option D):Env'→Option (List D):=fun ρ=>(gi ρ).bind fun ds=>if ds.length ≤ sizeLine then xF h gt ge (capS n caps ρ) ds else none
noncomputable def zhH (i:Nat) (gi ge:Env'→Option D):GS:=fun ρ=>(ge ρ).bind fun d=>(gi ρ).bind fun k=>match k with
 | .int j=>(ownL i ρ).bind fun ds=>(ixN ds.length j).bind fun n=>some (.nxt (ρ.set i (some (.own (.list (ds.set n d))))))
 | _=>none
noncomputable def xQ (n:Nat) (ds:List D):Env':=ds.map (fun d=>some (.val d)) ++ List.replicate (n - ds.length) none
noncomputable def jn (n:Nat) (g:GS) (ds:List D):Option D:=(g (xQ n ds)).bind fun
 | .ret d=>some d
 | .nxt _=>some .none
 | _=>none
noncomputable def zt (n:Nat) (f:List D→Option D):List D→Option D:=fun ds=>if ds.length=n then f ds else none
noncomputable def zb0:D→Bool
 | .bool _=>true
 | _=>false
noncomputable def isI (f:D→Bool):D→Option D
 | .dict _=>none
 | d=>some (.bool (f d))
noncomputable def sumD:List D→Option D
 | [.list ds]=>(wB ds).map fun is=>.int is.sum
 | [.tuple ds]=>(wB ds).map fun is=>.int is.sum
 | _=>none
noncomputable def kI (ds:List D):Option (List Bool):=ds.mapM za4
noncomputable def allD:List D→Option D
 | [.list ds]=>(kI ds).map fun bs=>.bool (bs.all id)
 | _=>none
noncomputable def cutD (ds:List D) (lo hi:Option Int):List D:=(ds.drop (HT.sIx ds.length 0 lo)).take (HT.sIx ds.length ds.length hi - HT.sIx ds.length 0 lo)
noncomputable abbrev GO:=Env'→Option (Option Int)
noncomputable def qq:GO:=fun _=>some none
noncomputable def jU (g:Env'→Option D):GO:=fun ρ=>(g ρ).bind fun
 | .int i=>some (some i)
 | _=>none
noncomputable def slD (d:D) (lo hi:Option Int):Option D:=match d with
 | .tuple ds=>some (.tuple (cutD ds lo hi))
 | .list ds=>some (.list (cutD ds lo hi))
 | _=>none
noncomputable def gSl (ga:Env'→Option D) (gl gh:GO):Env'→Option D:=fun ρ=>(ga ρ).bind fun d=>(gl ρ).bind fun lo=>(gh ρ).bind fun hi=>slD d lo hi
noncomputable def qW:D→D→Option D
 | .int i,.int j=>mulI i j
 | .list ds,.int k=>(repD ds k).map PyData.list
 | .tuple ds,.int k=>if 0 < k then (repD ds k).map PyData.tuple else none
 | _,_=>none
noncomputable def tabT:D→Option (List (D × D))
 | .dict ((.none,.none) :: r)=>some r
 | .dict ((.none,.int _) :: r)=>some r
 | _=>none
noncomputable def zgx (c x:D):Option D:=(tabT c).bind fun kds=>(ziV x).bind fun _=>zaC kds x
noncomputable def ownD (i:Nat) (ρ:Env'):Option D:=match ρ[i]? with
 | some (some (.own d))=>some d
 | _=>none
noncomputable def zbG (i:Nat) (gk ge:Env'→Option D):GS:=fun ρ=>(ge ρ).bind fun d=>(gk ρ).bind fun key=>(ownD i ρ).bind fun dd=>(tabT dd).bind fun kds=>(ziV key).bind fun _ =>
 if kds.length < sizeLine then some (.nxt (ρ.set i (some (.own (.dict ((.none,.none) :: putD kds key d)))))) else none
noncomputable def zin (i:Nat):GS:=fun ρ=>some (.nxt (ρ.set i (some (.own (.dict [(.none,.none)])))))
noncomputable def scrD (ds:List D):D:=.dict ((.none,.bool true) :: ds.map fun d=>(.none,d))
noncomputable def scrQ:D→Option (List D)
 | .dict ((.none,.bool true) :: r)=>some (r.map (·.2))
 | _=>none
noncomputable def ixS (c i:D):Option D:=(scrQ c).bind fun ds=>match i with
 | .int j=>atI ds j
 | _=>none
noncomputable def lenS:List D→Option D
 | [c]=>(scrQ c).map fun ds=>.int ds.length
 | _=>none
noncomputable def insL (x:List Int):List (List Int)→List (List Int)
 | []=>[x]
 | y :: r=>if HT.lexLt y x=true then y :: insL x r else x :: y :: r
noncomputable def yr:List (List Int)→List (List Int)
 | []=>[]
 | x :: r=>insL x (yr r)
noncomputable def wu:D→Option (List Int)
 | .tuple ds=>(wB ds).bind fun is=>if is=[] then none else some is
 | _=>none
noncomputable def zfU (ds:List D):Option (List D):=(ds.mapM wu).bind fun ks=>if ks.length < 64 then some ((yr ks).map fun k=>.tuple (k.map PyData.int)) else none
noncomputable def zaR:List D→Option (List D)
 | [.list ds]=>zfU ds
 | [.tuple ds]=>zfU ds
 | _=>none
noncomputable def frzT (i:Nat) (ρ:Env'):Env':=match ρ[i]? with
 | some (some (.own (.dict ((.none,.none) :: r))))=>ρ.set i (some (.val (.dict ((.none,.int 0) :: r))))
 | _=>ρ
noncomputable def zh7:D→Option (List D)
 | .dict ((.none,.int _) :: r)=>some (r.map (·.1))
 | _=>none
noncomputable def zip2:List D→List D→List D
 | x :: xs,y :: ys=>.tuple [x,y] :: zip2 xs ys
 | _,_=>[]
noncomputable def kf (i:Nat) (ge:Env'→Option (List D)):GS:=fun ρ=>(ge ρ).map fun ds=>Out.nxt (ρ.set i (some (.val (.list ds))))
noncomputable def gK (d:D):Env'→Option D:=fun _=>some d
noncomputable def gLs (g:Env'→Option (List D)):Env'→Option D:=fun ρ=>(g ρ).map PyData.list
noncomputable def qd:Env'→Option Bool:=fun _=>some true
noncomputable def sRet (g:Env'→Option D):GS:=fun ρ=>(g ρ).map Out.ret
noncomputable def sExp (g:Env'→Option D):GS:=fun ρ=>(g ρ).map fun _=>Out.nxt ρ
noncomputable def sFrz (i:Nat) (g:GS):GS:=fun ρ=>g (frz i ρ)
noncomputable def zkZ (i:Nat) (g:GS):GS:=fun ρ=>g (frzT i ρ)
noncomputable def sNo:GS:=fun _=>none
end L2.Y
namespace L2.Y
open PySem
noncomputable def gF2 (h:D→D→Option (List D)) (ga gb:Env'→Option D):Env'→Option (List D):=fun ρ=>(ga ρ).bind fun x=>(gb ρ).bind fun y=>h x y
noncomputable def mulL:D→D→Option (List D)
 | .list ds,.int k=>repD ds k
 | _,_=>none
noncomputable def zipT:List D→Option (List D)
 | [.tuple ds,.tuple es]=>some (zip2 ds es)
 | _=>none
noncomputable def qM:Nat→List D→List D
 | _,[]=>[]
 | i,d :: ds=>.tuple [.int i,d] :: qM (i + 1) ds
noncomputable def zew:List D→Option (List D)
 | [.tuple ds]=>some (qM 0 ds)
 | [.list ds]=>some (qM 0 ds)
 | _=>none
noncomputable def addI:=xN fun i j=>some (.int (i + j))
theorem zgq (i j:Int):addI (.int i) (.int j)=some (.int (i + j)):=rfl
noncomputable def zhD (i:Nat) (h:D→D→Option D) (gk ge:Env'→Option D):GS:=fun ρ=>(gk ρ).bind fun k=>match k with
 | .int j=>(ownL i ρ).bind fun ds=>(atI ds j).bind fun x=>(ge ρ).bind fun y=>(h x y).bind fun z=>(ixN ds.length j).bind fun n=>some (.nxt (ρ.set i (some (.own (.list (ds.set n z))))))
 | _=>none
end L2.Y
namespace L2.Y
open PySem
end L2.Y
namespace L2.Y
open PySem
end L2.Y
namespace L2.Y
open PySem PySem.Builtin.Str
end L2.Y
namespace L2.Y
open PySem
end L2.Y
namespace L2.Y
open PySem
noncomputable def zfH (i:Nat) (g:Env'→Option D):GS:=fun ρ=>(gVar i ρ).bind fun d=>(g ρ).bind fun e=>(addI d e).bind fun z=>some (.nxt (ρ.set i (some (.val z))))
noncomputable def minA (is:List Int):Int:=is.getD (argBest (fun i j=>decide (is.getD i 0 < is.getD j 0)) (is.length - 1)) 0
noncomputable def zg7:List D→Option D
 | [.tuple ds]=>(wB ds).bind fun is=>if is=[] then none else some (.int (minA is))
 | [.list ds]=>(wB ds).bind fun is=>if is=[] then none else some (.int (minA is))
 | _=>none
end L2.Y
namespace L2.Y
open PySem
end L2.Y
namespace L2.Y
open PySem
noncomputable def absD:List D→Option D
 | [.int i]=>some (.int (if i < 0 then -i else i))
 | _=>none
noncomputable def sExt (i:Nat) (ge:Env'→Option D):GS:=fun ρ=>(ge ρ).bind fun d=>match d with
 | .list es=>(ownL i ρ).bind fun ds=>if ds.length + es.length ≤ sizeLine then some (.nxt (ρ.set i (some (.own (.list (ds ++ es)))))) else none
 | _=>none
noncomputable def zck (ds:List D):Option (List (List D)):=ds.mapM fun
 | .tuple es=>some es
 | _=>none
noncomputable def zfV:List D→Option D
 | [.tuple ds]=>(zck ds).bind fun ls=>if ls.flatten.length ≤ sizeLine then some (.tuple ls.flatten) else none
 | _=>none
noncomputable def zaf (ds:List D):Option (List (List Int)):=ds.mapM fun
 | .tuple es=>wB es
 | _=>none
open Classical in
noncomputable def vQ:List D→Option D
 | [.list ds]=>(zaf ds).bind fun ls=>if ls.length < 1999∧ls.Nodup then some (.int ls.length) else none
 | _=>none
end L2.Y
namespace L2.Y
open PySem
theorem jI {h:GT} {gb:GS} (P:Nat→Env'→Prop):∀ (ds:List D) (i:Nat) (ρ:Env'),P i ρ→(∀ k d ρ,ds[k]?=some d→P (i + k) ρ→∃ ρ1 ρ2,h d ρ=some ρ1∧gb ρ1=some (.nxt ρ2)∧P (i + k + 1) ρ2)→∃ ρ',forF h gb ds ρ=some (.nxt ρ')∧P (i + ds.length) ρ'
 | [],i,ρ,h0,_=>⟨ρ,rfl,h0⟩
 | d :: ds,i,ρ,h0,step=>by
  obtain ⟨ρ1,ρ2,e1,e2,h2⟩:=step 0 d ρ rfl h0
  obtain ⟨ρ',e3,h3⟩:=jI P ds (i + 1) ρ2 h2 (fun k d' ρ' hk hp=>by
   have:=step (k + 1) d' ρ' (by simpa using hk) (by rw [show i + (k + 1)=i + 1 + k by omega];exact hp)
   rw [show i + (k + 1) + 1=i + 1 + k + 1 by omega] at this
   exact this)
  refine ⟨ρ',?_,by rw [List.length_cons,show i + (ds.length + 1)=i + 1 + ds.length by omega];exact h3⟩
  show (h d ρ).bind _=_
  rw [e1,Option.bind_some,e2,Option.bind_some]
  exact e3
theorem yP {h:GT} {gt:Env'→Option Bool} {ge:Env'→Option D} {ρ:Env'} (p:D→Bool) (f:D→D):∀ (ds:List D),(∀ d ∈ ds,∃ ρ1,h d ρ=some ρ1∧gt ρ1=some (p d)∧(p d=true→ge ρ1=some (f d)))→xF h gt ge ρ ds=some ((ds.filter p).map f)
 | [],_=>rfl
 | d :: ds,hh=>by
  obtain ⟨ρ1,e1,e2,e3⟩:=hh d List.mem_cons_self
  have ih:=yP p f ds fun d' hd=>hh d' (List.mem_cons_of_mem _ hd)
  show (h d ρ).bind _=_
  rw [e1,Option.bind_some,e2,Option.bind_some]
  cases q:p d with
  | true=>simp only [if_true];rw [e3 q,Option.bind_some,ih,List.filter_cons_of_pos q];rfl
  | false=>simp only [Bool.false_eq_true,if_false];rw [ih,List.filter_cons_of_neg (by simp [q])]
theorem vz {h:GT} {ge:Env'→Option D} {ρ:Env'} (f:D→D) (ds:List D) (hh:∀ d ∈ ds,∃ ρ1,h d ρ=some ρ1∧ge ρ1=some (f d)):xF h (fun _=>some true) ge ρ ds=some (ds.map f):=by
 rw [yP (fun _=>true) f ds fun d hd=>let ⟨ρ1,e1,e2⟩:=hh d hd;⟨ρ1,e1,rfl,fun _=>e2⟩]
 rw [List.filter_eq_self.mpr (fun _ _=>rfl)]
theorem zdA {lo:Int} {n:Nat} {d:D} (h:d ∈ zT lo n):∃ k:Nat,k < n∧d=.int (lo + k):=by
 unfold zT at h
 obtain ⟨k,hk,rfl⟩:=List.mem_map.mp h
 exact ⟨k,List.mem_range.mp hk,rfl⟩
theorem qZ {lo:Int} {n k:Nat} {d:D} (h:(zT lo n)[k]?=some d):k < n∧d=.int (lo + k):=by
 unfold zT at h
 rw [List.getElem?_map] at h
 obtain ⟨j,hj,rfl⟩:=Option.map_eq_some_iff.mp h
 have:=List.getElem?_eq_some_iff.mp hj
 obtain ⟨h1,h2⟩:=this
 simp at h1 h2
 subst h2
 exact ⟨h1,rfl⟩
theorem jp (lo:Int) (n:Nat):(zT lo n).length=n:=by simp [zT]
theorem zfJ (ds:List D):scrQ (scrD ds)=some ds:=by
 show some ((ds.map fun d=>((.none:D),d)).map (·.2))=some ds
 rw [List.map_map]
 exact congrArg some (List.map_id ds)
theorem xa (i:Int):SeqAt.shaped (.int i)=true:=by simp [SeqAt.shaped,PyData.canLay0,PyData.depth]
theorem zch (i:Bool):SeqAt.shaped (.bool i)=true:=by simp [SeqAt.shaped,PyData.canLay0,PyData.depth]
theorem zbZ (i j:Int):eqD (.int i) (.int j)=some (.bool (decide (i=j))):=by
 simp only [eqD,xa,PyData.eqv]
 by_cases q:i=j <;> simp [q]
theorem zb6 (i j:Int):neD (.int i) (.int j)=some (.bool (!decide (i=j))):=by
 simp only [neD,xa,PyData.eqv]
 by_cases q:i=j <;> simp [q]
theorem zH (i j:Int):addD (.int i) (.int j)=some (.int (i + j)):=rfl
theorem wU (i j:Int):subD (.int i) (.int j)=some (.int (i - j)):=rfl
theorem yS (i:Int):negD (.int i)=some (.int (-i)):=rfl
theorem ja {i j:Int} (h:0 < j):modD (.int i) (.int j)=some (.int (i % j)):=if_pos h
theorem vF {i j:Int} (h:0 < j) (h2:j < 1073741824):zdj (.int i) (.int j)=some (.int (i / j)):=if_pos ⟨h,h2⟩
theorem qv {i j:Int} (h1:-(2 ^ 64) < i) (h2:i < 2 ^ 64):qW (.int i) (.int j)=some (.int (i * j)):=if_pos (.inl ⟨h1,h2⟩)
theorem yk {i j:Int} (h1:-(2 ^ 64) < j) (h2:j < 2 ^ 64):qW (.int i) (.int j)=some (.int (i * j)):=if_pos (.inr ⟨h1,h2⟩)
theorem zb3 (i j:Int):ltD (.int i) (.int j)=some (.bool (decide (i < j))):=rfl
theorem ziZ (i j:Int):leD (.int i) (.int j)=some (.bool (decide (i ≤ j))):=rfl
theorem ziK (i j:Int):geD (.int i) (.int j)=some (.bool (decide (j ≤ i))):=rfl
theorem xn (f:List D→Option D) (a:D):zt 1 f [a]=f [a]:=rfl
theorem zQ (f:List D→Option D) (a b:D):zt 2 f [a,b]=f [a,b]:=rfl
theorem jN (f:List D→Option D) (a b c:D):zt 3 f [a,b,c]=f [a,b,c]:=rfl
theorem zjT (a:D):tupD [a]=some (.tuple [a]):=rfl
theorem zf4 (a b:D):tupD [a,b]=some (.tuple [a,b]):=rfl
theorem zif (ds:List D):lenS [scrD ds]=some (.int ds.length):=by
 simp only [lenS,zfJ,Option.map_some]
theorem zll (ds:List D) (j:Int):ixS (scrD ds) (.int j)=atI ds j:=by
 simp only [ixS,zfJ,Option.bind_some]
theorem wn {α:Type} {xs:List α} {j:Int} {x:α} (h0:0 ≤ j) (h:xs[j.toNat]?=some x):atI xs j=some x:=by
 have hlt:j.toNat < xs.length:=(List.getElem?_eq_some_iff.mp h).1
 unfold atI ixN
 rw [if_pos h0,if_pos (by omega),Option.bind_some,h]
section
variable {ρ:Env'}
theorem za {ga:Env'→Option D} {gr:Env'→Option (List D)} {x:D} {xs:List D} (h1:ga ρ=some x) (h2:gr ρ=some xs):zc ga gr ρ=some (x :: xs):=by
 unfold zc
 rw [h1,Option.bind_some,h2,Option.bind_some]
theorem zg:gNil ρ=some []:=rfl
theorem zI {d:D}:gK d ρ=some d:=rfl
theorem zu {h:List D→Option D} {g:Env'→Option (List D)} {xs:List D} {d:D} (h1:g ρ=some xs) (h2:h xs=some d):gA h g ρ=some d:=by
 unfold gA
 rw [h1,Option.bind_some,h2]
theorem jt {h:List D→Option (List D)} {g:Env'→Option (List D)} {xs ds:List D} (h1:g ρ=some xs) (h2:h xs=some ds):gItA h g ρ=some ds:=by
 unfold gItA
 rw [h1,Option.bind_some,h2]
theorem qJ {f:D→Option (List D)} {g:Env'→Option D} {x:D} {ds:List D} (h1:g ρ=some x) (h2:f x=some ds):gIt f g ρ=some ds:=by
 unfold gIt
 rw [h1,Option.bind_some,h2]
theorem zeG {h:D→Option D} {g:Env'→Option D} {x d:D} (h1:g ρ=some x) (h2:h x=some d):g1 h g ρ=some d:=by
 unfold g1
 rw [h1,Option.bind_some,h2]
theorem zy {h:D→D→Option D} {ga gb:Env'→Option D} {x y d:D} (h1:ga ρ=some x) (h2:gb ρ=some y) (h3:h x y=some d):g2 h ga gb ρ=some d:=by
 unfold g2
 rw [h1,Option.bind_some,h2,Option.bind_some,h3]
theorem jz {g:Env'→Option (List D)} {ds:List D} (h1:g ρ=some ds):gLs g ρ=some (.list ds):=by
 unfold gLs
 rw [h1,Option.map_some]
theorem jO {g:Env'→Option D} {b:Bool} (h1:g ρ=some (.bool b)):gBo g ρ=some b:=by
 unfold gBo
 rw [h1]
 rfl
theorem zbh {g:Env'→Option D} {b:Bool} (h1:g ρ=some (.bool b)):gTr g ρ=some b:=by
 unfold gTr
 rw [h1]
 rfl
theorem wA {g:Env'→Option Bool} {b:Bool} (h1:g ρ=some b):wz g ρ=some (!b):=by
 unfold wz
 rw [h1]
 rfl
theorem zgE {g h:Env'→Option Bool} {a b:Bool} (h1:g ρ=some a) (h2:a=true→h ρ=some b):zeI g h ρ=some (a && b):=by
 unfold zeI
 rw [h1]
 cases a with
 | true=>exact h2 rfl
 | false=>rfl
theorem yg {g h:Env'→Option Bool} {a b:Bool} (h1:g ρ=some a) (h2:a=false→h ρ=some b):gOrT g h ρ=some (a || b):=by
 unfold gOrT
 rw [h1]
 cases a with
 | true=>rfl
 | false=>exact h2 rfl
theorem zL {n:Nat} {caps:List Nat} {gi:Env'→Option (List D)} {h:GT} {gt:Env'→Option Bool} {ge:Env'→Option D} {ds r:List D} (h1:gi ρ=some ds) (h2:ds.length ≤ 16777216) (h3:xF h gt ge (capS n caps ρ) ds=some r):jx n caps gi h gt ge ρ=some r:=by
 unfold jx
 rw [h1,Option.bind_some,if_pos (show ds.length ≤ sizeLine from h2),h3]
theorem yz {ga:Env'→Option D} {gl gh:GO} {d r:D} {lo hi:Option Int} (h1:ga ρ=some d) (h2:gl ρ=some lo) (h3:gh ρ=some hi) (h4:slD d lo hi=some r):gSl ga gl gh ρ=some r:=by
 unfold gSl
 rw [h1,Option.bind_some,h2,Option.bind_some,h3,Option.bind_some,h4]
theorem qr {g:Env'→Option D} {i:Int} (h1:g ρ=some (.int i)):jU g ρ=some (some i):=by
 unfold jU
 rw [h1]
 rfl
theorem vG {g:Env'→Option (List D)} {ds:List D} (h1:g ρ=some ds) (h2:ds.length ≤ 16777216):gLst g ρ=some ds:=by
 unfold gLst
 rw [h1,Option.bind_some]
 exact if_pos h2
theorem zX {g:Env'→Option D} {d:D} (h:g ρ=some d):sRet g ρ=some (.ret d):=by
 unfold sRet
 rw [h]
 rfl
theorem zio {c:Env'→Option Bool} {g h:GS} {b:Bool} (h1:c ρ=some b):sIf c g h ρ=if b then g ρ else h ρ:=by
 unfold sIf
 rw [h1,Option.bind_some]
theorem zG {h:GT} {g:Env'→Option D} {d:D} {ρ' : Env'} (h1:g ρ=some d) (h2:h d ρ=some ρ'):sAsg h g ρ=some (.nxt ρ'):=by
 unfold sAsg
 rw [h1,Option.bind_some,h2]
 rfl
theorem zfI {i:Nat} {g:Env'→Option (List D)} {ds:List D} (h1:g ρ=some ds):sOwn i g ρ=some (.nxt (ρ.set i (some (.own (.list ds))))):=by
 unfold sOwn
 rw [h1]
 rfl
theorem wa {i:Nat} {g:Env'→Option (List D)} {ds:List D} (h1:g ρ=some ds):kf i g ρ=some (.nxt (ρ.set i (some (.val (.list ds))))):=by
 unfold kf
 rw [h1]
 rfl
end
end L2.Y
namespace L2.Sd
noncomputable def sm (n:Nat) (f:Nat→Int):Int:=((List.range n).map f).sum
theorem yq (f:Nat→Int):sm 0 f=0:=rfl
theorem zY (n:Nat) (f:Nat→Int):sm (n + 1) f=sm n f + f n:=by
 unfold sm
 rw [List.range_succ,List.map_append,List.sum_append]
 simp
theorem zP {n:Nat} {f g:Nat→Int} (h:∀ k,k < n→f k=g k):sm n f=sm n g:=by
 induction n with
 | zero=>rfl
 | succ n ih=>rw [zY,zY,ih fun k hk=>h k (by omega),h n (by omega)]
theorem km (n:Nat) (f g:Nat→Int):sm n (fun k=>f k + g k)=sm n f + sm n g:=by
 induction n with
 | zero=>rfl
 | succ n ih=>rw [zY,zY,zY,ih];omega
theorem qw (n:Nat) (c:Int) (f:Nat→Int):sm n (fun k=>c * f k)=c * sm n f:=by
 induction n with
 | zero=>simp [yq]
 | succ n ih=>rw [zY,zY,ih,Int.mul_add]
theorem kn {n:Nat} {f:Nat→Int} (h:∀ k,k < n→0 ≤ f k):0 ≤ sm n f:=by
 induction n with
 | zero=>exact Int.le_refl _
 | succ n ih =>
  rw [zY]
  have:=ih fun k hk=>h k (by omega)
  have:=h n (by omega)
  omega
theorem zci {n:Nat} {f g:Nat→Int} (h:∀ k,k < n→f k ≤ g k):sm n f ≤ sm n g:=by
 induction n with
 | zero=>exact Int.le_refl _
 | succ n ih =>
  rw [zY,zY]
  have:=ih fun k hk=>h k (by omega)
  have:=h n (by omega)
  omega
theorem zfR {n:Nat} {f:Nat→Int} {i:Nat} (hi:i < n) (h:∀ k,k < n→k ≠ i→0 ≤ f k):f i ≤ sm n f:=by
 induction n with
 | zero=>omega
 | succ n ih =>
  rw [zY]
  by_cases e:i=n
  ·subst e
   have:=kn (n:=i) (f:=f) fun k hk=>h k (by omega) (by omega)
   omega
  ·have:=ih (by omega) fun k hk ne=>h k (by omega) ne
   have:=h n (by omega) (Ne.symm e)
   omega
theorem zfQ {n:Nat} {i:Nat} (hi:i < n) (f:Nat→Int) (c:Int):sm n (fun k=>if k=i then f k + c else f k)=sm n f + c:=by
 induction n with
 | zero=>omega
 | succ n ih =>
  rw [zY,zY]
  by_cases e:n=i
  ·subst e
   rw [if_pos rfl,zP (g:=f) fun k hk=>if_neg (by omega)]
   omega
  ·rw [if_neg e,ih (by omega)]
   omega
structure Yd (n:Nat) (M:Nat→Nat→Int) (s:Nat→Int):Prop where
 pos:∀ i,i < n→1 ≤ s i
 dia:∀ i,i < n→M i i=-s i
 off:∀ i j,i < n→j < n→i ≠ j→0 ≤ M i j
variable {n:Nat} {M:Nat→Nat→Int} {s:Nat→Int}
noncomputable def fc (n:Nat) (M:Nat→Nat→Int) (g t:Nat→Int) (j:Nat):Int:=g j + sm n fun k=>t k * M k j
theorem zeC (g t u:Nat→Int) (j:Nat):fc n M (fc n M g t) u j=fc n M g (fun k=>t k + u k) j:=by
 unfold fc
 have:(fun k=>(t k + u k) * M k j)=fun k=>t k * M k j + u k * M k j:=funext fun k=>Int.add_mul ..
 rw [this,km]
 omega
theorem xT {g g' t t' : Nat→Int} {j:Nat} (hg:g j=g' j) (ht:∀ k,k < n→t k=t' k):fc n M g t j=fc n M g' t' j:=by
 unfold fc
 rw [hg,zP fun k hk=>by rw [ht k hk]]
theorem zeD (g:Nat→Int) (j:Nat):fc n M g (fun _=>0) j=g j:=by
 unfold fc
 have:(fun k=>(0:Int) * M k j)=fun k=>(0:Int) * (fun k=>M k j) k:=rfl
 rw [this,qw]
 omega
theorem fc_g (g h t:Nat→Int) (j:Nat):fc n M (fun k=>g k + h k) t j=fc n M g t j + h j:=by
 unfold fc
 show g j + h j + _=_
 omega
theorem zlg {i:Nat} (hi:i < n) (g t:Nat→Int) (c:Int) (j:Nat):fc n M g (fun k=>if k=i then t k + c else t k) j=fc n M g t j + c * M i j:=by
 unfold fc
 have:(fun k=>(if k=i then t k + c else t k) * M k j)=fun k=>if k=i then (t k * M k j) + c * M i j else t k * M k j:=funext fun k=>by
  by_cases e:k=i
  ·subst e;rw [if_pos rfl,if_pos rfl,Int.add_mul]
  ·rw [if_neg e,if_neg e]
 rw [this,zfQ hi]
 omega
noncomputable def kr (n:Nat) (s h:Nat→Int):Prop:=∀ j,j < n→h j < s j
noncomputable def xu (n:Nat) (M:Nat→Nat→Int) (s g t:Nat→Int):Prop:=(∀ k,k < n→0 ≤ t k)∧kr n s (fc n M g t)
theorem least (Y:Yd n M s) {g t σ:Nat→Int} (B:xu n M s g σ) (hle:∀ k,k < n→t k ≤ σ k) {i:Nat} (hi:i < n) {c:Int} (hc:c * s i ≤ fc n M g t i) (h0:0 ≤ c):t i + c ≤ σ i:=by
 apply Int.not_lt.mp
 intro hlt
 have hs:=B.2 i hi
 have e:fc n M g σ i=fc n M (fc n M g t) (fun k=>σ k - t k) i:=by
  rw [zeC]
  exact xT rfl fun k _=>by omega
 have hge:(σ i - t i) * M i i ≤ sm n fun k=>(σ k - t k) * M k i:=zfR (f:=fun k=>(σ k - t k) * M k i) hi fun k hk ne=>Int.mul_nonneg (by have:=hle k hk;omega) (Y.off k i hk hi ne)
 have e2:fc n M (fc n M g t) (fun k=>σ k - t k) i=fc n M g t i + sm n fun k=>(σ k - t k) * M k i:=rfl
 rw [Y.dia i hi,Int.mul_neg] at hge
 have hp:=Y.pos i hi
 have h2:(σ i - t i) * s i ≤ (c - 1) * s i:=Int.mul_le_mul_of_nonneg_right (by omega) (by omega)
 rw [Int.sub_mul c 1,Int.one_mul] at h2
 omega
structure Odo (n:Nat) (M:Nat→Nat→Int) (s g t:Nat→Int):Prop where
 br:xu n M s g t
 le:∀ σ,xu n M s g σ→∀ k,k < n→t k ≤ σ k
theorem Odo.one {g t u:Nat→Int} (a:Odo n M s g t) (b:Odo n M s g u):∀ k,k < n→t k=u k:=fun k hk=>by
 have:=a.le u b.br k hk
 have:=b.le t a.br k hk
 omega
theorem xu.congr {g g' t t' : Nat→Int} (hg:∀ k,k < n→g k=g' k) (ht:∀ k,k < n→t k=t' k) (b:xu n M s g t):xu n M s g' t' :=
 ⟨fun k hk=>by rw [← ht k hk];exact b.1 k hk,fun j hj=>by rw [← xT (hg j hj) ht];exact b.2 j hj⟩
theorem Odo.congr {g g' t t' : Nat→Int} (hg:∀ k,k < n→g k=g' k) (ht:∀ k,k < n→t k=t' k) (a:Odo n M s g t):Odo n M s g' t' :=
 ⟨a.br.congr hg ht,fun σ b k hk=>by rw [← ht k hk];exact a.le σ (b.congr (fun k hk=>(hg k hk).symm) fun _ _=>rfl) k hk⟩
theorem Odo.put {g h t u:Nat→Int} (hh:∀ k,k < n→0 ≤ h k) (a:Odo n M s g t) (b:Odo n M s (fun k=>fc n M g t k + h k) u):Odo n M s (fun k=>g k + h k) (fun k=>t k + u k):=by
 have e:∀ (v:Nat→Int) j,fc n M (fun k=>fc n M g t k + h k) v j=fc n M (fun k=>g k + h k) (fun k=>t k + v k) j:=fun v j=>by
  rw [fc_g,fc_g,zeC]
 refine ⟨⟨fun k hk => ?_,fun j hj => ?_⟩,fun σ B k hk => ?_⟩
 ·show 0 ≤ t k + u k
  have:=a.br.1 k hk;have:=b.br.1 k hk;omega
 ·rw [← e];exact b.br.2 j hj
 ·have B1:xu n M s g σ:=⟨B.1,fun j hj=>by
   have q:=B.2 j hj
   rw [fc_g] at q
   have:=hh j hj
   omega⟩
  have l1:=a.le σ B1
  have B2:xu n M s (fun k=>fc n M g t k + h k) (fun k=>σ k - t k):=⟨fun k hk=>by show 0 ≤ σ k - t k;have:=l1 k hk;omega,fun j hj=>by
   rw [e]
   rw [xT (g':=fun k=>g k + h k) (t':=σ) rfl fun k _=>by omega]
   exact B.2 j hj⟩
  have:=b.le _ B2 k hk
  omega
structure Way (n:Nat) (M:Nat→Nat→Int) (s g:Nat→Int) (t:Nat→Int):Prop where
 nn:∀ k,k < n→0 ≤ t k
 le:∀ σ,xu n M s g σ→∀ k,k < n→t k ≤ σ k
theorem Way.start {g:Nat→Int}:Way n M s g (fun _=>0):=⟨fun _ _=>Int.le_refl _,fun σ B k hk=>B.1 k hk⟩
theorem Way.step (Y:Yd n M s) {g t:Nat→Int} (W:Way n M s g t) {i:Nat} (hi:i < n) {c:Int} (h0:0 ≤ c) (hc:c * s i ≤ fc n M g t i):Way n M s g (fun k=>if k=i then t k + c else t k) :=
 ⟨fun k hk=>by
  have:=W.nn k hk
  by_cases e:k=i
  ·simp only [if_pos e];omega
  ·simp only [if_neg e];omega,fun σ B k hk=>by
  by_cases e:k=i
  ·subst e;simp only [if_true];exact least Y B (W.le σ B) hk hc h0
  ·simp only [if_neg e];exact W.le σ B k hk⟩
theorem Way.odo {g t:Nat→Int} (W:Way n M s g t) (h:kr n s (fc n M g t)):Odo n M s g t:=⟨⟨W.nn,h⟩,W.le⟩
structure Net (n:Nat) (B:Nat→Nat→Int):Prop where
 sym:∀ p q,B p q=B q p
 nn:∀ p q,0 ≤ B p q
 no:∀ p,B p p=0
 conn:∀ S:Nat→Prop,S 0→(∀ p q,p ≤ n→q ≤ n→1 ≤ B p q→S p→S q)→∀ p,p ≤ n→S p
noncomputable def szB (n:Nat) (B:Nat→Nat→Int) (i:Nat):Int:=sm (n + 1) (B (i + 1))
noncomputable def chB (n:Nat) (B:Nat→Nat→Int) (i j:Nat):Int:=if i=j then -szB n B i else B (i + 1) (j + 1)
variable {B:Nat→Nat→Int}
noncomputable def reach (n:Nat) (B:Nat→Nat→Int):Nat→Nat→Prop
 | 0,p=>p=0
 | k + 1,p=>reach n B k p ∨ ∃ q,q ≤ n∧1 ≤ B q p∧reach n B k q
theorem zbd {P:Nat→Prop} (h:∃ k,P k):∃ k,P k∧∀ j,j < k→¬ P j:=by
 obtain ⟨k,hk⟩:=h
 induction k using Nat.strongRecOn with
 | _ k ih =>
  by_cases q:∃ j,j < k∧P j
  ·obtain ⟨j,h1,h2⟩:=q
   exact ih j h1 h2
  ·exact ⟨k,hk,fun j hj z=>q ⟨j,hj,z⟩⟩
theorem Net.rank (N:Net n B):∃ r:Nat→Nat,r 0=0∧∀ p,p ≤ n→0 < p→∃ q,q ≤ n∧1 ≤ B q p∧r q < r p:=by
 have all:∀ p,p ≤ n→∃ k,reach n B k p:=N.conn (fun p=>∃ k,reach n B k p) ⟨0,rfl⟩ fun p q hp hq hb ⟨k,hk⟩=>⟨k + 1,.inr ⟨p,hp,hb,hk⟩⟩
 have al:∀ p,∃ k,p ≤ n→reach n B k p∧∀ j,j < k→¬ reach n B j p:=fun p=>by
  by_cases hp:p ≤ n
  ·obtain ⟨k,h1,h2⟩:=zbd (all p hp)
   exact ⟨k,fun _=>⟨h1,h2⟩⟩
  ·exact ⟨0,fun z=>absurd z hp⟩
 have h:∃ r:Nat→Nat,∀ p,p ≤ n→reach n B (r p) p∧∀ j,j < r p→¬ reach n B j p:=⟨fun p=>(al p).choose,fun p hp=>(al p).choose_spec hp⟩
 obtain ⟨r,hr⟩:=h
 refine ⟨r,?_,fun p hp h0 => ?_⟩
 ·apply Nat.eq_zero_of_not_pos
  intro z
  exact (hr 0 (by omega)).2 0 z rfl
 ·obtain ⟨h1,h2⟩:=hr p hp
  cases e:r p with
  | zero =>
   rw [e] at h1
   have:p=0:=h1
   omega
  | succ k =>
   rw [e] at h1 h2
   rcases h1 with h1 | ⟨q,hq,hb,h3⟩
   ·exact absurd h1 (h2 k (by omega))
   ·refine ⟨q,hq,hb,?_⟩
    apply Nat.lt_of_not_le
    intro z
    exact (hr q hq).2 k (by omega) h3
theorem Net.yd (N:Net n B):(∀ i,i < n→1 ≤ szB n B i)→Yd n (chB n B) (szB n B):=fun h =>
 ⟨h,fun i _=>if_pos rfl,fun i j _ _ ne=>by rw [chB,if_neg ne];exact N.nn _ _⟩
theorem Net.size_pos (N:Net n B):∀ i,i < n→1 ≤ szB n B i:=fun i hi=>by
 obtain ⟨r,h0,h⟩:=N.rank
 obtain ⟨q,hq,hb,_⟩:=h (i + 1) (by omega) (by omega)
 have:=zfR (n:=n + 1) (f:=B (i + 1)) (i:=q) (by omega) fun k _ _=>N.nn _ _
 rw [N.sym] at hb
 exact Int.le_trans hb this
theorem zgv (n:Nat) (f:Nat→Nat):∃ D,∀ p,p ≤ n→f p ≤ D:=by
 induction n with
 | zero=>exact ⟨f 0,fun p hp=>by rw [Nat.le_zero.mp hp];exact Nat.le_refl _⟩
 | succ n ih =>
  obtain ⟨D,h⟩:=ih
  refine ⟨max D (f (n + 1)),fun p hp => ?_⟩
  by_cases e:p=n + 1
  ·subst e;exact Nat.le_max_right _ _
  ·exact Nat.le_trans (h p (by omega)) (Nat.le_max_left _ _)
theorem za5 (n:Nat) (f:Nat→Int):∃ D:Int,0 ≤ D∧∀ p,p < n→f p ≤ D:=by
 induction n with
 | zero=>exact ⟨0,Int.le_refl _,fun p hp=>by omega⟩
 | succ n ih =>
  obtain ⟨D,h0,h⟩:=ih
  refine ⟨max D (f n),by omega,fun p hp => ?_⟩
  by_cases e:p=n
  ·subst e;omega
  ·have:=h p (by omega);omega
theorem xl (n:Nat) (f:Nat→Int):sm (n + 1) f=f 0 + sm n fun k=>f (k + 1):=by
 induction n with
 | zero=>rw [zY,yq,yq];omega
 | succ n ih=>rw [zY,ih,zY];omega
theorem Net.flow (N:Net n B) (h:Nat→Int) (h0:h 0=0) {i:Nat} (hi:i < n):(sm n fun k=>h (k + 1) * chB n B k i)=-(sm (n + 1) fun p=>(h (i + 1) - h p) * B (i + 1) p):=by
 have e1:(sm (n + 1) fun p=>(h (i + 1) - h p) * B (i + 1) p)=h (i + 1) * szB n B i + -(sm (n + 1) fun p=>h p * B (i + 1) p):=by
  have:(fun p=>(h (i + 1) - h p) * B (i + 1) p)=fun p=>h (i + 1) * B (i + 1) p + (-1) * (h p * B (i + 1) p):=funext fun p=>by rw [Int.sub_mul];omega
  rw [this,km,qw,qw]
  unfold szB
  omega
 have e2:(sm n fun k=>h (k + 1) * chB n B k i)=(sm n fun k=>h (k + 1) * B (i + 1) (k + 1)) + -(h (i + 1) * szB n B i):=by
  rw [← zfQ hi]
  refine zP fun k _ => ?_
  by_cases e:k=i
  ·subst e
   rw [if_pos rfl,chB,if_pos rfl,N.no,Int.mul_neg]
   omega
  ·rw [if_neg e,chB,if_neg e,N.sym]
 rw [e1,e2,xl,h0]
 omega
theorem Net.brings (N:Net n B) (g:Nat→Int):∃ σ,xu n (chB n B) (szB n B) g σ:=by
 obtain ⟨r,r0,hr⟩:=N.rank
 obtain ⟨D,hD⟩:=zgv n r
 obtain ⟨P0,hP0,hP⟩:=za5 n (szB n B)
 obtain ⟨G,hG0,hG⟩:=za5 n g
 have hp1:1 ≤ P0 + 1:=by omega
 have pw:∀ k:Nat,1 ≤ (P0 + 1) ^ k:=fun k=>by
  induction k with
  | zero=>simp
  | succ k ih =>
   rw [Int.pow_succ]
   have:=Int.mul_le_mul ih hp1 (by omega) (by omega)
   omega
 have mono:∀ a b:Nat,a ≤ b→(P0 + 1) ^ a ≤ (P0 + 1) ^ b:=fun a b hab=>by
  obtain ⟨c,rfl⟩:=Nat.exists_eq_add_of_le hab
  rw [Int.pow_add]
  have h1:=pw a
  have:=Int.mul_le_mul_of_nonneg_left (pw c) (by omega:0 ≤ (P0 + 1) ^ a)
  omega
 let h:Nat→Int:=fun p=>(P0 + 1) ^ D - (P0 + 1) ^ (D - r p)
 have hh0:h 0=0:=by show (P0 + 1) ^ D - (P0 + 1) ^ (D - r 0)=0;rw [r0];exact Int.sub_self _
 have hnn:∀ p,0 ≤ h p:=fun p=>by
  have:=mono (D - r p) D (by omega)
  show 0 ≤ (P0 + 1) ^ D - (P0 + 1) ^ (D - r p)
  omega
 have key:∀ i,i < n→1 ≤ sm (n + 1) fun p=>(h (i + 1) - h p) * B (i + 1) p:=fun i hi=>by
  obtain ⟨q,hq,hb,hlt⟩:=hr (i + 1) (by omega) (by omega)
  let A:=(P0 + 1) ^ (D - r (i + 1))
  have hA:1 ≤ A:=pw _
  have f0:∀ p,0 ≤ (h (i + 1) - h p) * B (i + 1) p + A * B (i + 1) p:=fun p=>by
   rw [← Int.add_mul]
   refine Int.mul_nonneg ?_ (N.nn _ _)
   have:=pw (D - r p)
   show 0 ≤ ((P0 + 1) ^ D - (P0 + 1) ^ (D - r (i + 1))) - ((P0 + 1) ^ D - (P0 + 1) ^ (D - r p)) + (P0 + 1) ^ (D - r (i + 1))
   omega
  have fq:(P0 + 1) * A ≤ (h (i + 1) - h q) * B (i + 1) q + A * B (i + 1) q:=by
   rw [← Int.add_mul]
   have hle:(P0 + 1) * A ≤ h (i + 1) - h q + A:=by
    have hD1:=hD (i + 1) (by omega)
    have m:=mono (D - r (i + 1) + 1) (D - r q) (by omega)
    rw [Int.pow_succ,Int.mul_comm] at m
    show (P0 + 1) * (P0 + 1) ^ (D - r (i + 1)) ≤ ((P0 + 1) ^ D - (P0 + 1) ^ (D - r (i + 1))) - ((P0 + 1) ^ D - (P0 + 1) ^ (D - r q)) + (P0 + 1) ^ (D - r (i + 1))
    omega
   have hb' : 1 ≤ B (i + 1) q:=by rw [N.sym];exact hb
   have h1:0 ≤ (P0 + 1) * A:=Int.mul_nonneg (by omega) (by omega)
   have:=Int.mul_le_mul_of_nonneg_left hb' (show 0 ≤ h (i + 1) - h q + A by omega)
   omega
  have tot:(P0 + 1) * A ≤ sm (n + 1) fun p=>(h (i + 1) - h p) * B (i + 1) p + A * B (i + 1) p:=Int.le_trans fq (zfR (f:=fun p=>(h (i + 1) - h p) * B (i + 1) p + A * B (i + 1) p) (i:=q) (by omega) fun k _ _=>f0 k)
  rw [km,qw] at tot
  have hs:A * szB n B i ≤ A * P0:=Int.mul_le_mul_of_nonneg_left (hP i hi) (by omega)
  have e:szB n B i=sm (n + 1) (B (i + 1)):=rfl
  rw [e] at hs
  have e3:(P0 + 1) * A=A * P0 + A:=by rw [Int.add_mul,Int.one_mul,Int.mul_comm]
  have e4:(sm (n + 1) fun k=>B (i + 1) k)=sm (n + 1) (B (i + 1)):=rfl
  rw [e4] at tot
  omega
 refine ⟨fun k=>(G + 1) * h (k + 1),fun k _=>Int.mul_nonneg (by omega) (hnn _),fun j hj => ?_⟩
 have e:fc n (chB n B) g (fun k=>(G + 1) * h (k + 1)) j=g j + (G + 1) * -(sm (n + 1) fun p=>(h (j + 1) - h p) * B (j + 1) p):=by
  rw [← N.flow h hh0 hj,← qw]
  unfold fc
  congr 1
  exact zP fun k _=>Int.mul_assoc ..
 rw [e,Int.mul_neg]
 have:=Int.mul_le_mul_of_nonneg_left (key j hj) (show 0 ≤ G + 1 by omega)
 have:=hG j hj
 have:=N.size_pos j hj
 omega
end L2.Sd
namespace L2.Y
open PySem PyProof.Rows
theorem zbo (x y:Int) (xs ys:List Int):HT.lexLt (x :: xs) (y :: ys)=if x=y then HT.lexLt xs ys else decide (x < y):=rfl
theorem zi1:HT.lexLt [] []=false:=rfl
theorem zkn (y:Int) (ys:List Int):HT.lexLt [] (y :: ys)=true:=rfl
theorem zi0 (x:Int) (xs:List Int):HT.lexLt (x :: xs) []=false:=rfl
theorem kR:∀ a:List Int,HT.lexLt a a=false
 | []=>rfl
 | x :: xs=>by rw [zbo,if_pos rfl,kR xs]
theorem zbn:∀ a b c:List Int,HT.lexLt a b=true→HT.lexLt b c=true→HT.lexLt a c=true
 | _,[],[],_,h=>by rw [zi1] at h;cases h
 | [],[],_,h,_=>by rw [zi1] at h;cases h
 | x :: xs,[],_,h,_=>by rw [zi0] at h;cases h
 | _,y :: ys,[],_,h=>by rw [zi0] at h;cases h
 | [],y :: ys,z :: zs,_,_=>rfl
 | x :: xs,y :: ys,z :: zs,h1,h2=>by
  rw [zbo] at h1 h2 ⊢
  by_cases e1:x=y
  ·subst e1
   rw [if_pos rfl] at h1
   by_cases e2:x=z
   ·rw [if_pos e2] at h2 ⊢;exact zbn xs ys zs h1 h2
   ·rw [if_neg e2] at h2 ⊢;exact h2
  ·rw [if_neg e1,decide_eq_true_eq] at h1
   by_cases e2:y=z
   ·subst e2;rw [if_neg e1,decide_eq_true_eq];exact h1
   ·rw [if_neg e2,decide_eq_true_eq] at h2
    rw [if_neg (by omega),decide_eq_true_eq];omega
theorem ze6:∀ a b c:List Int,HT.lexLt a c=true→HT.lexLt a b=true ∨ HT.lexLt b c=true
 | [],_,[],h=>by rw [zi1] at h;cases h
 | x :: xs,_,[],h=>by rw [zi0] at h;cases h
 | _,[],z :: zs,_=>.inr rfl
 | [],y :: ys,z :: zs,_=>.inl rfl
 | x :: xs,y :: ys,z :: zs,h=>by
  rw [zbo] at h
  rw [zbo,zbo]
  by_cases e1:x=y
  ·subst e1
   rw [if_pos rfl]
   by_cases e2:x=z
   ·rw [if_pos e2] at h ⊢;exact ze6 xs ys zs h
   ·rw [if_neg e2] at h ⊢;exact .inr h
  ·rw [if_neg e1]
   by_cases e2:x=z
   ·subst e2
    rw [if_neg (fun z=>e1 z.symm)]
    rcases Int.lt_or_gt_of_ne e1 with q | q
    ·exact .inl (decide_eq_true q)
    ·exact .inr (decide_eq_true q)
   ·rw [if_neg e2,decide_eq_true_eq] at h
    by_cases q:x < y
    ·exact .inl (decide_eq_true q)
    ·refine .inr ?_
     rw [if_neg (by omega),decide_eq_true_eq];omega
theorem vT:∀ a b:List Int,HT.lexLt a b=false→HT.lexLt b a=false→a=b
 | [],[],_,_=>rfl
 | [],y :: ys,h,_=>by rw [zkn] at h;cases h
 | x :: xs,[],_,h=>by rw [zkn] at h;cases h
 | x :: xs,y :: ys,h1,h2=>by
  rw [zbo] at h1 h2
  by_cases e:x=y
  ·subst e
   rw [if_pos rfl] at h1 h2
   rw [vT xs ys h1 h2]
  ·rw [if_neg e,decide_eq_false_iff_not] at h1
   rw [if_neg (fun z=>e z.symm),decide_eq_false_iff_not] at h2
   omega
noncomputable def zbm:KeyOrd:=⟨List Int,HT.lexLt,kR,zbn,ze6,vT⟩
noncomputable def LeL (a b:List Int):Prop:=HT.lexLt b a=false
theorem vK (x:List Int):∀ l,(insL x l).Perm (x :: l)
 | []=>.refl _
 | y :: r=>by
  unfold insL
  split
  ·exact ((vK x r).cons y).trans (.swap x y r)
  ·exact .refl _
theorem wc:∀ l,(yr l).Perm l
 | []=>.refl _
 | x :: r=>(vK x (yr r)).trans ((wc r).cons x)
theorem vL (x:List Int):∀ l,l.Pairwise LeL→(insL x l).Pairwise LeL
 | [],_=>List.pairwise_singleton _ _
 | y :: r,h=>by
  rw [List.pairwise_cons] at h
  unfold insL
  split
  ·rename_i hy
   rw [List.pairwise_cons]
   refine ⟨fun z hz => ?_,vL x r h.2⟩
   rcases List.mem_cons.mp ((vK x r).mem_iff.mp hz) with e | e
   ·subst e;exact KeyOrd.klt_asymm (O:=zbm) hy
   ·exact h.1 z e
  ·rename_i hy
   have hxy:LeL x y:=by unfold LeL;simpa using hy
   rw [List.pairwise_cons,List.pairwise_cons]
   refine ⟨fun z hz => ?_,h.1,h.2⟩
   rcases List.mem_cons.mp hz with e | e
   ·subst e;exact hxy
   ·exact KeyOrd.kle_trans (O:=zbm) (a:=x) (b:=y) (c:=z) hxy (h.1 z e)
theorem xP:∀ l,(yr l).Pairwise LeL
 | []=>.nil
 | x :: r=>vL x _ (xP r)
theorem zae:∀ {a b:List (List Int)},a.Pairwise LeL→b.Pairwise LeL→a.Perm b→a=b
 | [],b,_,_,p=>(List.nil_perm.mp p).symm
 | x :: a,[],_,_,p=>absurd p.length_eq (by simp)
 | x :: a,y :: b,ha,hb,p=>by
  rw [List.pairwise_cons] at ha hb
  have e:x=y:=by
   have hx:x ∈ y :: b:=p.mem_iff.mp List.mem_cons_self
   have hy:y ∈ x :: a:=p.mem_iff.mpr List.mem_cons_self
   rcases List.mem_cons.mp hx with z | z
   ·exact z
   rcases List.mem_cons.mp hy with w | w
   ·exact w.symm
   exact vT x y (hb.1 x z) (ha.1 y w)
  subst e
  rw [zae ha.2 hb.2 ((List.perm_cons x).mp p)]
theorem zhM {a b:List (List Int)} (p:a.Perm b) (h:a.Pairwise LeL):a=yr b:=zae h (xP b) (p.trans (wc b).symm)
end L2.Y
namespace L2.Y
open PySem
section
variable {prog:Program} {w:World} {A:Around} {E:Value→Shared→Prop} {s:Shared} {it t:Addr} {i:Nat} {xs:Array Value} {Q:Value→Shared→Prop}
theorem yX {x:Value} (W:s.heap.IsTupleIter it t i) (T:s.heap.IsTuple t xs) (hx:xs[i]?=some x) (k:∀ h',h'.IsTupleIter it t (i + 1)→Heap.SameBut it s.heap h'→Q x { s with heap:=h' }):wpAny (model prog w) A (Builtin.SmallTypes.nextOf (.ref it)) Q E s:=by
 obtain ⟨ow,hw,hc,hd⟩:=id W
 obtain ⟨ot,ht,_,n,hdt⟩:=T
 unfold Builtin.SmallTypes.nextOf
 refine wpAny_bind (wpAny_callSpecial?_slot (name:=Str.ofString "__next__") W.typeIs F.slot_tuple_iterator_next (wpAny_call_entry F.slot_tuple_iterator_next W.typeIs F.entry_tuple_iterator_next ?_ (F.args_tuple_iterator_next_1 _)))
 show wpAny _ _ (field (.ref it) 0 >>= _) _ _ s
 refine wpAny_bind (wpAny_field hw hd (x:=.ref t) rfl ?_)
 show wpAny _ _ (if (Value.ref t == Value.none)=true then _ else _) _ _ s
 rw [if_neg (by simp)]
 show wpAny _ _ (field (.ref it) 1 >>= _) _ _ s
 refine wpAny_bind (wpAny_field hw hd (x:=.int i 0) rfl ?_)
 show wpAny _ _ (seqItems? (.ref t) >>= _) _ _ s
 refine wpAny_bind (wpAny_seqItems ht hdt ?_)
 simp only [Int.toNat_natCast,hx]
 refine wpAny_bind (wpAny_setField hw hd (by simp) (wpAny_pure ⟨x,rfl,wpAny_pure (k _ ⟨_,Heap.get?_update_self _ hw (Obj.isFreed_of_fields (Obj.data_mapFields hd _)),(Obj.cls_mapFields ..).trans hc,?_⟩ (Heap.SameBut.update ..))⟩))
 rw [Obj.data_mapFields hd];simp [rawInt]
theorem zaS (hh:A.handled=none) (W:s.heap.IsTupleIter it t i) (T:s.heap.IsTuple t xs) (hx:xs[i]?=none) (k:∀ h' e,Heap.ExtBut it s.heap h'→(∃ o,h'.get? e=some o∧o.cls=.type "StopIteration")→E (.ref e) { s with heap:=h' }):wpAny (model prog w) A (Builtin.SmallTypes.nextOf (.ref it)) Q E s:=by
 obtain ⟨ow,hw,hc,hd⟩:=id W
 obtain ⟨ot,ht,_,n,hdt⟩:=T
 unfold Builtin.SmallTypes.nextOf
 refine wpAny_bind (wpAny_callSpecial?_slot (name:=Str.ofString "__next__") W.typeIs F.slot_tuple_iterator_next (wpAny_call_entry F.slot_tuple_iterator_next W.typeIs F.entry_tuple_iterator_next ?_ (F.args_tuple_iterator_next_1 _)))
 show wpAny _ _ (field (.ref it) 0 >>= _) _ _ s
 refine wpAny_bind (wpAny_field hw hd (x:=.ref t) rfl ?_)
 show wpAny _ _ (if (Value.ref t == Value.none)=true then _ else _) _ _ s
 rw [if_neg (by simp)]
 show wpAny _ _ (field (.ref it) 1 >>= _) _ _ s
 refine wpAny_bind (wpAny_field hw hd (x:=.int i 0) rfl ?_)
 show wpAny _ _ (seqItems? (.ref t) >>= _) _ _ s
 refine wpAny_bind (wpAny_seqItems ht hdt ?_)
 simp only [Int.toNat_natCast,hx]
 refine wpAny_bind (wpAny_rule (wpAny_bind (wpAny_setField hw hd (by simp) ?_)))
 show wpAny _ _ (newExc (.type "StopIteration") [] >>= _) _ _ _
 refine wpAny_bind ?_
 simp only [newExc,newTuple]
 refine wpAny_bind (wpAny_newObj_type (wpAny_bind (m:=firstArgMember _ _) (wpAny_of_eq (a:=Value.none) (by first | rfl | (simp only [firstArgMember];rfl)) (wpAny_newObj_type ?_ (by size_fits)))) (by size_fits))
 simp only [raiseNew]
 refine wpAny_bind (wpAny_handled ?_)
 first | rw [show A.in1.handled=none from hh] | rw [hh]
 exact wpAny_bind (wpAny_pure (wpAny_throw (k _ _ (((Heap.SameBut.update ..).extBut.push _).push _) ⟨_,Heap.get?_push_size _ rfl,rfl⟩)))
end
theorem zbb {prog:Program} {w:World} {A:Around} (hh:A.handled=none) (it t:Addr) (ne:t ≠ it) (xs:Array Value):Draws prog w A it [it,t] xs.size (fun i v=>xs[i]?=some v) (fun i h=>h.IsTupleIter it t i∧h.IsTuple t xs) where
 live:=fun _ _ st=>let ⟨o,ho,_⟩:=st.1;⟨o,ho⟩
 frame:=fun _ _ _ ⟨⟨o,e,r⟩,⟨o2,e2,r2⟩⟩ k=>⟨⟨o,k it (by simp) o e,r⟩,⟨o2,k t (by simp) o2 e2,r2⟩⟩
 item:=fun i s Q E hi st k=>yX st.1 st.2 (x:=xs[i]) (by simp [hi]) fun h' w' b=>k _ h' s.toks (by simp [hi]) ⟨w',st.2.extBut b.extBut ne⟩ b
 done:=fun s Q E st k=>zaS hh st.1 st.2 (by simp) k
end L2.Y
namespace L2.Y
open PySem
section
variable {prog:Program} {w:World} {A:Around} {E:Value→Shared→Prop} {s:Shared} {z TI TO i1 i2 l1 l2:Addr} {k1 k2:Nat} {xs ys:Array Value} {u v:Value}
structure ZT (s:Shared) (z TI TO i1 i2 l1 l2:Addr) (k1 k2:Nat) (xs ys:Array Value) (u v:Value):Prop where
 z:IsZip s.heap z TI TO .none
 ti:IsPair s.heap TI (.ref i1) (.ref i2)
 to:IsPair s.heap TO u v
 w1:s.heap.IsTupleIter i1 l1 k1
 w2:s.heap.IsTupleIter i2 l2 k2
 t1:s.heap.IsTuple l1 xs
 t2:s.heap.IsTuple l2 ys
noncomputable def But4 (z TO i1 i2:Addr) (h h' : Heap):Prop:=∀ c o,c ≠ z→c ≠ TO→c ≠ i1→c ≠ i2→h.get? c=some o→h'.get? c=some o
theorem xJ {h h' : Heap} {a t:Addr} {i:Nat} (x:h.IsTupleIter a t i) (k:∀ o,h.get? a=some o→h'.get? a=some o):h'.IsTupleIter a t i:=let ⟨o,ho,r⟩:=x;⟨o,k o ho,r⟩
theorem zgj {x y:Value} {Q:Value→Shared→Prop} (D:ZipApart z TI TO i1 i2 l1 l2) (Z:ZT s z TI TO i1 i2 l1 l2 k1 k2 xs ys u v) (hx:xs[k1]?=some x) (hy:ys[k2]?=some y)
  (k:∀ h',IsZip h' z TI TO (rawInt s.heap.objs.size)→IsPair h' TO x y→h'.IsTupleIter i1 l1 (k1 + 1)→h'.IsTupleIter i2 l2 (k2 + 1)→IsPair h' s.heap.objs.size x y→But4 z TO i1 i2 s.heap h'→Q (.ref s.heap.objs.size) { s with heap:=h' }) :
  wpAny (model prog w) A (Builtin.«zip.__next__» ⟨[.ref z],[]⟩) (fun fin s'=>∃ r,fin=.done (.ret r)∧Q r s') E s:=by
 obtain ⟨hz,hTI,hTO,h1,h2,hl1,hl2⟩:=Z
 show wpAny _ _ (field (.ref z) 2 >>= _) _ _ _
 refine wpAny_bind (wpAny_field hz rfl (x:=.bool false) rfl ?_)
 show wpAny _ _ (field (.ref z) 3 >>= _) _ _ _
 refine wpAny_bind (wpAny_field hz rfl (x:=.ref TI) rfl (wpAny_bind (wpAny_seqItems hTI rfl ?_)))
 show wpAny _ _ (Builtin.SmallTypes.ownedTupleIsFree (.ref z) >>= _) _ _ _
 refine wpAny_bind ?_
 unfold Builtin.SmallTypes.ownedTupleIsFree
 refine wpAny_bind (wpAny_field hz rfl (x:=.none) rfl (wpAny_pure ?_))
 simp only [if_true]
 refine wpAny_bind (wpAny_rule (wpAny_bind (wpAny_field hz rfl (x:=.ref TO) rfl (wpAny_bind (wpAny_setField_rec hz (by simp) fun a₁ hz₁ b₁=>wpAny_bind ?_)))))
 replace hz₁:IsZip a₁ z TI TO .ellipsis:=hz₁
 simp only [List.zipIdx_cons,List.zipIdx_nil,List.forIn_cons,List.forIn_nil]
 refine wpAny_bind (wpAny_bind (wpAny_onRaise ?_))
 show wpAny _ _ (Builtin.SmallTypes.nextOf (.ref i1) >>= _) _ _ _
 refine wpAny_bind (yX (h1.extBut b₁.extBut D.i1z) (hl1.extBut b₁.extBut D.l1z) hx fun a₂ w₂ b₂=>wpAny_pure ?_)
 have hTO₂:IsPair a₂ TO u v:=b₂.extBut _ _ D.TOi1 (b₁.extBut _ _ D.TOz hTO)
 refine wpAny_bind (wpAny_seqItems hTO₂ rfl (wpAny_bind (wpAny_updateSeq_pair hTO₂ fun a₃ hTO₃ b₃=>wpAny_bind (wpAny_letGo (wpAny_pure ?_)))))
 replace hTO₃:IsPair a₃ TO x v:=hTO₃
 refine wpAny_bind (wpAny_bind (wpAny_onRaise ?_))
 show wpAny _ _ (Builtin.SmallTypes.nextOf (.ref i2) >>= _) _ _ _
 refine wpAny_bind (yX (((h2.extBut b₁.extBut D.i2z).extBut b₂.extBut D.i12.symm).extBut b₃.extBut D.TOi2.symm) (((hl2.extBut b₁.extBut D.l2z).extBut b₂.extBut D.l2i1).extBut b₃.extBut D.l2TO) hy fun a₄ w₄ b₄=>wpAny_pure ?_)
 have hTO₄:IsPair a₄ TO x v:=b₄.extBut _ _ D.TOi2 hTO₃
 refine wpAny_bind (wpAny_seqItems hTO₄ rfl (wpAny_bind (wpAny_updateSeq_pair hTO₄ fun a₅ hTO₅ b₅=>wpAny_bind (wpAny_letGo (wpAny_pure (wpAny_pure ?_))))))
 replace hTO₅:IsPair a₅ TO x y:=hTO₅
 refine wpAny_bind (wpAny_seqItems hTO₅ rfl (wpAny_bind (wpAny_newTuple ?_)))
 have sz:a₅.objs.size=s.heap.objs.size:=by rw [b₅.1,b₄.1,b₃.1,b₂.1,b₁.1]
 have hz₅:IsZip a₅ z TI TO .ellipsis:=b₅.extBut _ _ D.TOz.symm (b₄.extBut _ _ D.i2z.symm (b₃.extBut _ _ D.TOz.symm (b₂.extBut _ _ D.i1z.symm hz₁)))
 have keep:But4 z TO i1 i2 s.heap a₅:=fun c o c1 c2 c3 c4 e=>b₅.extBut _ _ c2 (b₄.extBut _ _ c4 (b₃.extBut _ _ c2 (b₂.extBut _ _ c3 (b₁.extBut _ _ c1 e))))
 have v1:a₅.IsTupleIter i1 l1 (k1 + 1):=((w₂.extBut b₃.extBut D.TOi1.symm).extBut b₄.extBut D.i12).extBut b₅.extBut D.TOi1.symm
 have v2:a₅.IsTupleIter i2 l2 (k2 + 1):=w₄.extBut b₅.extBut D.TOi2.symm
 have ltz:z < a₅.objs.size:=Heap.lt_size hz₅
 show wpAny _ _ (Builtin.SmallTypes.ownedTupleHandOut (.ref z) (.ref a₅.objs.size) >>= _) _ _ _
 refine wpAny_bind ?_
 unfold Builtin.SmallTypes.ownedTupleHandOut
 have hz₆:IsZip (a₅.push { cls:=.type "tuple",data:=.seq #[x,y] }) z TI TO .ellipsis:=Heap.get?_push_of_some _ hz₅
 refine wpAny_bind (wpAny_setField_rec hz₆ (by simp) fun a₇ hz₇ b₇ => ?_)
 replace hz₇:IsZip a₇ z TI TO (rawInt a₅.objs.size):=hz₇
 refine wpAny_setField_rec hz₇ (by simp) fun a₈ hz₈ b₈ => ?_
 replace hz₈:IsZip a₈ z TI TO (rawInt a₅.objs.size):=hz₈
 have up:∀ c o,c ≠ z→a₅.get? c=some o→a₈.get? c=some o:=fun c o c1 e=>b₈.extBut _ _ c1 (b₇.extBut _ _ c1 (Heap.get?_push_of_some _ e))
 have pr:IsPair a₈ a₅.objs.size x y:=b₈.extBut _ _ (Nat.ne_of_gt ltz) (b₇.extBut _ _ (Nat.ne_of_gt ltz) (Heap.get?_push_size _ rfl))
 rw [sz] at hz₈ pr
 refine wpAny_pure ⟨_,rfl,?_⟩
 show Q (.ref a₅.objs.size) _
 rw [sz]
 exact k a₈ hz₈ (up _ _ D.TOz hTO₅) (xJ v1 fun o e=>up _ o D.i1z e) (xJ v2 fun o e=>up _ o D.i2z e) pr fun c o c1 c2 c3 c4 e=>up c o c1 (keep c o c1 c2 c3 c4 e)
theorem zgk {Q:Fin→Shared→Prop} (hh:A.handled=none) (D:ZipApart z TI TO i1 i2 l1 l2) (Z:ZT s z TI TO i1 i2 l1 l2 k1 k2 xs ys u v) (hend:xs[k1]?=none ∨ ys[k2]?=none)
  (k:∀ h' e,But4 z TO i1 i2 s.heap h'→(∃ o,h'.get? e=some o∧o.cls=.type "StopIteration")→E (.ref e) { s with heap:=h' }):wpAny (model prog w) A (Builtin.«zip.__next__» ⟨[.ref z],[]⟩) Q E s:=by
 obtain ⟨hz,hTI,hTO,h1,h2,hl1,hl2⟩:=Z
 show wpAny _ _ (field (.ref z) 2 >>= _) _ _ _
 refine wpAny_bind (wpAny_field hz rfl (x:=.bool false) rfl ?_)
 show wpAny _ _ (field (.ref z) 3 >>= _) _ _ _
 refine wpAny_bind (wpAny_field hz rfl (x:=.ref TI) rfl (wpAny_bind (wpAny_seqItems hTI rfl ?_)))
 show wpAny _ _ (Builtin.SmallTypes.ownedTupleIsFree (.ref z) >>= _) _ _ _
 refine wpAny_bind ?_
 unfold Builtin.SmallTypes.ownedTupleIsFree
 refine wpAny_bind (wpAny_field hz rfl (x:=.none) rfl (wpAny_pure ?_))
 simp only [if_true]
 refine wpAny_bind (wpAny_rule (wpAny_bind (wpAny_field hz rfl (x:=.ref TO) rfl (wpAny_bind (wpAny_setField_rec hz (by simp) fun a₁ hz₁ b₁=>wpAny_bind ?_)))))
 replace hz₁:IsZip a₁ z TI TO .ellipsis:=hz₁
 simp only [List.zipIdx_cons,List.zipIdx_nil,List.forIn_cons,List.forIn_nil]
 refine wpAny_bind (wpAny_bind (wpAny_onRaise ?_))
 show wpAny _ _ (Builtin.SmallTypes.nextOf (.ref i1) >>= _) _ _ _
 have nz:∀ {h:Heap} {e:Addr} {o:Obj},IsZip h z TI TO .ellipsis→h.get? e=some o→o.cls=.type "StopIteration" → e ≠ z:=fun a b c q=>by subst q;rw [a] at b;cases b;simp at c
 cases hx:xs[k1]? with
 | none =>
  refine wpAny_bind (zaS hh (h1.extBut b₁.extBut D.i1z) (hl1.extBut b₁.extBut D.l1z) hx fun a₂ e b₂ hZq => ?_)
  obtain ⟨oe,hoe,hce⟩:=hZq
  have hz₂:IsZip a₂ z TI TO .ellipsis:=b₂ _ _ D.i1z.symm hz₁
  exact wpAny_setField_rec hz₂ (by simp) fun a₃ _ b₃=>k a₃ e (fun c o c1 _ c3 _ q=>b₃.extBut _ _ c1 (b₂ _ _ c3 (b₁.extBut _ _ c1 q))) ⟨oe,b₃.extBut _ _ (nz hz₂ hoe hce) hoe,hce⟩
 | some x =>
  have hy:ys[k2]?=none:=by rcases hend with q | q;rw [hx] at q;cases q;exact q
  refine wpAny_bind (yX (h1.extBut b₁.extBut D.i1z) (hl1.extBut b₁.extBut D.l1z) hx fun a₂ w₂ b₂=>wpAny_pure ?_)
  have hTO₂:IsPair a₂ TO u v:=b₂.extBut _ _ D.TOi1 (b₁.extBut _ _ D.TOz hTO)
  refine wpAny_bind (wpAny_seqItems hTO₂ rfl (wpAny_bind (wpAny_updateSeq_pair hTO₂ fun a₃ hTO₃ b₃=>wpAny_bind (wpAny_letGo (wpAny_pure ?_)))))
  refine wpAny_bind (wpAny_bind (wpAny_onRaise ?_))
  show wpAny _ _ (Builtin.SmallTypes.nextOf (.ref i2) >>= _) _ _ _
  refine wpAny_bind (zaS hh (((h2.extBut b₁.extBut D.i2z).extBut b₂.extBut D.i12.symm).extBut b₃.extBut D.TOi2.symm) (((hl2.extBut b₁.extBut D.l2z).extBut b₂.extBut D.l2i1).extBut b₃.extBut D.l2TO) hy fun a₄ e b₄ hZq => ?_)
  obtain ⟨oe,hoe,hce⟩:=hZq
  have hz₄:IsZip a₄ z TI TO .ellipsis:=b₄ _ _ D.i2z.symm (b₃.extBut _ _ D.TOz.symm (b₂.extBut _ _ D.i1z.symm hz₁))
  exact wpAny_setField_rec hz₄ (by simp) fun a₅ _ b₅=>k a₅ e (fun c o c1 c2 c3 c4 q=>b₅.extBut _ _ c1 (b₄ _ _ c4 (b₃.extBut _ _ c2 (b₂.extBut _ _ c3 (b₁.extBut _ _ c1 q))))) ⟨oe,b₅.extBut _ _ (nz hz₄ hoe hce) hoe,hce⟩
theorem zdO {x y:Value} {Q:Option Value→Shared→Prop} (D:ZipApart z TI TO i1 i2 l1 l2) (Z:ZT s z TI TO i1 i2 l1 l2 k1 k2 xs ys u v) (hx:xs[k1]?=some x) (hy:ys[k2]?=some y)
  (k:∀ h',IsZip h' z TI TO (rawInt s.heap.objs.size)→IsPair h' TO x y→h'.IsTupleIter i1 l1 (k1 + 1)→h'.IsTupleIter i2 l2 (k2 + 1)→IsPair h' s.heap.objs.size x y→But4 z TO i1 i2 s.heap h'→Q (some (.ref s.heap.objs.size)) { s with heap:=h' }):wpAny (model prog w) A (pyNext (.ref z)) Q E s:=by
 have T:s.TypeIs (.ref z) "zip" := ⟨_,Z.z,rfl⟩
 unfold pyNext
 exact wpAny_bind (wpAny_attempt (wpAny_callSpecial?_slot (name:=Str.ofString "__next__") T F.slot_zip_next (wpAny_call_entry F.slot_zip_next T F.entry_zip_next (zgj D Z hx hy fun h' p1 p2 p3 p4 p5 p6=>wpAny_pure (k h' p1 p2 p3 p4 p5 p6)) (F.args_zip_next_1 _))))
theorem zdN {Q:Option Value→Shared→Prop} (hh:A.handled=none) (D:ZipApart z TI TO i1 i2 l1 l2) (Z:ZT s z TI TO i1 i2 l1 l2 k1 k2 xs ys u v) (hend:xs[k1]?=none ∨ ys[k2]?=none) (k:∀ h',But4 z TO i1 i2 s.heap h'→Q none { s with heap:=h' }):wpAny (model prog w) A (pyNext (.ref z)) Q E s:=by
 have T:s.TypeIs (.ref z) "zip" := ⟨_,Z.z,rfl⟩
 unfold pyNext
 refine wpAny_bind (wpAny_attempt (wpAny_callSpecial?_slot (name:=Str.ofString "__next__") T F.slot_zip_next (wpAny_call_entry F.slot_zip_next T F.entry_zip_next (zgk hh D Z hend fun h' e b ⟨o,ho,hc⟩ => ?_) (F.args_zip_next_1 _))))
 exact wpAny_bind (wpAny_isInstance (T := "StopIteration") (b:=true) ⟨o,ho,hc⟩ isSubtype_stop (wpAny_pure (k _ b)))
end
noncomputable def zt1 (h:Heap) (l1:Addr):Heap:=h.push { cls:=.type "tuple_iterator",data:=.fields #[.ref l1,.int 0 0] }
noncomputable def zt2 (h:Heap) (l1 l2:Addr):Heap:=(zt1 h l1).push { cls:=.type "tuple_iterator",data:=.fields #[.ref l2,.int 0 0] }
noncomputable def zt3 (h:Heap) (l1 l2:Addr):Heap:=(zt2 h l1 l2).push { cls:=.type "tuple",data:=.seq #[.ref h.objs.size,.ref (zt1 h l1).objs.size] }
noncomputable def zt4 (h:Heap) (l1 l2:Addr):Heap:=(zt3 h l1 l2).push { cls:=.type "tuple",data:=.seq #[.none,.none] }
noncomputable def zt5 (h:Heap) (l1 l2:Addr):Heap:=(zt4 h l1 l2).push { cls:=.type "zip",data:=.fields #[.none,.bool false,.bool false,.ref (zt2 h l1 l2).objs.size,.ref (zt3 h l1 l2).objs.size] }
theorem zh3 (l1 l2:Addr) (xs ys:Array Value):Meets (Builtin.«zip.__new__» ⟨[.type "zip",.ref l1,.ref l2],[]⟩) (fun _ R s=>s.heap.IsTuple l1 xs∧s.heap.IsTuple l2 ys∧R (.ok (.ret (.ref (zt4 s.heap l1 l2).objs.size))) { s with heap:=zt5 s.heap l1 l2 }) :=
 .of_wp fun prog w A R s h=>by
  obtain ⟨hp,g,d,tk,os⟩:=s
  obtain ⟨t1,t2,h⟩:=h
  have sub:=sub_zip
  have T1:Heap.IsTuple (Shared.heap ⟨hp,g,d,tk,os⟩) l1 xs:=t1
  have T2:Heap.IsTuple (Shared.heap ⟨hp.push { cls:=.type "tuple_iterator",data:=.fields #[.ref l1,.int 0 0] },g,d,tk,os⟩) l2 ys:=Heap.IsTuple.push t2 _
  wp_walk using wpAny_pyIter_tuple T1,wpAny_pyIter_tuple T2
  exact ⟨_,rfl,h⟩
section
variable {prog:Program} {w:World} {A:Around} {E:Value→Shared→Prop} {s:Shared} {l1 l2:Addr} {xs ys:Array Value} {Q:Value→Shared→Prop}
theorem zeh (t1:s.heap.IsTuple l1 xs) (t2:s.heap.IsTuple l2 ys)
  (k:∀ h',ZT { s with heap:=h' } (s.heap.objs.size + 4) (s.heap.objs.size + 2) (s.heap.objs.size + 3) s.heap.objs.size (s.heap.objs.size + 1) l1 l2 0 0 xs ys .none .none→(∀ c o,s.heap.get? c=some o→h'.get? c=some o)→Q (.ref (s.heap.objs.size + 4)) { s with heap:=h' }) :
  wpAny (model prog w) A (call (.type "zip") [.ref l1,.ref l2]) Q E s:=by
 refine callType_new F.called_zip (by decide) (F.typeCall_zip_2 _ _) (F.newCall_zip_2 _ _) (fun obj=>F.args_object_init_3 obj _ _) F.entry_zip_new (zh3 l1 l2 xs ys) ⟨t1,t2,?_⟩
 have z1:(zt1 s.heap l1).objs.size=s.heap.objs.size + 1:=Heap.size_push ..
 have z2:(zt2 s.heap l1 l2).objs.size=s.heap.objs.size + 2:=by unfold zt2;rw [Heap.size_push,z1]
 have z3:(zt3 s.heap l1 l2).objs.size=s.heap.objs.size + 3:=by unfold zt3;rw [Heap.size_push,z2]
 have z4:(zt4 s.heap l1 l2).objs.size=s.heap.objs.size + 4:=by unfold zt4;rw [Heap.size_push,z3]
 have up:∀ c o,s.heap.get? c=some o→(zt5 s.heap l1 l2).get? c=some o:=fun c o q=>Heap.get?_push_of_some _ (Heap.get?_push_of_some _ (Heap.get?_push_of_some _ (Heap.get?_push_of_some _ (Heap.get?_push_of_some _ q))))
 have g5:(zt5 s.heap l1 l2).get? (zt4 s.heap l1 l2).objs.size=some _:=Heap.get?_push_size _ rfl
 have g4:(zt5 s.heap l1 l2).get? (zt3 s.heap l1 l2).objs.size=some _:=Heap.get?_push_of_some _ (Heap.get?_push_size _ rfl)
 have g3:(zt5 s.heap l1 l2).get? (zt2 s.heap l1 l2).objs.size=some _:=Heap.get?_push_of_some _ (Heap.get?_push_of_some _ (Heap.get?_push_size _ rfl))
 have g2:(zt5 s.heap l1 l2).get? (zt1 s.heap l1).objs.size=some _:=Heap.get?_push_of_some _ (Heap.get?_push_of_some _ (Heap.get?_push_of_some _ (Heap.get?_push_size _ rfl)))
 have g1:(zt5 s.heap l1 l2).get? s.heap.objs.size=some _:=Heap.get?_push_of_some _ (Heap.get?_push_of_some _ (Heap.get?_push_of_some _ (Heap.get?_push_of_some _ (Heap.get?_push_size _ rfl))))
 show _∧_
 rw [z2,z3,z4] at g5
 rw [z1,z2] at g3
 rw [z3] at g4
 rw [z1] at g2
 rw [z4]
 exact ⟨⟨_,g5,rfl⟩,k _ ⟨g5,g3,g4,⟨_,g1,rfl,rfl⟩,⟨_,g2,rfl,rfl⟩,let ⟨o,e,r⟩:=t1;⟨o,up _ _ e,r⟩,let ⟨o,e,r⟩:=t2;⟨o,up _ _ e,r⟩⟩ up⟩
end
end L2.Y
namespace L2.Y
open PySem
open AutoSeq1 (wpAny_loadPart')
noncomputable def en1 (h:Heap) (l:Addr):Heap:=h.push { cls:=.type "tuple_iterator",data:=.fields #[.ref l,.int 0 0] }
theorem zex (l:Addr) (xs:Array Value) (o:Obj) (n:Nat) (hc:o.cls=.type "tuple") (hd:o.data=.seq xs n):Meets (Builtin.«enumerate.__new__» ⟨[.type "enumerate",.ref l],[]⟩) (fun _ R s=>s.heap.get? l=some o ∧
   R (.ok (.ret (.ref (en1 s.heap l).objs.size))) { s with heap:=(en1 s.heap l).push { cls:=.type "enumerate",data:=.fields #[.none,.bool false,.ref s.heap.objs.size,rawInt 0,.none,.none] } }) :=
 .of_wp fun prog w A R s h=>by
  obtain ⟨hp,g,d,tk,os⟩:=s
  obtain ⟨hl,h⟩:=h
  have sub:=sub_enumerate
  have T:Heap.IsTuple (Shared.heap ⟨hp,g,d,tk,os⟩) l xs:=⟨_,hl,hc,n,hd⟩
  wp_walk using wpAny_loadPart' hl
  refine wpAny_stack_any fun st=>wpAny_pure ?_
  split
  ·rename_i c _ _ _ _ _
   cases (c == Value.type "enumerate") <;> (wp_walk using wpAny_loadPart' hl,wpAny_pyIter_tuple T;exact ⟨_,rfl,h⟩)
  ·wp_walk using wpAny_loadPart' hl,wpAny_pyIter_tuple T
   exact ⟨_,rfl,h⟩
section
variable {prog:Program} {w:World} {A:Around} {E:Value→Shared→Prop} {s:Shared} {l:Addr} {xs:Array Value} {Q:Value→Shared→Prop}
theorem zdg (t:s.heap.IsTuple l xs) (k:∀ h',IsEnum h' (s.heap.objs.size + 1) s.heap.objs.size 0 .none→h'.IsTupleIter s.heap.objs.size l 0→(∀ b o,s.heap.get? b=some o→h'.get? b=some o)→Q (.ref (s.heap.objs.size + 1)) { s with heap:=h' }) :
  wpAny (model prog w) A (call (.type "enumerate") [.ref l]) Q E s:=by
 obtain ⟨o,ho,hc,n,hd⟩:=t
 refine callType_new F.called_enumerate (by decide) (F.typeCall_enumerate_1 _) (F.newCall_enumerate_1 _) (fun obj=>F.args_object_init_2 obj _) F.entry_enumerate_new (zex l xs o n hc hd) ⟨ho,?_⟩
 have z:(en1 s.heap l).objs.size=s.heap.objs.size + 1:=Heap.size_push ..
 show _∧_
 rw [z]
 have he:IsEnum ((en1 s.heap l).push { cls:=.type "enumerate",data:=.fields #[.none,.bool false,.ref s.heap.objs.size,rawInt 0,.none,.none] }) (s.heap.objs.size + 1) s.heap.objs.size 0 .none:=by
  have q:=Heap.get?_push_size (en1 s.heap l) (o:={ cls:=.type "enumerate",data:=.fields #[.none,.bool false,.ref s.heap.objs.size,rawInt 0,.none,.none] }) rfl
  rw [z] at q
  exact q
 exact ⟨⟨_,he,rfl⟩,k _ he ⟨_,Heap.get?_push_of_some _ (Heap.get?_push_size _ rfl),rfl,rfl⟩ fun b o q=>Heap.get?_push_of_some _ (Heap.get?_push_of_some _ q)⟩
end
end L2.Y
namespace L2
open PySem PySem.Spec PyProof.Rows
theorem xe3 {α:Type} {A B:α→Prop} {P:Prop} (f:∀ a,A a→B a→P):(∃ a,A a∧B a)→P:=by
 rintro ⟨a,h1,h2⟩
 exact f a h1 h2
theorem xe4 {α β:Type} {A B:α→β→Prop} {P:Prop} (f:∀ a b,A a b→B a b→P):(∃ a b,A a b∧B a b)→P:=by
 rintro ⟨a,b,h1,h2⟩
 exact f a b h1 h2
theorem xe5 {α β:Type} {A B C:α→β→Prop} {P:Prop} (f:∀ a b,A a b→B a b→C a b→P):(∃ a b,A a b∧B a b∧C a b)→P:=by
 rintro ⟨a,b,h1,h2,h3⟩
 exact f a b h1 h2 h3
noncomputable def zdp:Key→Value→Bool
 | .inl k,v=>Value.isInt k v
 | .inr x,v=>Value.isStrOf x v
noncomputable def keyH (w:World):Key→Int
 | .inl k=>hashInt k
 | .inr x=>hashStr w x
theorem ju:∀ {k:Key} {v:Value},zdp k v=true→(∃ i t,k=Sum.inl i∧v=Value.int i t) ∨ (∃ x t,k=Sum.inr x∧v=Value.str x t)
 | .inl i,v,h=>by
  obtain ⟨t,e⟩:=Value.isInt_shape (k:=i) (v:=v) h
  exact .inl ⟨i,t,rfl,e⟩
 | .inr x,v,h=>by
  obtain ⟨t,e⟩:=Value.isStrOf_shape (x:=x) (v:=v) h
  exact .inr ⟨x,t,rfl,e⟩
theorem zeS (i:Int) (t:Tok):zdp (.inl i) (.int i t)=true:=by simp [zdp,Value.isInt]
theorem zeT (x:Str) (t:Tok):zdp (.inr x) (.str x t)=true:=by simp [zdp,Value.isStrOf]
theorem zkg (a b:Int):decide ((Sum.inl a:Key)=Sum.inl b)=(a == b):=by
 by_cases e:a=b
 ·subst e;simp
 ·have h:¬ (Sum.inl a:Key)=Sum.inl b:=fun q=>e (Sum.inl.inj q)
  rw [decide_eq_false h]
  exact (beq_eq_false_iff_ne.mpr e).symm
theorem zkj (a b:Str):decide ((Sum.inr a:Key)=Sum.inr b)=decide (a=b):=by
 by_cases e:a=b
 ·subst e;simp
 ·have h:¬ (Sum.inr a:Key)=Sum.inr b:=fun q=>e (Sum.inr.inj q)
  rw [decide_eq_false h,decide_eq_false e]
theorem zkh (a:Int) (b:Str):decide ((Sum.inl a:Key)=Sum.inr b)=false:=decide_eq_false (fun q=>nomatch q)
theorem zki (a:Str) (b:Int):decide ((Sum.inr a:Key)=Sum.inl b)=false:=decide_eq_false (fun q=>nomatch q)
noncomputable def jK (prog:Program) (w:World):PySem.KeyKind prog w Key where
 is:=zdp
 hash:=keyH w
 inj:=fun v a b ha hb=>by
  rcases ju ha with ⟨i,t,rfl,rfl⟩ | ⟨x,t,rfl,rfl⟩
  ·rcases ju hb with ⟨j,u,rfl,e⟩ | ⟨y,u,rfl,e⟩
   ·injection e with e1 _;rw [e1]
   ·exact nomatch e
  ·rcases ju hb with ⟨j,u,rfl,e⟩ | ⟨y,u,rfl,e⟩
   ·exact nomatch e
   ·injection e with e1 _;rw [e1]
 byValue:=fun k v h=>by
  rcases ju h with ⟨i,t,rfl,rfl⟩ | ⟨x,t,rfl,rfl⟩ <;> rfl
 pyHash:=fun hv h=>by
  rcases ju hv with ⟨i,t,rfl,rfl⟩ | ⟨x,t,rfl,rfl⟩
  ·exact wpAny_pyHash_int h
  ·exact wpAny_pyHash_str h
 eqBool:=fun hu hv h=>by
  rcases ju hu with ⟨i,t,rfl,rfl⟩ | ⟨x,t,rfl,rfl⟩
  ·rcases ju hv with ⟨j,u,rfl,rfl⟩ | ⟨y,u,rfl,rfl⟩
   ·rw [zkg] at h;exact wpAny_eqBool_int h
   ·rw [zkh] at h;exact SeqAt.EqAt.int_str i t y u _ _ _ _ h
  ·rcases ju hv with ⟨j,u,rfl,rfl⟩ | ⟨y,u,rfl,rfl⟩
   ·rw [zki] at h;exact SeqAt.EqAt.str_int x t j u _ _ _ _ h
   ·rw [zkj] at h;exact wpAny_eqBool_str h
 «strs»:=fun k x t v h=>by
  rcases ju h with ⟨i,u,rfl,e⟩ | ⟨y,u,rfl,e⟩
  ·exact nomatch e
  ·injection e with e1 _
   subst e1
   cases v <;> rfl
theorem zb4 (prog:Program) (w:World) (i:Int) (t:Tok):(jK prog w).is (.inl i) (.int i t)=true:=zeS i t
theorem zb5 (prog:Program) (w:World) (x:Str) (t:Tok):(jK prog w).is (.inr x) (.str x t)=true:=zeT x t
end L2
namespace L2
open PySem PySem.Spec PyProof.Rows
inductive V where
 | non | bl (b:Bool) | int (i:Int) | str (x:Str) | byt (b:Array UInt8) | flt (b:UInt64) | ref (a:Addr) | ty (n:String)
 deriving DecidableEq
noncomputable def RelV:V→Value→Prop
 | .non,u=>u=Value.none
 | .bl b,u=>u=Value.bool b
 | .int i,u=>∃ t,u=Value.int i t
 | .str x,u=>∃ t,u=Value.str x t
 | .byt b,u=>∃ t,u=Value.bytes b t
 | .flt b,u=>∃ t,u=Value.float b t
 | .ref a,u=>u=Value.ref a
 | .ty n,u=>u=Value.type n
noncomputable abbrev Vals:List V→List Value→Prop:=Paired RelV
theorem Vals.length {xs:List V} {us:List Value} (r:Vals xs us):xs.length=us.length:=Paired.length r
theorem Vals.get {xs:List V} {us:List Value} {i:Nat} {x:V} (r:Vals xs us):xs[i]?=some x→∃ u,us[i]?=some u∧RelV x u:=by
 induction r generalizing i with
 | nil=>intro e;simp at e
 | cons r _ ih =>
  intro e
  cases i with
  | zero=>simp at e;subst e;exact ⟨_,rfl,r⟩
  | succ i =>
   obtain ⟨u,h1,h2⟩:=ih (i:=i) (by simpa using e)
   exact ⟨u,by simpa using h1,h2⟩
theorem Vals.set {x:V} {u:Value} (r:RelV x u):∀ {xs:List V} {us:List Value} (i:Nat),Vals xs us→Vals (xs.set i x) (us.set i u)
 | _,_,_,.nil=>.nil
 | _,_,0,.cons _ t=>.cons r t
 | _,_,i + 1,.cons q t=>.cons q (Vals.set r i t)
theorem Vals.append {xs ys:List V} {us ws:List Value} (r:Vals xs us) (s:Vals ys ws):Vals (xs ++ ys) (us ++ ws):=by
 induction r with
 | nil=>exact s
 | cons r _ ih=>exact .cons r ih
theorem Vals.take:∀ {xs:List V} {us:List Value} (n:Nat),Vals xs us→Vals (xs.take n) (us.take n)
 | _,_,0,_=>.nil
 | _,_,_ + 1,.nil=>.nil
 | _,_,n + 1,.cons r t=>.cons r (Vals.take n t)
theorem Vals.drop:∀ {xs:List V} {us:List Value} (n:Nat),Vals xs us→Vals (xs.drop n) (us.drop n)
 | _,_,0,r=>r
 | _,_,_ + 1,.nil=>.nil
 | _,_,n + 1,.cons _ t=>Vals.drop n t
noncomputable def RelO:Option V→Option Value→Prop
 | some v,some u=>RelV v u
 | none,none=>True
 | _,_=>False
noncomputable def KV {κ:Type}:List (κ × V)→List (κ × Value)→Prop:=Paired fun (p:κ × V) (q:κ × Value)=>p.1=q.1∧RelV p.2 q.2
noncomputable def kV:Key→V
 | .inl i=>.int i
 | .inr x=>.str x
inductive HO where
 /-- a list -/
 | lst (xs:List V)
 /-- a tuple (never changes) -/
 | tup (xs:List V)
 /-- a dict whose keys are ints and texts;one whose keys are tuples of ints and texts (the empty one is both) -/
 | dK (kvs:List (Key × V)) | dT (kvs:List (List Key × V))
 /-- a set of ints: its members,its size -/
 | set (S:Int→Bool) (n:Nat)
 /-- an instance of the class at C,its dict at dx,its attributes -/
 | ins (C dx:Addr) (fs:List (Str × V))
 /-- the dict of the instance at x -/
 | own (x:Addr)
 /-- the dict of an exception -/
 | xd (fs:List (Str × V))
 /-- a bound method,f of x -/
 | met (f x:Addr)
 /-- a range object lo,lo + 1,.. below hi -/
 | rng (lo hi:Int)
 /-- a thing that is known to the object (the script;a dict while a loop walks it): read,never written while it is so -/
 | frz (o:Obj) (u:HO)
 /-- a code object's table -/
 | tbl (ps:Array Value)
 /-- any other thing,by what is true of its one object (a def of one's own: SetO a S n:=HO.ext fun h=>..) -/
 | ext (φ:Heap→Prop)
noncomputable abbrev Hp:=Addr→Option HO
noncomputable def upd (H:Hp) (a:Addr) (o:HO):Hp:=fun b=>if b=a then some o else H b
theorem jh {H:Hp} {a:Addr} {o:HO}:upd H a o a=some o:=by unfold upd;rw [if_pos rfl]
theorem zE {H:Hp} {a b:Addr} {o:HO} (h:b ≠ a):upd H a o b=H b:=by unfold upd;rw [if_neg h]
theorem zkq {H:Hp} {a b:Addr} {o u:HO} (h:H a=some o) (h' : H b=some u) (d:o ≠ u):a ≠ b:=by
 intro e;subst e;rw [h] at h';exact d (Option.some.inj h')
theorem zV {H:Hp} {a b:Addr} {o:HO} (h:H a=some o) (h' : H b=none):a ≠ b:=by
 intro e;subst e;rw [h] at h';cases h'
section
variable (P:Program) (w:World)
noncomputable def jG (H:Hp) (h:Heap) (a:Addr):HO→Prop
 | .lst xs=>xs.length ≤ sizeLine∧∃ (its:List Value) (n:Nat),Vals xs its∧h.get? a=some { cls:=.type "list",data:=.seq its.toArray n }
 | .tup xs=>xs.length ≤ sizeLine∧∃ its:List Value,Vals xs its∧IsTup h a its.toArray
 | .dK kvs=>kvs.length ≤ sizeLine∧(a == sysModules)=false∧∃ vs,KV kvs vs∧h.DictOf (jK P w) a vs
 | .dT kvs=>kvs.length ≤ sizeLine∧(a == sysModules)=false∧∃ xs:List (List Key × Addr × Value),
   Paired (fun (p:List Key × V) (q:List Key × Addr × Value)=>p.1=q.1∧H q.2.1=some (.tup (p.1.map kV))∧RelV p.2 q.2.2) kvs xs ∧
   ∃ o es ep,h.get? a=some o∧o.ExactDict∧o.data=.dict es ep∧es.toList=xs.map (entryOfKey (tupleKind (jK P w)))∧(xs.map (·.1)).Nodup
 | .set S n=>h.SetOf (intKind P w) a S n
 | .ins C dx fs=>H dx=some (.own a)∧fs.length ≤ 1000∧dx ≠ a∧h.get? a=some (PySem.W.instObj C dx) ∧
   ∃ mA,h.Ns1 dx mA∧(∀ f,RelO (fs.lookup f) (mA f))∧PySem.Within mA (fs.map (·.1))
 | .own _=>∃ o,h.get? a=some o
 | .xd fs=>∃ mA,h.Ns1 a mA∧∀ f,RelO (fs.lookup f) (mA f)
 | .rng lo hi=>∃ t u v,h.get? a=some { cls:=.type "range",data:=.fields #[.int lo t,.int hi u,.int 1 v] }
 | .frz o u=>h.get? a=some o∧jG H h a u
 | .tbl ps=>h.get? a=some { cls:=.none,data:=.fields ps }
 | .met f x=>h.get? a=some (PySem.W.methodObj (.ref f) (.ref x))
 | .ext φ=>φ h∧(∃ o,h.get? a=some o)∧∀ h1 h2:Heap,φ h1→(∀ o,h1.get? a=some o→h2.get? a=some o)→φ h2
noncomputable def HOk (H:Hp) (h:Heap):Prop:=∀ a o,H a=some o→jG P w H h a o
end
section
variable {P:Program} {w:World} {H H' : Hp} {h h' : Heap} {a:Addr} {o:HO}
theorem jG.lt (x:jG P w H h a o):a < h.objs.size:=by
 cases o with
 | lst xs=>obtain ⟨_,_,_,_,e⟩:=x;exact Heap.lt_size e
 | tup xs=>obtain ⟨_,_,_,p⟩:=x;exact p.lt
 | dK kvs=>obtain ⟨_,_,_,_,o,_,_,e,_⟩:=x;exact Heap.lt_size e
 | dT kvs=>obtain ⟨_,_,_,_,o,_,_,e,_⟩:=x;exact Heap.lt_size e
 | set S n=>obtain ⟨o,_,_,_,e,_⟩:=x;exact Heap.lt_size e
 | ins C dx fs=>obtain ⟨_,_,_,e,_⟩:=x;exact Heap.lt_size e
 | own y=>obtain ⟨_,e⟩:=x;exact Heap.lt_size e
 | xd fs=>obtain ⟨_,⟨_,_,_,e,_⟩,_⟩:=x;exact Heap.lt_size e
 | rng lo hi=>obtain ⟨_,_,_,e⟩:=x;exact Heap.lt_size e
 | frz ob u=>obtain ⟨e,_⟩:=x;exact Heap.lt_size e
 | tbl ps=>exact Heap.lt_size (show h.get? a=some _ from x)
 | met f y=>exact Heap.lt_size (show h.get? a=some _ from x)
 | ext φ=>obtain ⟨_,⟨_,e⟩,_⟩:=x;exact Heap.lt_size e
theorem Paired.mapP {α β:Type} {F G:α→β→Prop} {l₁:List α} {l₂:List β} (r:Paired F l₁ l₂) (f:∀ a b,F a b→G a b):Paired G l₁ l₂:=by
 induction r with
 | nil=>exact .nil
 | cons r _ ih=>exact .cons (f _ _ r) ih
theorem jG.stay (x:jG P w H h a o) (k:∀ b u,(b=a ∨ H b=some (.own a))→h.get? b=some u→h'.get? b=some u)
  (ho:∀ b,H b=some (.own a)→H' b=some (.own a)) (ht:∀ b xs,H b=some (.tup xs)→H' b=some (.tup xs)):jG P w H' h' a o:=by
 induction o with
 | lst xs=>obtain ⟨z,its,n,r,e⟩:=x;exact ⟨z,its,n,r,k _ _ (.inl rfl) e⟩
 | tup xs=>obtain ⟨z,its,r,ob,e,c⟩:=x;exact ⟨z,its,r,ob,k _ _ (.inl rfl) e,c⟩
 | dK kvs=>obtain ⟨z,y,vs,r,ob,es,ep,e,c⟩:=x;exact ⟨z,y,vs,r,ob,es,ep,k _ _ (.inl rfl) e,c⟩
 | dT kvs =>
  obtain ⟨z,y,xs,r,ob,es,ep,e,c⟩:=x
  exact ⟨z,y,xs,Paired.mapP r fun p q z=>⟨z.1,ht _ _ z.2.1,z.2.2⟩,ob,es,ep,k _ _ (.inl rfl) e,c⟩
 | set S n=>obtain ⟨ob,es,ep,t,e,c⟩:=x;exact ⟨ob,es,ep,t,k _ _ (.inl rfl) e,c⟩
 | ins C dx fs =>
  obtain ⟨d,z,ne,e,mA,⟨od,es,ep,e2,c⟩,r⟩:=x
  exact ⟨ho _ d,z,ne,k _ _ (.inl rfl) e,mA,⟨od,es,ep,k _ _ (.inr d) e2,c⟩,r⟩
 | own y=>obtain ⟨ob,e⟩:=x;exact ⟨ob,k _ _ (.inl rfl) e⟩
 | xd fs=>obtain ⟨mA,⟨od,es,ep,e,c⟩,r⟩:=x;exact ⟨mA,⟨od,es,ep,k _ _ (.inl rfl) e,c⟩,r⟩
 | rng lo hi=>obtain ⟨t,u,v,e⟩:=x;exact ⟨t,u,v,k _ _ (.inl rfl) e⟩
 | frz ob u ih=>obtain ⟨e,q⟩:=x;exact ⟨k _ _ (.inl rfl) e,ih q⟩
 | tbl ps =>
  have e:h.get? a=some { cls:=.none,data:=.fields ps }:=x
  show h'.get? a=some { cls:=.none,data:=.fields ps }
  exact k a _ (.inl rfl) e
 | met f y =>
  have e:h.get? a=some (PySem.W.methodObj (.ref f) (.ref y)):=x
  show h'.get? a=some (PySem.W.methodObj (.ref f) (.ref y))
  exact k a _ (.inl rfl) e
 | ext φ=>obtain ⟨p,⟨o,e⟩,st⟩:=x;exact ⟨st _ _ p fun o q=>k _ _ (.inl rfl) q,⟨o,k _ _ (.inl rfl) e⟩,st⟩
theorem HOk.lt (x:HOk P w H h) (e:H a=some o):a < h.objs.size:=(x a o e).lt
theorem HOk.fresh (x:HOk P w H h) (e:h.objs.size ≤ a):H a=none:=by
 cases q:H a with
 | none=>rfl
 | some u=>exact absurd (Nat.lt_of_lt_of_le (x.lt q) e) (Nat.lt_irrefl _)
theorem HOk.kept (x:HOk P w H h) (k:∀ b u,h.get? b=some u→h'.get? b=some u):HOk P w H h':=fun a o e =>
 (x a o e).stay (fun b u _ q=>k b u q) (fun _ q=>q) fun _ _ q=>q
theorem HOk.laid (x:HOk P w H h) (k:∀ b u,h.get? b=some u→h'.get? b=some u) (hp:h.objs.size ≤ a) (new:jG P w (upd H a o) h' a o):HOk P w (upd H a o) h':=fun b u e=>by
 have hn:=x.fresh hp
 by_cases hb:b=a
 ·subst hb;rw [jh] at e;cases e;exact new
 ·rw [zE hb] at e
  exact (x b u e).stay (fun c v _ q=>k c v q) (fun c q=>by rw [zE (zV q hn)];exact q) fun c xs q=>by rw [zE (zV q hn)];exact q
end
noncomputable def Rd (H:Hp) (a:Addr) (u:HO):Prop:=H a=some u ∨ ∃ o,H a=some (.frz o u)
theorem Rd.of {H:Hp} {a:Addr} {u:HO} (h:H a=some u):Rd H a u:=.inl h
theorem Rd.ok {P:Program} {w:World} {H:Hp} {h:Heap} {a:Addr} {u:HO} (r:Rd H a u) (x:HOk P w H h):jG P w H h a u:=by
 rcases r with r | ⟨o,r⟩
 ·exact x a u r
 ·obtain ⟨_,q⟩:=x a _ r
  exact q
noncomputable def Mut:Option HO→Prop
 | some (.lst _)=>True
 | some (.dK _)=>True
 | some (.dT _)=>True
 | some (.set _ _)=>True
 | some (.ins _ _ _)=>True
 | some (.ext _)=>True
 | _=>False
section
variable {P:Program} {w:World} {H:Hp} {h h' : Heap} {x e:Addr} {o' : HO}
theorem HOk.write (ok:HOk P w H h) (mu:Mut (H x)) (he:e=x ∨ H e=some (.own x)) (k:∀ b u,b ≠ e→h.get? b=some u→h'.get? b=some u) (heo:∃ u,h'.get? e=some u)
  (new:jG P w (upd H x o') h' x o'):HOk P w (upd H x o') h':=fun b u q=>by
 have nown:∀ c y,H c=some (.own y)→c ≠ x:=fun c y r z=>by subst z;rw [r] at mu;exact mu
 have ntup:∀ c xs,H c=some (.tup xs)→c ≠ x:=fun c xs r z=>by subst z;rw [r] at mu;exact mu
 by_cases hb:b=x
 ·subst hb;rw [jh] at q;cases q;exact new
 ·rw [zE hb] at q
  by_cases hbe:b=e
  ·have q' : H b=some (.own x):=by
    rcases he with z | z
    ·exact absurd (hbe.trans z) hb
    ·rw [hbe];exact z
   rw [q] at q';cases q'
   obtain ⟨v,hv⟩:=heo
   exact ⟨v,by rw [hbe];exact hv⟩
  ·refine (ok b u q).stay (fun c v hc r=>k c v ?_ r) (fun c r=>by rw [zE (nown c b r)];exact r) fun c xs r=>by rw [zE (ntup c xs r)];exact r
   rcases hc with rfl | hc
   ·exact hbe
   ·rintro rfl
    rcases he with z | z
    ·exact nown c b hc z
    ·rw [hc] at z;cases z;exact hb rfl
end
structure Un (fs ex:List Addr) (H H' : Hp) (h h' : Heap):Prop where
 keep:∀ b o,h.get? b=some o→H b=none→b ∉ fs→b ∉ ex→h'.get? b=some o
 slot:∀ b o,h.get? b=some o→H b=none→b ∈ fs→b ∉ ex→∃ sl,h'.get? b=some { o with slots:=sl }
 free:∀ b o,h.get? b=some o→H b=none→b ∉ ex→H' b=none
 there:∀ b o,h.get? b=some o→b ∉ ex→∃ o',h'.get? b=some o'
 tups:∀ b xs,H b=some (.tup xs)→H' b=some (.tup xs)
 frzs:∀ b o u,H b=some (.frz o u)→H' b=some (.frz o u)
 tbls:∀ b ps,H b=some (.tbl ps)→∃ more,H' b=some (.tbl (ps ++ more))
section
variable {fs fs' ex ex' : List Addr} {H H1 H2:Hp} {h h1 h2 h' : Heap} {a x e:Addr} {o:HO}
theorem Un.any (u:Un fs ex H H1 h h1) {b:Addr} {ob:Obj} (q:h.get? b=some ob) (n:H b=none) (hx:b ∉ ex):∃ sl,h1.get? b=some { ob with slots:=sl }:=by
 by_cases hb:b ∈ fs
 ·exact u.slot b ob q n hb hx
 ·exact ⟨ob.slots,u.keep b ob q n hb hx⟩
theorem Un.trans (a:Un fs ex H H1 h h1) (b:Un fs ex H1 H2 h1 h2):Un fs ex H H2 h h2 where
 keep:=fun c ob q n hc hx=>b.keep c ob (a.keep c ob q n hc hx) (a.free c ob q n hx) hc hx
 slot:=fun c ob q n hc hx=>by
  obtain ⟨sl,e1⟩:=a.slot c ob q n hc hx
  obtain ⟨sl',e2⟩:=b.slot c _ e1 (a.free c ob q n hx) hc hx
  exact ⟨sl',e2⟩
 free:=fun c ob q n hx=>by
  obtain ⟨o',e1⟩:=a.there c ob q hx
  exact b.free c o' e1 (a.free c ob q n hx) hx
 there:=fun c ob q hx=>by
  obtain ⟨o',e1⟩:=a.there c ob q hx
  exact b.there c o' e1 hx
 tups:=fun c xs q=>b.tups c xs (a.tups c xs q)
 frzs:=fun c ob xs q=>b.frzs c ob xs (a.frzs c ob xs q)
 tbls:=fun c ps q=>by
  obtain ⟨m1,e1⟩:=a.tbls c ps q
  obtain ⟨m2,e2⟩:=b.tbls c _ e1
  exact ⟨m1 ++ m2,by rw [e2,Array.append_assoc]⟩
theorem Un.kept (k:∀ b u,h.get? b=some u→h'.get? b=some u):Un fs ex H H h h' :=
 ⟨fun b ob q _ _ _=>k b ob q,fun b ob q _ _ _=>⟨ob.slots,k b ob q⟩,fun _ _ _ n _=>n,fun b ob q _=>⟨ob,k b ob q⟩,fun _ _ q=>q,fun _ _ _ q=>q,fun _ ps q=>⟨#[],by rw [q];simp⟩⟩
theorem Un.refl:Un fs ex H H h h:=Un.kept fun _ _ q=>q
theorem Un.laid (k:∀ b u,h.get? b=some u→h'.get? b=some u) (hp:h.objs.size ≤ a) (hn:H a=none):Un fs ex H (upd H a o) h h' where
 keep:=fun b u q _ _ _=>k b u q
 slot:=fun b u q _ _ _=>⟨u.slots,k b u q⟩
 free:=fun b u q n _=>by rw [zE (Nat.ne_of_lt (Nat.lt_of_lt_of_le (Heap.lt_size q) hp))];exact n
 there:=fun b u q _=>⟨u,k b u q⟩
 tups:=fun b xs q=>by rw [zE (zV q hn)];exact q
 frzs:=fun b u xs q=>by rw [zE (zV q hn)];exact q
 tbls:=fun b ps q=>⟨#[],by rw [zE (zV q hn),q];simp⟩
theorem Un.write (mu:Mut (H x)) (he:e=x ∨ H e=some (.own x)) (k:∀ b u,b ≠ e→h.get? b=some u→h'.get? b=some u) (heo:∃ u,h'.get? e=some u):Un fs ex H (upd H x o) h h':=by
 have hx:∀ b,H b=none→b ≠ x:=fun b n z=>by subst z;rw [n] at mu;exact mu
 have hb:∀ b,H b=none→b ≠ e:=fun b n z=>by
  subst z
  rcases he with r | r
  ·exact hx b n r
  ·rw [n] at r;cases r
 have hm:∀ b u,H b=some u→¬ Mut (some u)→b ≠ x:=fun b u q nm z=>by subst z;rw [q] at mu;exact nm mu
 refine ⟨fun b u q n _ _=>k b u (hb b n) q,fun b u q n _ _=>⟨u.slots,k b u (hb b n) q⟩,fun b u q n _=>by rw [zE (hx b n)];exact n,fun b u q _ => ?_,
  fun b xs q=>by rw [zE (hm b _ q fun z=>z)];exact q,fun b u xs q=>by rw [zE (hm b _ q fun z=>z)];exact q,fun b ps q=>⟨#[],by rw [zE (hm b _ q fun z=>z),q];simp⟩⟩
 by_cases hbe:b=e
 ·subst hbe;exact heo
 ·exact ⟨u,k b u hbe q⟩
theorem Un.mono (u:Un fs ex H H1 h h1) (hs:∀ b ∈ fs,b ∈ fs') (hx:∀ b ∈ ex,b ∈ ex'):Un fs' ex' H H1 h h1 :=
 ⟨fun b ob q n hb he=>u.keep b ob q n (fun z=>hb (hs b z)) fun z=>he (hx b z),fun _ _ q n _ he=>u.any q n fun z=>he (hx _ z),fun b ob q n he=>u.free b ob q n fun z=>he (hx b z),fun b ob q he=>u.there b ob q fun z=>he (hx b z),u.tups,u.frzs,u.tbls⟩
end
noncomputable def trk (h:Heap) (H:Hp):List Addr:=(List.range h.objs.size).filter fun a=>(H a).isSome
noncomputable def hidT (h:Heap) (H:Hp):Heap:=PySem.W.hideAll h (trk h H)
theorem zeL (h:Heap) (H:Hp):(hidT h H).objs.size=h.objs.size:=PySem.W.hideAll_size _ _
theorem zgK {h:Heap} {H:Hp} {b:Addr} {o:Obj} (e:h.get? b=some o) (n:H b=none):(hidT h H).get? b=some o :=
 PySem.W.hideAll_get _ e fun hm=>by
  have q:(H b).isSome=true:=(List.mem_filter.mp hm).2
  rw [n] at q;simp at q
theorem zi7 {h:Heap} {H:Hp} {b:Addr} {o:Obj} (e:(hidT h H).get? b=some o):h.get? b=some o∧H b=none:=by
 have e' : h.get? b=some o:=PySem.W.of_hideAll (trk h H) e
 refine ⟨e',?_⟩
 cases q:H b with
 | none=>rfl
 | some x =>
  have hm:b ∈ trk h H:=List.mem_filter.mpr ⟨List.mem_range.mpr (Heap.lt_size e'),by simp [q]⟩
  have z:(hidT h H).get? b=none:=PySem.W.hideAll_none (trk h H) hm
  rw [z] at e;cases e
end L2
namespace L2
open PySem PySem.Spec PyProof.Rows
structure Mod (K:PySem.W.Frag) (mg:Str→Option Value) (base:Heap):Prop where
 kin:K.In base
 glob:base.Ns mainGlobals mg
 blt:∃ mb,base.Ns builtinsNs mb∧∀ x:Str,x ≠ "__name__" → mb x=bootBuiltins x
 nolimit:base.NoLimit
structure Cx where
 prog:Program
 w:World
 K:PySem.W.Frag
 mg:Str→Option Value
 base:Heap
 A:Around
 N:List Str
 s₀:Shared
 H₀:Hp
 env:Env
 outer:List Env
 stack:List Env
 ex:List Addr
 fn:Str→Bool
 calm:Bool
 pn:List (Addr × Obj)
 xe:Value→Shared→Prop
noncomputable def frs (l:List Env):List Addr:=l.filterMap (·.frame)
noncomputable abbrev Cx.fs (X:Cx):List Addr:=frs X.outer
noncomputable def Vis (sc:Scope) (x:Str):Prop:=sc.names.lookup x=some .local ∨ sc.names.lookup x=some .cell ∨ sc.names.lookup x=some .free
noncomputable def Loc (sc:Scope) (x:Str):Prop:=sc.names.lookup x=some .local ∨ sc.names.lookup x=some .cell
noncomputable def Look (env:Env) (h:Heap) (m:Str→Option Value) (x:Str) (u:Value):Prop :=
 (env.kindOf x=some .local∧m x=some u) ∨ ((env.kindOf x=some .cell ∨ env.kindOf x=some .free)∧∃ c,env.cells.lookup x=some c∧h.IsCell c (some u))
structure Cx.Ok (X:Cx):Prop where
 mod:Mod X.K X.mg X.base
 kind:X.env.scope.kind=.function
 glob:X.env.globals=mainGlobals
 blt:X.env.builtins=builtinsNs
 above:X.s₀.heap.objs.size ≤ X.env.locals
 inj:∀ x y c,X.env.cells.lookup x=some c→X.env.cells.lookup y=some c→x=y
 has:∀ x,(X.env.kindOf x=some .cell ∨ X.env.kindOf x=some .free)→∃ c,X.env.cells.lookup x=some c
 cab:∀ x c,X.fn x=true→X.env.cells.lookup x=some c→X.s₀.heap.objs.size ≤ c
 hd:X.calm=true→X.A.handled=none
 frames:X.A.frames=some X.stack
 stk:X.stack=X.outer ∨ (X.stack=X.env :: X.outer∧X.env.frame=some X.env.locals)
 exf:∀ b ∈ X.ex,b ≠ X.env.locals∧∀ x c,X.env.cells.lookup x=some c→c ≠ b
 bs:∀ b o,X.base.get? b=some o→X.s₀.heap.get? b=some o∧X.H₀ b=none
 bsz:X.base.objs.size ≤ X.s₀.heap.objs.size
 noex:∀ b o,X.base.get? b=some o→b ∉ X.ex
 exfs:∀ b ∈ X.ex,b ∉ X.fs
 funs:X.s₀.heap.FunFrames X.base X.outer
 frf:∀ b ∈ X.fs,X.H₀ b=none
structure Inv (X:Cx) (pins:List (Addr × Obj)) (σ:List (Option V)) (H:Hp) (s:Shared):Prop where
 ok:X.Ok
 os:s.os=X.s₀.os
 bare:AllBare s.gens
 base:Un X.fs X.ex X.H₀ H X.s₀.heap s.heap
 loc:∃ m,s.heap.Ns X.env.locals m∧∀ (i:Nat) (x:Str) (v:V),X.N[i]?=some x→σ[i]?=some (some v)→Vis X.env.scope x→∃ u,RelV v u∧Look X.env s.heap m x u
 cell:∀ x c,X.env.cells.lookup x=some c→∃ v,s.heap.IsCell c v
 free:H X.env.locals=none
 freeC:∀ x c,X.env.cells.lookup x=some c→H c=none
 pin:∀ p ∈ X.pn ++ pins,s.heap.get? p.1=some p.2∧H p.1=none∧p.1 ≠ X.env.locals∧p.1 ∉ X.fs∧∀ v,p.2.data ≠ .cell v
 hok:HOk X.prog X.w H s.heap
 len:σ.length=X.N.length
section
variable {X:Cx} {pins:List (Addr × Obj)} {σ:List (Option V)} {H H' : Hp} {s:Shared} {h' : Heap}
theorem Cx.Ok.nofr (ok:X.Ok) {b:Addr} {o:Obj} (e:X.base.get? b=some o):b ∉ X.fs:=fun hb=>by
 have:=(ok.funs.mem hb).1
 rw [e] at this;cases this
theorem Inv.bs (I:Inv X pins σ H s):∀ b o,X.base.get? b=some o→s.heap.get? b=some o∧H b=none:=fun b o e =>
 ⟨I.base.keep b o (I.ok.bs b o e).1 (I.ok.bs b o e).2 (I.ok.nofr e) (I.ok.noex b o e),I.base.free b o (I.ok.bs b o e).1 (I.ok.bs b o e).2 (I.ok.noex b o e)⟩
theorem Inv.bk (I:Inv X pins σ H s):∀ b o,X.base.get? b=some o→s.heap.get? b=some o:=fun b o e=>(I.bs b o e).1
theorem Inv.mod (I:Inv X pins σ H s):Mod X.K X.mg X.base:=I.ok.mod
theorem Inv.kIn (I:Inv X pins σ H s):X.K.In s.heap:=I.ok.mod.kin.keeps I.bk
theorem Inv.nolimit (I:Inv X pins σ H s):s.heap.NoLimit:=I.ok.mod.nolimit.keeps I.bk
theorem Inv.lt (I:Inv X pins σ H s):X.env.locals < s.heap.objs.size:=let ⟨_,hn,_⟩:=I.loc;hn.lt
theorem Inv.sz (I:Inv X pins σ H s):X.s₀.heap.objs.size ≤ s.heap.objs.size:=Nat.le_trans I.ok.above (Nat.le_of_lt I.lt)
theorem Inv.nofs (I:Inv X pins σ H s) {a:Addr} (h:s.heap.objs.size ≤ a):a ∉ X.fs:=fun hb=>by
 obtain ⟨_,o,ho,_⟩:=I.ok.funs.mem hb
 exact absurd (Nat.lt_of_lt_of_le (Heap.lt_size ho) (Nat.le_trans I.sz h)) (Nat.lt_irrefl _)
theorem Inv.cne (I:Inv X pins σ H s):∀ x c,X.env.cells.lookup x=some c→c ≠ X.env.locals:=fun x c e z=>by
 obtain ⟨v,o,ho,hd⟩:=I.cell x c e
 obtain ⟨m,⟨o',es,ep,ho',hd',_⟩,_⟩:=I.loc
 rw [z,ho'] at ho;cases ho;rw [hd'] at hd;cases hd
theorem Inv.funs (I:Inv X pins σ H s):s.heap.FunFrames X.base X.outer:=by
 have all:∀ (l:List Env),(∀ b ∈ frs l,b ∈ X.fs)→X.s₀.heap.FunFrames X.base l→s.heap.FunFrames X.base l:=by
  intro l
  induction l with
  | nil=>intro _ _;trivial
  | cons env r ih =>
   intro hs hl
   obtain ⟨hk,⟨L,o,hf,hn,ho,hd⟩,hr⟩:=hl
   have hL:L ∈ X.fs:=hs L (by unfold frs;rw [List.filterMap_cons,hf];exact List.mem_cons_self)
   obtain ⟨sl,e⟩:=I.base.slot L o ho (I.ok.frf L hL) hL fun z=>I.ok.exfs L z hL
   exact ⟨hk,⟨L,_,hf,hn,e,hd⟩,ih (fun b hb=>hs b (by unfold frs;rw [List.filterMap_cons,hf];exact List.mem_cons_of_mem _ hb)) hr⟩
 exact all X.outer (fun _ hb=>hb) I.ok.funs
theorem Inv.stack (I:Inv X pins σ H s):s.heap.FunFrames X.base X.stack:=by
 rcases I.ok.stk with e | ⟨e,hf⟩
 ·rw [e];exact I.funs
 ·rw [e]
  obtain ⟨m,hn,_⟩:=I.loc
  refine .cons (by rw [I.ok.kind];decide) hf hn ?_ I.funs
  exact Heap.get?_none_of_le (Nat.le_trans I.ok.bsz I.ok.above)
theorem Inv.stkSub (I:Inv X pins σ H s):∀ b ∈ frs X.stack,b ∈ X.env.locals :: X.fs:=fun b hb=>by
 rcases I.ok.stk with e | ⟨e,hf⟩
 ·rw [e] at hb;exact List.mem_cons_of_mem _ hb
 ·rw [e] at hb
  unfold frs at hb
  rw [List.filterMap_cons,hf] at hb
  exact hb
theorem Inv.stkFree (I:Inv X pins σ H s):∀ b ∈ frs X.stack,H b=none:=fun b hb=>by
 rcases List.mem_cons.mp (I.stkSub b hb) with e | hb
 ·rw [e];exact I.free
 ·obtain ⟨_,o,ho,_⟩:=I.ok.funs.mem hb
  exact I.base.free b o ho (I.ok.frf b hb) fun z=>I.ok.exfs b z hb
theorem Inv.step {g' : Array GenState} {t' : Nat} {d' : Drawn} {ch:List Addr} (I:Inv X pins σ H s)
  (hch:∀ b ∈ ch,(b ∈ X.ex ∨ X.s₀.heap.objs.size ≤ b)∧b ≠ X.env.locals∧(∀ x c,X.env.cells.lookup x=some c→c ≠ b)∧∀ p ∈ X.pn ++ pins,p.1 ≠ b)
  (keep:∀ b o,b ≠ X.env.locals→b ∉ X.fs→b ∉ ch→s.heap.get? b=some o→H b=none→h'.get? b=some o)
  (slot:∀ b o,b ≠ X.env.locals→b ∈ X.fs→b ∉ ch→s.heap.get? b=some o→H b=none→∃ sl,h'.get? b=some { o with slots:=sl }) (free:∀ b o,b ∉ ch→s.heap.get? b=some o→H b=none→H' b=none)
  (there:∀ b o,b ∉ ch→s.heap.get? b=some o→∃ o',h'.get? b=some o')
  (tups:∀ b xs,H b=some (.tup xs)→H' b=some (.tup xs)) (frzs:∀ b o u,H b=some (.frz o u)→H' b=some (.frz o u)) (tbls:∀ b ps,H b=some (.tbl ps)→∃ more,H' b=some (.tbl (ps ++ more)))
  (ns:∀ m,s.heap.Ns X.env.locals m→h'.Ns X.env.locals m) (hok:HOk X.prog X.w H' h') (hg:AllBare g') :
  Inv X pins σ H' { s with heap:=h',gens:=g',drawn:=d',toks:=t' }:=by
 have neL:∀ b o,X.s₀.heap.get? b=some o→b ≠ X.env.locals:=fun b o e=>Nat.ne_of_lt (Nat.lt_of_lt_of_le (Heap.lt_size e) I.ok.above)
 have neC:∀ b o,X.s₀.heap.get? b=some o→b ∉ X.ex→b ∉ ch:=fun b o e hx hb=>by
  rcases (hch b hb).1 with z | z
  ·exact hx z
  ·exact absurd (Nat.lt_of_lt_of_le (Heap.lt_size e) z) (Nat.lt_irrefl _)
 have cellK:∀ x c,X.env.cells.lookup x=some c→∀ v,s.heap.IsCell c v→h'.IsCell c v:=fun x c e v hZq=>by
  obtain ⟨o,ho,hd⟩:=hZq
  have nch:c ∉ ch:=fun z=>(hch c z).2.2.1 x c e rfl
  by_cases hc:c ∈ X.fs
  ·obtain ⟨sl,q⟩:=slot c o (I.cne x c e) hc nch ho (I.freeC x c e)
   exact ⟨_,q,hd⟩
  ·exact ⟨o,keep c o (I.cne x c e) hc nch ho (I.freeC x c e),hd⟩
 refine ⟨I.ok,I.os,hg,⟨fun b o e n hb hx => ?_,fun b o e n hb hx => ?_,fun b o e n hx => ?_,fun b o e hx => ?_,fun b xs e=>tups b xs (I.base.tups b xs e),fun b o xs e=>frzs b o xs (I.base.frzs b o xs e),fun b ps e => ?_⟩,?_,fun x c e => ?_,?_,fun x c e => ?_,fun p hp => ?_,hok,I.len⟩
 ·exact keep b o (neL b o e) hb (neC b o e hx) (I.base.keep b o e n hb hx) (I.base.free b o e n hx)
 ·obtain ⟨sl,e1⟩:=I.base.slot b o e n hb hx
  obtain ⟨sl',e2⟩:=slot b _ (neL b o e) hb (neC b o e hx) e1 (I.base.free b o e n hx)
  exact ⟨sl',e2⟩
 ·obtain ⟨o',e1⟩:=I.base.there b o e hx
  exact free b o' (neC b o e hx) e1 (I.base.free b o e n hx)
 ·obtain ⟨o',e1⟩:=I.base.there b o e hx
  exact there b o' (neC b o e hx) e1
 ·obtain ⟨m1,e1⟩:=I.base.tbls b ps e
  obtain ⟨m2,e2⟩:=tbls b _ e1
  exact ⟨m1 ++ m2,by rw [e2,Array.append_assoc]⟩
 ·obtain ⟨m,hn,hl⟩:=I.loc
  refine ⟨m,ns m hn,fun i x v e1 e2 e3 => ?_⟩
  obtain ⟨u,r,l⟩:=hl i x v e1 e2 e3
  refine ⟨u,r,?_⟩
  rcases l with l | ⟨k,c,e,z⟩
  ·exact .inl l
  ·exact .inr ⟨k,c,e,cellK x c e _ z⟩
 ·obtain ⟨v,z⟩:=I.cell x c e
  exact ⟨v,cellK x c e v z⟩
 ·obtain ⟨m,⟨o,_,_,ho,_⟩,_⟩:=I.loc
  exact free _ o (fun z=>(hch _ z).2.1 rfl) ho I.free
 ·obtain ⟨v,o,ho,hd⟩:=I.cell x c e
  exact free c o (fun z=>(hch c z).2.2.1 x c e rfl) ho (I.freeC x c e)
 ·obtain ⟨e,n,ne,nf,d⟩:=I.pin p hp
  have nch:p.1 ∉ ch:=fun z=>(hch p.1 z).2.2.2 p hp rfl
  exact ⟨keep p.1 p.2 ne nf nch e n,free p.1 p.2 nch e n,ne,nf,d⟩
theorem Inv.un {t' : Nat} (I:Inv X pins σ H s) (u:Un X.fs [] H H' s.heap h') (hok:HOk X.prog X.w H' h'):Inv X pins σ H' { s with heap:=h',toks:=t' }:=by
 obtain ⟨m,⟨o,es,ep,ho,r⟩,_⟩:=id I.loc
 obtain ⟨sl,hL⟩:=u.any ho I.free (by simp)
 exact I.step (g':=s.gens) (d':=s.drawn) (ch:=[]) (fun _ z=>nomatch z) (fun b o _ hb _ e n=>u.keep b o e n hb (by simp)) (fun b o _ hb _ e n=>u.slot b o e n hb (by simp)) (fun b o _ e n=>u.free b o e n (by simp)) (fun b o _ e=>u.there b o e (by simp)) u.tups u.frzs u.tbls (fun m' hm=>by
  obtain ⟨o',es',ep',ho',r'⟩:=hm
  rw [ho] at ho';cases ho'
  exact ⟨_,es',ep',hL,r'⟩) hok I.bare
theorem Inv.call {g' : Array GenState} {t' : Nat} {d' : Drawn} {ch:List Addr} (I:Inv X pins σ H s) (u:Un (frs X.stack) ch H H' s.heap h') (hok:HOk X.prog X.w H' h') (hg:AllBare g')
  (hch:∀ b ∈ ch,(b ∈ X.ex ∨ X.s₀.heap.objs.size ≤ b)∧b ≠ X.env.locals∧(∀ x c,X.env.cells.lookup x=some c→c ≠ b)∧∀ p ∈ X.pn ++ pins,p.1 ≠ b) :
  Inv X pins σ H' { s with heap:=h',gens:=g',drawn:=d',toks:=t' }:=by
 obtain ⟨m,⟨o,es,ep,ho,r⟩,_⟩:=id I.loc
 obtain ⟨sl,hL⟩:=u.any ho I.free fun z=>(hch _ z).2.1 rfl
 exact I.step (ch:=ch) hch (fun b o hL hb hc e n=>u.keep b o e n (fun z=>(List.mem_cons.mp (I.stkSub b z)).elim hL hb) hc) (fun b o _ _ hc e n=>u.any e n hc) (fun b o hc e n=>u.free b o e n hc) (fun b o hc e=>u.there b o e hc) u.tups u.frzs u.tbls (fun m' hm=>by
  obtain ⟨o',es',ep',ho',r'⟩:=hm
  rw [ho] at ho';cases ho'
  exact ⟨_,es',ep',hL,r'⟩) hok hg
theorem Inv.turned {t' : Nat} {it:Addr} (I:Inv X pins σ H s) (k:∀ b o,b ≠ it→s.heap.get? b=some o→h'.get? b=some o) (hn:H it=none) (hL:it ≠ X.env.locals)
  (h1:it ∈ X.ex ∨ X.s₀.heap.objs.size ≤ it) (h2:∀ x c,X.env.cells.lookup x=some c→c ≠ it) (h3:∀ p ∈ X.pn ++ pins,p.1 ≠ it):Inv X pins σ H { s with heap:=h',toks:=t' }:=by
 have nit:∀ b u,H b=some u→b ≠ it:=fun b u e z=>by rw [z,hn] at e;cases e
 refine I.step (g':=s.gens) (d':=s.drawn) (ch:=[it]) (fun b hb => ?_) (fun b o _ _ hc e _=>k b o (fun z=>hc (by simp [z])) e) (fun b o _ _ hc e _=>⟨o.slots,k b o (fun z=>hc (by simp [z])) e⟩) (fun _ _ _ _ n=>n)
  (fun b o hc e=>⟨o,k b o (fun z=>hc (by simp [z])) e⟩) (fun _ _ e=>e) (fun _ _ _ e=>e) (fun b ps e=>⟨#[],by rw [e];simp⟩) (fun m hm => ?_) (fun b u e => ?_) I.bare
 ·have e:b=it:=by simpa using hb
  subst e
  exact ⟨h1,hL,h2,h3⟩
 ·obtain ⟨o,es,ep,ho,r⟩:=hm
  exact ⟨o,es,ep,k _ o (Ne.symm hL) ho,r⟩
 ·refine (I.hok b u e).stay (fun c v hc q=>k c v ?_ q) (fun _ q=>q) fun _ _ q=>q
  rcases hc with z | z
  ·rw [z];exact nit b u e
  ·exact nit c _ z
theorem Inv.tok (I:Inv X pins σ H s) (t:Nat):Inv X pins σ H { s with toks:=t }:=I.un (h':=s.heap) (t':=t) Un.refl I.hok
theorem Inv.kept {t' : Nat} (I:Inv X pins σ H s) (k:∀ b u,s.heap.get? b=some u→h'.get? b=some u):Inv X pins σ H { s with heap:=h',toks:=t' }:=I.un (Un.kept k) (I.hok.kept k)
theorem Inv.laid {a:Addr} {o:HO} {t' : Nat} (I:Inv X pins σ H s) (k:∀ b u,s.heap.get? b=some u→h'.get? b=some u) (hp:s.heap.objs.size ≤ a) (new:jG X.prog X.w (upd H a o) h' a o) :
  Inv X pins σ (upd H a o) { s with heap:=h',toks:=t' }:=I.un (Un.laid k hp (I.hok.fresh hp)) (I.hok.laid k hp new)
theorem Inv.write {x e:Addr} {o:HO} {t' : Nat} (I:Inv X pins σ H s) (mu:Mut (H x)) (he:e=x ∨ H e=some (.own x)) (k:∀ b u,b ≠ e→s.heap.get? b=some u→h'.get? b=some u) (heo:∃ u,h'.get? e=some u)
  (new:jG X.prog X.w (upd H x o) h' x o):Inv X pins σ (upd H x o) { s with heap:=h',toks:=t' }:=I.un (Un.write mu he k heo) (I.hok.write mu he k heo new)
theorem Inv.pins_of {pins' : List (Addr × Obj)} (I:Inv X pins σ H s) (h:∀ p ∈ pins',s.heap.get? p.1=some p.2∧H p.1=none∧p.1 ≠ X.env.locals∧p.1 ∉ X.fs∧∀ v,p.2.data ≠ .cell v):Inv X pins' σ H s :=
 ⟨I.ok,I.os,I.bare,I.base,I.loc,I.cell,I.free,I.freeC,fun p hp=>(List.mem_append.mp hp).elim (fun z=>I.pin p (List.mem_append_left _ z)) (h p),I.hok,I.len⟩
theorem zcP {N:List Str} (hN:N.Nodup) {i j:Nat} {x:Str} (a:N[i]?=some x) (b:N[j]?=some x):i=j:=by
 obtain ⟨h1,e1⟩:=List.getElem?_eq_some_iff.mp a
 obtain ⟨h2,e2⟩:=List.getElem?_eq_some_iff.mp b
 exact (List.getElem_inj hN).mp (e1.trans e2.symm)
theorem zbK {M:Model} {A:Around} {E:Value→Shared→Prop} {i:Nat} {x:Str} {v:V} {u:Value} {Q:Unit→Shared→Prop} (I:Inv X pins σ H s) (hN:X.N.Nodup) (hi:X.N[i]?=some x) (hx:Loc X.env.scope x) (r:RelV v u)
  (h:∀ s',Inv X pins (σ.set i (some v)) H s'→(∃ a,Heap.SameBut a s.heap s'.heap∧(a=X.env.locals ∨ X.env.cells.lookup x=some a))→Q () s') (hf:autoParam (X.fn x=true ∨ X.env.scope.names.lookup x=some .local) aTa):wpAny M A (storeName X.env x u) Q E s:=by
 obtain ⟨m,hn,hl⟩:=id I.loc
 have hcls:(X.env.scope.kind == .class || (X.env.scope.kind == .module && X.env.locals != X.env.globals))=false:=by rw [I.ok.kind];rfl
 have hiσ:i < σ.length:=by rw [I.len];exact (List.getElem?_eq_some_iff.mp hi).1
 have cne:=I.cne
 have tracked:∀ {a:Addr} {h' : Heap},(∃ o,s.heap.get? a=some o∧H a=none)→Heap.SameBut a s.heap h'→HOk X.prog X.w H h':=fun {a h'} ha hs b ob e=>by
  obtain ⟨_,_,hfree⟩:=ha
  refine (I.hok b ob e).stay (fun c w' hc q=>(hs.2 c ?_).trans q) (fun _ q=>q) fun _ _ q=>q
  rintro rfl
  rcases hc with rfl | hc
  ·rw [hfree] at e;cases e
  ·rw [hfree] at hc;cases hc
 rcases hx with hk | hk
 ·refine wpAny_storeName_local hk hn (fun h' hn' hs => ?_) hcls
  obtain ⟨oL,_,_,hoL,_⟩:=id hn
  refine h _ ⟨I.ok,I.os,I.bare,⟨fun b o e n hb hx => ?_,fun b o e n hb hx => ?_,I.base.free,fun b o e hx => ?_,I.base.tups,I.base.frzs,I.base.tbls⟩,⟨_,hn',fun j y v' e1 e2 e3 => ?_⟩,fun y c e => ?_,I.free,I.freeC,fun p hp => ?_,tracked ⟨oL,hoL,I.free⟩ hs,by simpa using I.len⟩ ⟨_,hs,.inl rfl⟩
  ·exact (hs.2 b (Nat.ne_of_lt (Nat.lt_of_lt_of_le (Heap.lt_size e) I.ok.above))).trans (I.base.keep b o e n hb hx)
  ·obtain ⟨sl,e1⟩:=I.base.slot b o e n hb hx
   exact ⟨sl,(hs.2 b (Nat.ne_of_lt (Nat.lt_of_lt_of_le (Heap.lt_size e) I.ok.above))).trans e1⟩
  ·obtain ⟨o',e1⟩:=I.base.there b o e hx
   exact ⟨o',(hs.2 b (Nat.ne_of_lt (Nat.lt_of_lt_of_le (Heap.lt_size e) I.ok.above))).trans e1⟩
  ·by_cases hj:j=i
   ·subst hj
    rw [hi] at e1;cases e1
    rw [List.getElem?_set_self hiσ] at e2
    cases e2
    exact ⟨u,r,.inl ⟨hk,by simp⟩⟩
   ·rw [List.getElem?_set_ne (Ne.symm hj)] at e2
    obtain ⟨u',r',q⟩:=hl j y v' e1 e2 e3
    refine ⟨u',r',?_⟩
    rcases q with ⟨k,e⟩ | ⟨k,c,e,z⟩
    ·refine .inl ⟨k,?_⟩
     have:y ≠ x:=fun e=>hj (zcP hN e1 (e ▸ hi))
     simp [this,e]
    ·exact .inr ⟨k,c,e,z.sameBut hs (cne y c e)⟩
  ·obtain ⟨w',z⟩:=I.cell y c e
   exact ⟨w',z.sameBut hs (cne y c e)⟩
  ·obtain ⟨e,n,ne,nf,d⟩:=I.pin p hp
   exact ⟨(hs.2 p.1 ne).trans e,n,ne,nf,d⟩
 ·have hfn:X.fn x=true:=by
   rcases hf with z | z
   ·exact z
   ·rw [z] at hk;cases hk
  obtain ⟨c,hc⟩:=I.ok.has x (.inl hk)
  obtain ⟨w',z⟩:=I.cell x c hc
  refine wpAny_storeName_cell I.ok.kind hk hc z (fun h' hc' hs => ?_)
  obtain ⟨oc,hoc,hocd⟩:=id z
  refine h { s with heap:=h' } ⟨I.ok,I.os,I.bare,⟨fun b o e n hb hx => ?_,fun b o e n hb hx => ?_,I.base.free,fun b o e hx => ?_,I.base.tups,I.base.frzs,I.base.tbls⟩,⟨m,hn.sameBut hs (Ne.symm (cne x c hc)),fun j y v' e1 e2 e3 => ?_⟩,fun y c' e => ?_,I.free,I.freeC,fun p hp => ?_,tracked ⟨oc,hoc,I.freeC x c hc⟩ hs,by simpa using I.len⟩ ⟨c,hs,.inr hc⟩
  ·exact (hs.2 b (Nat.ne_of_lt (Nat.lt_of_lt_of_le (Heap.lt_size e) (I.ok.cab x c hfn hc)))).trans (I.base.keep b o e n hb hx)
  ·obtain ⟨sl,e1⟩:=I.base.slot b o e n hb hx
   exact ⟨sl,(hs.2 b (Nat.ne_of_lt (Nat.lt_of_lt_of_le (Heap.lt_size e) (I.ok.cab x c hfn hc)))).trans e1⟩
  ·obtain ⟨o',e1⟩:=I.base.there b o e hx
   exact ⟨o',(hs.2 b (Nat.ne_of_lt (Nat.lt_of_lt_of_le (Heap.lt_size e) (I.ok.cab x c hfn hc)))).trans e1⟩
  ·by_cases hj:j=i
   ·subst hj
    rw [hi] at e1;cases e1
    rw [List.getElem?_set_self hiσ] at e2
    cases e2
    exact ⟨u,r,.inr ⟨.inl hk,c,hc,hc'⟩⟩
   ·rw [List.getElem?_set_ne (Ne.symm hj)] at e2
    obtain ⟨u',r',q⟩:=hl j y v' e1 e2 e3
    refine ⟨u',r',?_⟩
    rcases q with q | ⟨k,c',e,z'⟩
    ·exact .inl q
    ·refine .inr ⟨k,c',e,z'.sameBut hs ?_⟩
     rintro rfl
     exact hj (zcP hN e1 (I.ok.inj _ _ _ e hc ▸ hi))
  ·by_cases hcc:c'=c
   ·subst hcc;exact ⟨_,hc'⟩
   ·obtain ⟨w2,z2⟩:=I.cell y c' e
    exact ⟨w2,z2.sameBut hs hcc⟩
  ·obtain ⟨e,n,ne,nf,d⟩:=I.pin p hp
   refine ⟨(hs.2 p.1 ?_).trans e,n,ne,nf,d⟩
   intro q
   rw [q,hoc] at e
   have q' : oc=p.2:=Option.some.inj e
   exact d w' (by rw [← q'];exact hocd)
theorem zc7 {M:Model} {A:Around} {E:Value→Shared→Prop} {i:Nat} {x:Str} {v:V} {u:Value} {Q:Unit→Shared→Prop} (I:Inv X pins σ H s) (hN:X.N.Nodup) (hi:X.N[i]?=some x) (hx:Loc X.env.scope x) (r:RelV v u)
  (h:∀ s',Inv X pins (σ.set i (some v)) H s'→Q () s') (hf:autoParam (X.fn x=true ∨ X.env.scope.names.lookup x=some .local) aTa):wpAny M A (storeName X.env x u) Q E s :=
 zbK I hN hi hx r (fun s' I' _=>h s' I') hf
theorem Inv.call' {s' : Shared} {ch:List Addr} (I:Inv X pins σ H s) (ho:s'.os=s.os) (u:Un (frs X.stack) ch H H' s.heap s'.heap) (hok:HOk X.prog X.w H' s'.heap) (hg:AllBare s'.gens)
  (hch:∀ b ∈ ch,(b ∈ X.ex ∨ X.s₀.heap.objs.size ≤ b)∧b ≠ X.env.locals∧(∀ x c,X.env.cells.lookup x=some c→c ≠ b)∧∀ p ∈ X.pn ++ pins,p.1 ≠ b):Inv X pins σ H' s':=by
 obtain ⟨h',g',d',t',o'⟩:=s'
 have e:o'=s.os:=ho
 subst e
 exact I.call (g':=g') (t':=t') (d':=d') u hok hg hch
end
noncomputable abbrev XK:=Value→Option Addr→Hp→Prop
noncomputable abbrev St:=List (Option V)
noncomputable abbrev VK:=V→Hp→Prop
noncomputable abbrev TE:=St→Hp→VK→Prop
noncomputable abbrev TT:=St→Hp→(Bool→Hp→Prop)→Prop
noncomputable abbrev TA:=St→Hp→(List V→Hp→Prop)→Prop
structure Ends where
 nx:St→Hp→Prop
 rt:VK
 bk:St→Hp→Prop:=fun _ _=>False
 ct:St→Hp→Prop:=fun _ _=>False
noncomputable abbrev TS:=Ends→St→Hp→Prop
noncomputable def EP (X:Cx) (pins:List (Addr × Obj)) (σ:St) (Q:VK) (u:Value) (s' : Shared):Prop:=∃ v H',Inv X pins σ H' s'∧RelV v u∧Q v H'
noncomputable def TP (X:Cx) (pins:List (Addr × Obj)) (σ:St) (Q:Bool→Hp→Prop) (b:Bool) (s' : Shared):Prop:=∃ H',Inv X pins σ H' s'∧Q b H'
noncomputable def AP (X:Cx) (pins:List (Addr × Obj)) (σ:St) (Q:List V→Hp→Prop) (us:List Value) (s' : Shared):Prop:=∃ vs H',Inv X pins σ H' s'∧Vals vs us∧Q vs H'
noncomputable def SP (X:Cx) (pins:List (Addr × Obj)) (D:Ends) (f:Flow) (s' : Shared):Prop :=
 match f with
 | .next=>∃ σ' H',Inv X pins σ' H' s'∧D.nx σ' H'
 | .brk=>∃ σ' H',Inv X pins σ' H' s'∧D.bk σ' H'
 | .cont=>∃ σ' H',Inv X pins σ' H' s'∧D.ct σ' H'
 | .ret u=>∃ v σ' H',Inv X pins σ' H' s'∧RelV v u∧D.rt v H'
noncomputable def PE (X:Cx) (e:Expr) (t:TE):Prop :=
 ∀ (pins:List (Addr × Obj)) (s:Shared) (σ:St) (H:Hp) (Q:VK),Inv X pins σ H s→t σ H Q→wpAny (model X.prog X.w) X.A (eval e X.env) (EP X pins σ Q) X.xe s
noncomputable def PT (X:Cx) (e:Expr) (t:TT):Prop :=
 ∀ (pins:List (Addr × Obj)) (s:Shared) (σ:St) (H:Hp) (Q:Bool→Hp→Prop),Inv X pins σ H s→t σ H Q→wpAny (model X.prog X.w) X.A (isTrue e X.env (eval e X.env)) (TP X pins σ Q) X.xe s
noncomputable def PW (X:Cx) (e:Expr) (t:TT):Prop :=
 ∀ (whole:Sem Value) (pins:List (Addr × Obj)) (s:Shared) (σ:St) (H:Hp) (Q:Bool→Hp→Prop),Inv X pins σ H s→t σ H Q→wpAny (model X.prog X.w) X.A (isTrue e X.env whole) (TP X pins σ Q) X.xe s
theorem PW.pt {X:Cx} {e:Expr} {t:TT} (h:PW X e t):PT X e t:=h _
noncomputable def PA (X:Cx) (es:List Expr) (t:TA):Prop :=
 ∀ (pos:Pos) (pins:List (Addr × Obj)) (s:Shared) (σ:St) (H:Hp) (Q:List V→Hp→Prop),Inv X pins σ H s→t σ H Q→wpAny (model X.prog X.w) X.A (spliced (backTo pos (starEach es X.env))) (AP X pins σ Q) X.xe s
noncomputable def PS (X:Cx) (st:Stmt) (t:TS):Prop :=
 ∀ (pins:List (Addr × Obj)) (s:Shared) (σ:St) (H:Hp) (D:Ends),Inv X pins σ H s→t D σ H→wpAny (model X.prog X.w) X.A (exec st X.env) (SP X pins D) X.xe s
noncomputable def PSs (X:Cx) (st:List Stmt) (t:TS):Prop :=
 ∀ (pins:List (Addr × Obj)) (s:Shared) (σ:St) (H:Hp) (D:Ends),Inv X pins σ H s→t D σ H→wpAny (model X.prog X.w) X.A (execs st X.env) (SP X pins D) X.xe s
theorem thn {α:Type} {t:Sem α} {Q Q' : α→Shared→Prop} {M:Model} {A:Around} {E:Value→Shared→Prop} {s:Shared} (h:wpAny M A t Q E s) (hQ:∀ a s,Q a s→Q' a s):wpAny M A t Q' E s:=wpAny_mono h hQ fun _ _ x=>x
end L2
namespace L2
open PySem PySem.Spec PyProof.Rows
section
variable {X:Cx}
noncomputable def tVar (i:Nat):TE:=fun σ H Q=>∃ v,σ[i]?=some (some v)∧Q v H
noncomputable def tC (v:V):TE:=fun _ H Q=>Q v H
theorem zkJ {i:Nat} {x:Str} {pos:Pos} (hN:X.N[i]?=some x) (hv:Vis X.env.scope x) (hd:autoParam ((x == ("__debug__" : Str))=false) aTb) (hcd:autoParam ((x == ("__classdict__" : Str))=false) aTb):PE X (.Name x pos) (tVar i):=by
 intro pins s σ H Q I h
 obtain ⟨v,e,h⟩:=h
 obtain ⟨m,hn,hl⟩:=I.loc
 obtain ⟨u,r,l⟩:=hl i x v hN e hv
 have fin:EP X pins σ Q u s:=⟨v,H,I,r,h⟩
 rcases l with ⟨hk,hm⟩ | ⟨hk,c,hc,hcell⟩
 ·exact wpAny_Name (wpAny_loadName_local I.ok.kind hk hn hm fin) hd
 ·rcases hk with hk | hk
  ·exact wpAny_Name (wpAny_loadName_cell I.ok.kind hk hc hcell fin) hd
  ·exact wpAny_Name (wpAny_loadName_free I.ok.kind hk hc hcell fin hcd) hd
theorem zkE {i j pos}:PE X (.Constant (.int i) j pos) (tC (.int i)):=fun _ _ _ H _ I h=>wpAny_Constant_int ⟨.int i,H,I.tok _,⟨_,rfl⟩,h⟩
theorem zlt {b j pos}:PE X (.Constant (.bool b) j pos) (tC (.bl b)):=fun _ _ _ H _ I h=>Constant_bool ⟨.bl b,H,I,rfl,h⟩
noncomputable def Gl (X:Cx) (x:Str):Prop:=X.env.kindOf x=some .globalImplicit
theorem ziY {E:Value→Shared→Prop} {pins:List (Addr × Obj)} {s:Shared} {σ:St} {H:Hp} {x:Str} {u:Value} {pos:Pos} {Q:Value→Shared→Prop} (I:Inv X pins σ H s) (hg:Gl X x) (hm:X.mg x=some u) (h:Q u s)
  (hd:autoParam ((x == ("__debug__" : Str))=false) aTb):wpAny (model X.prog X.w) X.A (eval (.Name x pos) X.env) Q E s :=
 Calls.Name_function_global I.ok.kind hg (Calls.loadGlobal_global (by rw [I.ok.glob];exact I.mod.glob.keeps I.bk) hm h) hd
theorem xo {E:Value→Shared→Prop} {pins:List (Addr × Obj)} {s:Shared} {σ:St} {H:Hp} {x:Str} {u:Value} {pos:Pos} {Q:Value→Shared→Prop} (I:Inv X pins σ H s) (hg:Gl X x) (hm:X.mg x=none) (hv:bootBuiltins x=some u) (h:Q u s)
  (hn:autoParam (x ≠ "__name__") aTb) (hd:autoParam ((x == ("__debug__" : Str))=false) aTb):wpAny (model X.prog X.w) X.A (eval (.Name x pos) X.env) Q E s:=by
 obtain ⟨mb,h1,h2⟩:=I.mod.blt
 exact Calls.Name_function_global I.ok.kind hg (Calls.loadGlobal_builtin (by rw [I.ok.glob];exact I.mod.glob.keeps I.bk) hm (by rw [I.ok.blt];exact h1.keeps I.bk) ((h2 x hn).trans hv) h) hd
theorem zje {x:Str} {v:V} {u:Value} {pos:Pos} (hg:Gl X x) (hm:X.mg x=none) (hv:bootBuiltins x=some u) (r:RelV v u) (hn:autoParam (x ≠ "__name__") aTb) (hd:autoParam ((x == ("__debug__" : Str))=false) aTb):PE X (.Name x pos) (tC v) :=
 fun _ _ _ H _ I h=>xo I hg hm hv ⟨v,H,I,r,h⟩ hn hd
variable {a b:Expr} {ta tb:TE} {pos:Pos}
variable {tA tB' : TT} {rest:List Expr}
noncomputable def tAnd (t u:TT):TT:=fun σ H Q=>t σ H fun c H1=>if c=true then u σ H1 Q else Q false H1
noncomputable def tOr (t u:TT):TT:=fun σ H Q=>t σ H fun c H1=>if c=true then Q true H1 else u σ H1 Q
noncomputable def tNot (t:TT):TT:=fun σ H Q=>t σ H fun c H1=>Q (!c) H1
theorem zjC (ha:PT X a tA):PW X (.BoolOp .And [a] pos) tA:=by
 intro wh pins s σ H Q I h
 refine isTrue_and (thn (ha pins s σ H Q I h) fun c s1 e => ?_)
 cases c with
 | true=>exact isTrue_and_nil e
 | false=>exact e
theorem zkV (ha:PT X a tA):PW X (.BoolOp .Or [a] pos) tA:=by
 intro wh pins s σ H Q I h
 refine isTrue_or (thn (ha pins s σ H Q I h) fun c s1 e => ?_)
 cases c with
 | false=>exact isTrue_or_nil e
 | true=>exact e
theorem zkU (ha:PT X a tA) (hb:PW X (.BoolOp .And (b :: rest) pos) tB'):PW X (.BoolOp .And (a :: b :: rest) pos) (tAnd tA tB'):=by
 intro wh pins s σ H Q I h
 refine isTrue_and (thn (ha pins s σ H _ I h) fun c s1=>xe3 fun H1 I1 q1 => ?_)
 cases c with
 | true=>exact hb wh pins s1 σ H1 Q I1 q1
 | false=>exact ⟨H1,I1,q1⟩
theorem zlx (ha:PT X a tA) (hb:PW X (.BoolOp .Or (b :: rest) pos) tB'):PW X (.BoolOp .Or (a :: b :: rest) pos) (tOr tA tB'):=by
 intro wh pins s σ H Q I h
 refine isTrue_or (thn (ha pins s σ H _ I h) fun c s1=>xe3 fun H1 I1 q1 => ?_)
 cases c with
 | true=>exact ⟨H1,I1,q1⟩
 | false=>exact hb wh pins s1 σ H1 Q I1 q1
theorem zkR (ha:PT X a tA):PT X (.UnaryOp .Not a pos) (tNot tA):=by
 intro pins s σ H Q I h
 exact isTrue_not (ha pins s σ H (fun c H1=>Q (!c) H1) I h)
end
end L2
namespace L2
open PySem PySem.Spec PyProof.Rows
noncomputable def SqL (K:PySem.W.Frag) (H:Hp) (a:Addr) (xs:List V):Prop :=
 Rd H a (.lst xs) ∨
  ∃ (o:Obj) (its:Array Value) (n:Nat),K.lookup a=some o∧o.cls=.type "list" ∧ o.dict=none∧o.data=.seq its n∧its.size ≤ sizeLine∧Vals xs its.toList
noncomputable def SqT (K:PySem.W.Frag) (H:Hp) (a:Addr) (xs:List V):Prop :=
 Rd H a (.tup xs) ∨
  ∃ (o:Obj) (its:Array Value) (n:Nat),K.lookup a=some o∧o.cls=.type "tuple" ∧ o.data=.seq its n∧its.size ≤ sizeLine∧Vals xs its.toList
noncomputable def absV:Value→Option V
 | .none=>some .non
 | .bool b=>some (.bl b)
 | .int i _=>some (.int i)
 | .str x _=>some (.str x)
 | .bytes b _=>some (.byt b)
 | .float b _=>some (.flt b)
 | .ref a=>some (.ref a)
 | .type n=>some (.ty n)
 | _=>none
theorem RelV.abs {x:V} {u:Value} (r:RelV x u):absV u=some x:=by
 cases x with
 | non=>cases r;rfl
 | bl _=>cases r;rfl
 | int _=>obtain ⟨t,rfl⟩:=r;rfl
 | str _=>obtain ⟨t,rfl⟩:=r;rfl
 | byt _=>obtain ⟨t,rfl⟩:=r;rfl
 | flt _=>obtain ⟨t,rfl⟩:=r;rfl
 | ref _=>cases r;rfl
 | ty _=>cases r;rfl
theorem RelV.inj {x y:V} {u:Value} (r:RelV x u) (q:RelV y u):x=y:=Option.some.inj (r.abs.symm.trans q.abs)
theorem Vals.inj {xs ys:List V} {us:List Value} (r:Vals xs us):Vals ys us→xs=ys:=by
 induction r generalizing ys with
 | nil=>intro q;cases q;rfl
 | cons r _ ih =>
  intro q
  cases q with
  | cons r' t'=>rw [r.inj r',ih t']
section
variable {X:Cx} {pins:List (Addr × Obj)} {σ:St} {H:Hp} {s:Shared} {a:Addr} {xs ys:List V}
theorem SqL.of {K:PySem.W.Frag} (h:H a=some (.lst xs)):SqL K H a xs:=.inl (.inl h)
theorem SqT.of {K:PySem.W.Frag} (h:H a=some (.tup xs)):SqT K H a xs:=.inl (.inl h)
theorem Inv.list (I:Inv X pins σ H s) (h:SqL X.K H a xs):∃ its:List Value,Vals xs its∧PlainL s.heap a its.toArray∧xs.length ≤ sizeLine:=by
 rcases h with h | ⟨o,its,n,hk,hc,hd,hs,hz,r⟩
 ·obtain ⟨z,its,n,r,e⟩:=h.ok I.hok
  exact ⟨its,r,⟨_,n,e,rfl,rfl,rfl⟩,z⟩
 ·refine ⟨its.toList,r,⟨o,n,I.kIn a o hk,hc,hd,by simpa using hs⟩,?_⟩
  have e:=r.length
  simp only [Array.length_toList] at e
  omega
theorem Inv.tuple (I:Inv X pins σ H s) (h:SqT X.K H a xs):∃ its:List Value,Vals xs its∧IsTup s.heap a its.toArray∧xs.length ≤ sizeLine:=by
 rcases h with h | ⟨o,its,n,hk,hc,hs,hz,r⟩
 ·obtain ⟨z,its,r,p⟩:=h.ok I.hok
  exact ⟨its,r,p,z⟩
 ·refine ⟨its.toList,r,⟨o,I.kIn a o hk,hc,n,by simpa using hs⟩,?_⟩
  have e:=r.length
  simp only [Array.length_toList] at e
  omega
theorem Inv.list_inj (I:Inv X pins σ H s) (h:SqL X.K H a xs) (h' : SqL X.K H a ys):xs=ys:=by
 obtain ⟨its,r,⟨o,n,e,_,_,d⟩,_⟩:=I.list h
 obtain ⟨its',r',⟨o',n',e',_,_,d'⟩,_⟩:=I.list h'
 rw [e] at e';cases e'
 rw [d] at d'
 injection d' with d1 _
 have:its=its':=by simpa using congrArg Array.toList d1
 subst this
 exact r.inj r'
theorem Inv.tuple_inj (I:Inv X pins σ H s) (h:SqT X.K H a xs) (h' : SqT X.K H a ys):xs=ys:=by
 obtain ⟨its,r,⟨o,e,_,n,d⟩,_⟩:=I.tuple h
 obtain ⟨its',r',⟨o',e',_,n',d'⟩,_⟩:=I.tuple h'
 rw [e] at e';cases e'
 rw [d] at d'
 injection d' with d1 _
 have:its=its':=by simpa using congrArg Array.toList d1
 subst this
 exact r.inj r'
end
noncomputable abbrev Cx.wish (X:Cx) (E:Value→Shared→Prop):Cx:={ X with xe:=E }
noncomputable abbrev Cx.nox (X:Cx):Cx:=X.wish fun _ _=>False
theorem Cx.Ok.wish {X:Cx} (ok:X.Ok) (E:Value→Shared→Prop):(X.wish E).Ok :=
 ⟨ok.mod,ok.kind,ok.glob,ok.blt,ok.above,ok.inj,ok.has,ok.cab,ok.hd,ok.frames,ok.stk,ok.exf,ok.bs,ok.bsz,ok.noex,ok.exfs,ok.funs,ok.frf⟩
theorem Cx.Ok.unwish {X:Cx} {E:Value→Shared→Prop} (ok:(X.wish E).Ok):X.Ok :=
 ⟨ok.mod,ok.kind,ok.glob,ok.blt,ok.above,ok.inj,ok.has,ok.cab,ok.hd,ok.frames,ok.stk,ok.exf,ok.bs,ok.bsz,ok.noex,ok.exfs,ok.funs,ok.frf⟩
section
variable {X:Cx} {pins:List (Addr × Obj)} {σ:St} {H:Hp} {s:Shared} {E:Value→Shared→Prop}
theorem Inv.wish (I:Inv X pins σ H s) (E:Value→Shared→Prop):Inv (X.wish E) pins σ H s:=⟨I.ok.wish E,I.os,I.bare,I.base,I.loc,I.cell,I.free,I.freeC,I.pin,I.hok,I.len⟩
theorem Inv.unwish (I:Inv (X.wish E) pins σ H s):Inv X pins σ H s:=⟨I.ok.unwish,I.os,I.bare,I.base,I.loc,I.cell,I.free,I.freeC,I.pin,I.hok,I.len⟩
theorem SP.unwish {D:Ends} {f:Flow} {s' : Shared} (h:SP (X.wish E) pins D f s'):SP X pins D f s':=by
 cases f with
 | next=>obtain ⟨σ',H',I,q⟩:=h;exact ⟨σ',H',I.unwish,q⟩
 | brk=>obtain ⟨σ',H',I,q⟩:=h;exact ⟨σ',H',I.unwish,q⟩
 | cont=>obtain ⟨σ',H',I,q⟩:=h;exact ⟨σ',H',I.unwish,q⟩
 | ret u=>obtain ⟨v,σ',H',I,r,q⟩:=h;exact ⟨v,σ',H',I.unwish,r,q⟩
theorem PE.nox {e:Expr} {t:TE} (h:PE X.nox e t):PE X e t:=fun pins s σ H Q I hw =>
 wpAny_mono (h pins s σ H Q (I.wish _) hw) (fun _ _=>xe5 fun v H' I' r q=>⟨v,H',I'.unwish,r,q⟩) fun _ _ z=>False.elim z
theorem PT.nox {e:Expr} {t:TT} (h:PT X.nox e t):PT X e t:=fun pins s σ H Q I hw =>
 wpAny_mono (h pins s σ H Q (I.wish _) hw) (fun _ _=>xe3 fun H' I' q=>⟨H',I'.unwish,q⟩) fun _ _ z=>False.elim z
theorem PSs.nox {st:List Stmt} {t:TS} (h:PSs X.nox st t):PSs X st t:=fun pins s σ H D I hw =>
 wpAny_mono (h pins s σ H D (I.wish _) hw) (fun _ _ q=>q.unwish) fun _ _ z=>False.elim z
end
section
variable {X:Cx} {st:Stmt} {rest:List Stmt} {t u:TS} {e:Expr} {te:TE} {pos:Pos}
noncomputable def zlH:TS:=fun D σ H=>D.nx σ H
noncomputable def tSeq (t u:TS):TS:=fun D σ H=>t { D with nx:=u D } σ H
theorem zjx:PSs X [] zlH:=fun _ _ σ H _ I h=>wpAny_execs_nil ⟨σ,H,I,h⟩
theorem zhs (h1:PS X st t) (h2:PSs X rest u):PSs X (st :: rest) (tSeq t u):=by
 intro pins s σ H D I h
 refine wpAny_execs_cons (thn (h1 pins s σ H { D with nx:=u D } I h) fun f s1 q => ?_)
 cases f with
 | next =>
  obtain ⟨σ',H',I',q⟩:=q
  exact h2 pins s1 σ' H' D I' q
 | ret v=>exact q
 | brk=>exact q
 | cont=>exact q
theorem zjy (h1:PS X st t):PSs X [st] t:=by
 intro pins s σ H D I h
 refine wpAny_execs_cons (thn (h1 pins s σ H D I h) fun f s1 q => ?_)
 cases f with
 | next=>exact wpAny_execs_nil q
 | ret v=>exact q
 | brk=>exact q
 | cont=>exact q
theorem Inv.quiet {pins:List (Addr × Obj)} {σ:St} {H:Hp} {s:Shared} (I:Inv X pins σ H s):interactive X.env=false:=by simp [interactive,I.ok.kind]
noncomputable def zlG (te:TE):TS:=fun D σ H=>te σ H fun _ H1=>D.nx σ H1
theorem zce (he:PE X e te) (hs:autoParam (swapsWith e none pos.line X.env=pure false) aTc):PS X (.Expr e pos) (zlG te):=by
 intro pins s σ H D I h
 exact wpAny_Expr_any (thn (he pins s σ H _ I h) fun v s1=>xe5 fun x H1 I1 r1 q1=>⟨σ,H1,I1,q1⟩) I.quiet hs
noncomputable def tRet (te:TE):TS:=fun D σ H=>te σ H D.rt
theorem zkQ (he:PE X e te):PS X (.Return (some e) pos) (tRet te):=by
 intro pins s σ H D I h
 exact wpAny_Return_some (thn (he pins s σ H _ I h) fun v s1=>xe5 fun x H1 I1 r1 q1=>⟨x,σ,H1,I1,r1,q1⟩)
noncomputable def tIfS (c:TT) (t u:TS):TS:=fun D σ H=>c σ H fun b H1=>if b=true then t D σ H1 else u D σ H1
theorem zlw {c:Expr} {a b:List Stmt} {tc:TT} (hc:PT X c tc) (ha:PSs X a t) (hb:PSs X b u):PS X (.If c a b pos) (tIfS tc t u):=by
 intro pins s σ H D I h
 refine wpAny_If (thn (hc pins s σ H _ I h) fun d s1=>xe3 fun H1 I1 q1 => ?_)
 cases d with
 | true=>exact ha pins s1 σ H1 D I1 q1
 | false=>exact hb pins s1 σ H1 D I1 q1
end
noncomputable abbrev TG:=V→St→Hp→(St→Hp→Prop)→Prop
noncomputable abbrev TGs:=List V→St→Hp→(St→Hp→Prop)→Prop
noncomputable def PG (X:Cx) (target:Expr) (t:TG):Prop :=
 ∀ (pins:List (Addr × Obj)) (s:Shared) (σ:St) (H:Hp) (v:V) (u:Value) (Q:St→Hp→Prop),Inv X pins σ H s→RelV v u→t v σ H Q →
  wpAny (model X.prog X.w) X.A (assign target X.env u) (fun _ s'=>∃ σ' H',Inv X pins σ' H' s'∧Q σ' H') X.xe s
noncomputable def PGs (X:Cx) (ts:List Expr) (t:TGs):Prop :=
 ∀ (pins:List (Addr × Obj)) (s:Shared) (σ:St) (H:Hp) (vs:List V) (us:List Value) (Q:St→Hp→Prop),Inv X pins σ H s→Vals vs us→t vs σ H Q →
  wpAny (model X.prog X.w) X.A (assignInOrder ((assignEach ts X.env).map (·.2)) us) (fun _ s'=>∃ σ' H',Inv X pins σ' H' s'∧Q σ' H') X.xe s
noncomputable abbrev TSet:=V→V→V→Hp→(Hp→Prop)→Prop
noncomputable def PSet (X:Cx) (t:TSet):Prop :=
 ∀ (pins:List (Addr × Obj)) (s:Shared) (σ:St) (H:Hp) (o i v:V) (ov iv u:Value) (Q:Hp→Prop),Inv X pins σ H s→RelV o ov→RelV i iv→RelV v u→t o i v H Q →
  wpAny (model X.prog X.w) X.A (setItem ov iv u) (fun _ s'=>∃ H',Inv X pins σ H' s'∧Q H') X.xe s
noncomputable abbrev TIp:=V→V→Hp→VK→Prop
noncomputable def PIp (X:Cx) (op:Operator) (t:TIp):Prop :=
 ∀ (pins:List (Addr × Obj)) (s:Shared) (σ:St) (H:Hp) (x y:V) (v u:Value) (Q:VK),Inv X pins σ H s→RelV x v→RelV y u→t x y H Q →
  wpAny (model X.prog X.w) X.A (inplaceOp op v u) (EP X pins σ Q) X.xe s
section
variable {X:Cx} {pos:Pos}
noncomputable def zbg (i:Nat):TG:=fun v σ H Q=>Q (σ.set i (some v)) H
theorem zJ {i:Nat} {x:Str} (hN:X.N.Nodup) (hi:X.N[i]?=some x) (hx:Loc X.env.scope x) (hf:autoParam (X.fn x=true ∨ X.env.scope.names.lookup x=some .local) aTa):PG X (.Name x pos) (zbg i):=by
 intro pins s σ H v u Q I r h
 exact wpAny_assign_Name (zc7 I hN hi hx r (fun s' I'=>⟨_,H,I',h⟩) hf)
noncomputable def gNil:TGs:=fun vs σ H Q=>vs=[]∧Q σ H
noncomputable def zc (t:TG) (u:TGs):TGs:=fun vs σ H Q=>∃ v r,vs=v :: r∧t v σ H fun σ' H'=>u r σ' H' Q
theorem zjj:PGs X [] gNil:=by
 intro pins s σ H vs us Q I r h
 obtain ⟨e,h⟩:=h
 subst e
 cases r
 exact assignInOrder_nil ⟨σ,H,I,h⟩
theorem zhi {e:Expr} {es:List Expr} {t:TG} {u:TGs} (h1:PG X e t) (h2:PGs X es u)
  (hs:autoParam ((assignEach (e :: es) X.env).map (·.2)=assign e X.env :: (assignEach es X.env).map (·.2)) aTc):PGs X (e :: es) (zc t u):=by
 intro pins s σ H vs us Q I r h
 obtain ⟨v,vr,e1,h⟩:=h
 subst e1
 cases r with
 | cons r rr =>
  rw [hs]
  refine assignInOrder_cons (thn (h1 pins s σ H _ _ _ I r h) fun _ s1=>xe4 fun σ1 H1 I1 q1 => ?_)
  exact h2 pins s1 σ1 H1 _ _ Q I1 rr q1
noncomputable def gTup (K:PySem.W.Frag) (n:Nat) (t:TGs):TG:=fun v σ H Q=>∃ a xs,v=.ref a∧SqT K H a xs∧xs.length=n∧t xs σ H Q
theorem zkM {es:List Expr} {k:Nat} {t:TGs} {n:Nat} (hc:X.calm=true) (h:PGs X es t)
  (hn:autoParam ((assignEach es X.env).length=n) aTc) (hst:autoParam ((assignEach es X.env).findIdx? (·.1)=none) aTc):PG X (.Tuple es k pos) (gTup X.K n t):=by
 intro pins s σ H v u Q I r hw
 obtain ⟨a,xs,e1,hq,hl,hw⟩:=hw
 subst e1
 cases r
 obtain ⟨its,rv,ht,hz⟩:=I.tuple hq
 refine assign_Tuple_tuple (I.ok.hd hc) ht (by simp [hn,← hl,rv.length]) hst fun h' hx => ?_
 have I1:Inv X pins σ H { s with heap:=h' }:=I.kept (t':=s.toks) fun b o e=>hx b o (Nat.ne_of_lt (Heap.lt_size e)) e
 exact h pins _ σ H xs _ Q I1 (by simpa using rv) hw
noncomputable def gSub (to ti:TE) (t:TSet):TG:=fun v σ H Q=>to σ H fun o H1=>ti σ H1 fun i H2=>t o i v H2 fun H3=>Q σ H3
theorem zkL {o i:Expr} {to ti:TE} {t:TSet} (ho:PE X o to) (hi:PE X i ti) (hs:PSet X t)
  (ha:autoParam (∀ v,assign (.Subscript o i pos) X.env v=(do
   let ov ← holding [v] (eval o X.env)
   let iv ← holding [v,ov] (eval i X.env)
   standAt pos
   holding [v,ov,iv] (setItem ov iv v)
   release [v,ov,iv] [])) aTd):PG X (.Subscript o i pos) (gSub to ti t):=by
 intro pins s σ H v u Q I r h
 rw [ha]
 refine wpAny_bind (wpAny_holding (thn (ho pins s σ H _ I h) fun ov s1=>xe5 fun x H1 I1 r1 q1 => ?_))
 refine wpAny_bind (wpAny_holding (thn (hi pins s1 σ H1 _ I1 q1) fun iv s2=>xe5 fun y H2 I2 r2 q2 => ?_))
 refine wpAny_bind (wpAny_standAt (wpAny_bind (wpAny_holding (thn (hs pins s2 σ H2 x y v ov iv u _ I2 r1 r2 r q2) fun _ s3=>xe3 fun H3 I3 q3 => ?_))))
 exact wpAny_release ⟨σ,H3,I3,q3⟩
noncomputable def tAsg (te:TE) (g:TG):TS:=fun D σ H=>te σ H fun x H1=>g x σ H1 D.nx
theorem zcT {tg e:Expr} {te:TE} {g:TG} (he:PE X e te) (hg:PG X tg g) (hs:autoParam (swapsWithSole [tg] e pos.line X.env=pure false) aTc) (hw:autoParam (swappedStores [tg] e X.env=pure none) aTc)
  (h1:autoParam ((assignEach [tg] X.env).map (·.2)=[assign tg X.env]) aTc):PS X (.Assign [tg] e pos) (tAsg te g):=by
 intro pins s σ H D I h
 refine wpAny_Assign_stores (thn (he pins s σ H _ I h) fun v s1=>xe5 fun x H1 I1 r1 q1 => ?_) hs hw
 rw [h1]
 exact thn (hg pins s1 σ H1 x v _ I1 r1 q1) fun _ s2 q=>q
noncomputable def tAug (i:Nat) (te:TE) (ti:TIp):TS:=fun D σ H=>∃ x,σ[i]?=some (some x)∧te σ H fun y H1=>ti x y H1 fun z H2=>D.nx (σ.set i (some z)) H2
theorem zkN {i:Nat} {x:Str} {e:Expr} {te:TE} {op:Operator} {ti:TIp} {pos' : Pos} (hN:X.N.Nodup) (hi:X.N[i]?=some x) (hx:Loc X.env.scope x) (he:PE X e te) (ho:PIp X op ti) (hf:autoParam (X.fn x=true ∨ X.env.scope.names.lookup x=some .local) aTa) :
  PS X (.AugAssign (.Name x pos') op e pos) (tAug i te ti):=by
 intro pins s σ H D I h
 obtain ⟨v,e1,h⟩:=h
 obtain ⟨m,hn,hl⟩:=I.loc
 have vis:Vis X.env.scope x:=by rcases hx with k | k;exact .inl k;exact .inr (.inl k)
 obtain ⟨u,r,l⟩:=hl i x v hi e1 vis
 refine wpAny_AugAssign_Name ?_
 have go:wpAny (model X.prog X.w) X.A (eval e X.env) (fun w s₂=>wpAny (model X.prog X.w) X.A (inplaceOp op u w) (fun r s₃=>wpAny (model X.prog X.w) X.A (storeName X.env x r) (fun _=>SP X pins D .next) X.xe s₃) X.xe s₂) X.xe s:=by
  refine thn (he pins s σ H _ I h) fun w s1=>xe5 fun y H1 I1 r1 q1 => ?_
  refine thn (ho pins s1 σ H1 v y u w _ I1 r r1 q1) fun z s2=>xe5 fun zv H2 I2 r2 q2 => ?_
  exact zc7 I2 hN hi hx r2 (fun s3 I3=>⟨_,H2,I3,q2⟩) hf
 rcases l with ⟨hk,hm⟩ | ⟨hk,c,hc,hcell⟩
 ·exact wpAny_loadName_local I.ok.kind hk hn hm go
 ·rcases hk with hk | hk
  ·exact wpAny_loadName_cell I.ok.kind hk hc hcell go
  ·rcases hx with k | k
   ·have:X.env.scope.names.lookup x=some .free:=hk
    rw [k] at this;cases this
   ·have:X.env.scope.names.lookup x=some .free:=hk
    rw [k] at this;cases this
noncomputable def zlC (to ti te:TE) (tget:V→V→Hp→VK→Prop) (tip:TIp) (tset:TSet):TS:=fun D σ H=>to σ H fun o H1=>ti σ H1 fun i H2=>tget o i H2 fun x H3=>te σ H3 fun y H4=>tip x y H4 fun z H5=>tset o i z H5 fun H6=>D.nx σ H6
noncomputable def PGet (X:Cx) (t:V→V→Hp→VK→Prop):Prop :=
 ∀ (pins:List (Addr × Obj)) (s:Shared) (σ:St) (H:Hp) (o i:V) (ov iv:Value) (Q:VK),Inv X pins σ H s→RelV o ov→RelV i iv→t o i H Q →
  wpAny (model X.prog X.w) X.A (getItem ov iv) (EP X pins σ Q) X.xe s
theorem zjq {o i e:Expr} {to ti te:TE} {tget:V→V→Hp→VK→Prop} {tip:TIp} {tset:TSet} {op:Operator} {tpos:Pos} (ho:PE X o to) (hi:PE X i ti) (hg:PGet X tget) (he:PE X e te) (hp:PIp X op tip) (hs:PSet X tset)
  (ha:autoParam (∀ ov iv new,augStore i ov iv new=(do holding [new,ov,iv] (setItem ov iv new);release [new,ov,iv] [];pure .next)) aTd):PS X (.AugAssign (.Subscript o i tpos) op e pos) (zlC to ti te tget tip tset):=by
 intro pins s σ H D I h
 refine wpAny_AugAssign_SubscriptAny (thn (ho pins s σ H _ I h) fun ov s1=>xe5 fun x1 H1 I1 r1 q1 => ?_) ha
 refine thn (hi pins s1 σ H1 _ I1 q1) fun iv s2=>xe5 fun x2 H2 I2 r2 q2 => ?_
 refine thn (hg pins s2 σ H2 x1 x2 ov iv _ I2 r1 r2 q2) fun old s3=>xe5 fun x3 H3 I3 r3 q3 => ?_
 refine thn (he pins s3 σ H3 _ I3 q3) fun v s4=>xe5 fun x4 H4 I4 r4 q4 => ?_
 refine thn (hp pins s4 σ H4 x3 x4 old v _ I4 r3 r4 q4) fun new s5=>xe5 fun x5 H5 I5 r5 q5 => ?_
 exact thn (hs pins s5 σ H5 x1 x2 x5 ov iv new _ I5 r1 r2 r5 q5) fun _ s6=>xe3 fun H6 I6 q6=>⟨σ,H6,I6,q6⟩
noncomputable def ipI (f:Int→Int→Int):TIp:=fun x y H Q=>∃ i j,x=.int i∧y=.int j∧Q (.int (f i j)) H
theorem zid:PIp X .Add (ipI fun i j=>i + j):=by
 intro pins s σ H x y v u Q I r1 r2 h
 obtain ⟨i,j,e1,e2,q⟩:=h
 subst e1;subst e2
 obtain ⟨t,rfl⟩:=r1
 obtain ⟨t',rfl⟩:=r2
 exact iadd_int ⟨.int _,H,I.tok _,⟨_,rfl⟩,q⟩
end
section
variable {X:Cx} {pos:Pos}
noncomputable def zir (c:TT) (tb:TS):TS:=fun D σ H=>∃ W:Nat→St→Hp→Prop,(∃ m,W m σ H)∧∀ m σ H,W m σ H →
 c σ H fun b H1=>if b=true then ∃ N:St→Hp→Prop,(∀ σ' H',N σ' H'→∃ m',m' < m∧W m' σ' H')∧tb { D with nx:=N,ct:=N,bk:=D.nx } σ H1 else D.nx σ H1
theorem zhl {c:Expr} {body:List Stmt} {tc:TT} {tb:TS} (hp:PassesOwn (model X.prog X.w) X.A X.env X.xe) (hc:PT X c tc) (hb:PSs X body tb):PS X (.While c body [] pos) (zir tc tb):=by
 intro pins s σ H D I h
 obtain ⟨W,⟨m0,w0⟩,turn⟩:=h
 refine wpAny_While (codeAny_whileLoop (fun n s'=>∃ σ' H',Inv X pins σ' H' s'∧W n σ' H') ?_ m0 ⟨σ,H,I,w0⟩)
 rintro n s1 ⟨σ1,H1,I1,w1⟩
 refine wpAny_passesOwn hp (thn (hc pins s1 σ1 H1 _ I1 (turn n σ1 H1 w1)) fun b s2=>xe3 fun H2 I2 q2 => ?_)
 cases b with
 | true =>
  obtain ⟨N,hN,q2⟩:=q2
  rw [if_pos rfl]
  refine wpAny_passesOwn hp (thn (hb pins s2 σ1 H2 _ I2 q2) fun f s3 q3 => ?_)
  cases f with
  | next =>
   obtain ⟨σ3,H3,I3,n3⟩:=q3
   obtain ⟨m',hm,w3⟩:=hN σ3 H3 n3
   exact ⟨m',hm,σ3,H3,I3,w3⟩
  | cont =>
   obtain ⟨σ3,H3,I3,n3⟩:=q3
   obtain ⟨m',hm,w3⟩:=hN σ3 H3 n3
   exact ⟨m',hm,σ3,H3,I3,w3⟩
  | brk=>exact q3
  | ret v=>exact q3
 | false =>
  rw [if_neg Bool.false_ne_true]
  exact wpAny_execs_nil ⟨σ1,H2,I2,q2⟩
end
structure It where
 go:Nat→Hp→Prop
 yld:Nat→Hp→V→Hp→Prop
 stop:Nat→Hp→Prop
noncomputable def FpOk (X:Cx) (pins:List (Addr × Obj)) (H:Hp) (b:Addr):Prop :=
 H b=none∧b ≠ X.env.locals∧b ∉ X.fs∧(b ∈ X.ex ∨ X.s₀.heap.objs.size ≤ b)∧(∀ x c,X.env.cells.lookup x=some c→c ≠ b)∧∀ p ∈ X.pn ++ pins,p.1 ≠ b
theorem Inv.fpOk {X:Cx} {pins:List (Addr × Obj)} {σ:St} {H H' : Hp} {s:Shared} {b:Addr} (I:Inv X pins σ H s) (hb:s.heap.objs.size ≤ b) (hn:H' b=none):FpOk X pins H' b:=by
 refine ⟨hn,Nat.ne_of_gt (Nat.lt_of_lt_of_le I.lt hb),I.nofs hb,.inr (Nat.le_trans I.sz hb),fun x c e z => ?_,fun p hp z => ?_⟩
 ·obtain ⟨v,q⟩:=I.cell x c e
  exact absurd (Nat.lt_of_lt_of_le q.lt (by rw [z];exact hb)) (Nat.lt_irrefl _)
 ·exact absurd (Nat.lt_of_lt_of_le (Heap.lt_size (I.pin p hp).1) (by rw [z];exact hb)) (Nat.lt_irrefl _)
structure Turn (P:Program) (w:World) (K:PySem.W.Frag) (tg:Expr) (J:It) (fp:List Addr) (it:Addr) (tn:Nat→Heap→Prop):Prop where
 mem:it ∈ fp
 obj:∀ i h,tn i h→∀ b ∈ fp,∃ o,h.get? b=some o∧∀ v,o.data ≠ .cell v
 keep:∀ i h h',tn i h→(∀ b ∈ fp,∀ o,h.get? b=some o→h'.get? b=some o)→tn i h'
 item:∀ (X:Cx),X.prog=P→X.w=w→X.K=K→X.calm=true→∀ (i:Nat) (pins:List (Addr × Obj)) (s:Shared) (σ:St) (H:Hp) (E:Value→Shared→Prop),Inv X pins σ H s→(∀ b ∈ fp,FpOk X pins H b)→tn i s.heap→J.go i H →
  wpAny (model P w) X.A (pyNext (.ref it)) (fun r s1=>∃ u,r=some u ∧
   wpAny (model P w) X.A (letOwnedTupleGo tg (.ref it) u) (fun _ s2=>∃ x H',Inv X pins σ H' s2∧RelV x u∧J.yld i H x H'∧tn (i + 1) s2.heap∧∀ b ∈ fp,H' b=none) E s1) E s
 done:∀ (X:Cx),X.prog=P→X.w=w→X.K=K→X.calm=true→∀ (i:Nat) (pins:List (Addr × Obj)) (s:Shared) (σ:St) (H:Hp) (E:Value→Shared→Prop),Inv X pins σ H s→(∀ b ∈ fp,FpOk X pins H b)→tn i s.heap→J.stop i H →
  wpAny (model P w) X.A (pyNext (.ref it)) (fun r s1=>r=none∧Inv X pins σ H s1) E s
 self:∀ (A:Around) (i:Nat) (s:Shared) (Q:Value→Shared→Prop) (E:Value→Shared→Prop),tn i s.heap→Q (.ref it) s→wpAny (model P w) A (pyIter (.ref it)) Q E s
noncomputable abbrev TI:=St→Hp→(It→Hp→Prop)→Prop
noncomputable def PIE (X:Cx) (pins:List (Addr × Obj)) (σ:St) (tg:Expr) (R:It→Hp→Prop) (itv:Value) (s2:Shared):Prop :=
 ∃ (it:Addr) (fp:List Addr) (tn:Nat→Heap→Prop) (J:It) (H' : Hp),itv=.ref it∧Inv X pins σ H' s2∧Turn X.prog X.w X.K tg J fp it tn∧tn 0 s2.heap∧(∀ b ∈ fp,FpOk X pins H' b)∧R J H'
noncomputable def PI (X:Cx) (tg iter:Expr) (wi:TI):Prop :=
 ∀ (pins:List (Addr × Obj)) (s:Shared) (σ:St) (H:Hp) (R:It→Hp→Prop),Inv X pins σ H s→wi σ H R →
  wpAny (model X.prog X.w) X.A (eval iter X.env) (fun v s1=>wpAny (model X.prog X.w) X.A (pyIter v) (PIE X pins σ tg R) X.xe s1) X.xe s
theorem zgH {M:Model} {A:Around} {E:Value→Shared→Prop} {s:Shared} {tg:Expr} {it:Addr} {u:Value} {o:Obj} {n:String} {vs:Array Value} {Q:Unit→Shared→Prop} (ho:s.heap.get? it=some o) (hc:o.cls=.type n) (hd:o.data=.fields vs)
  (hn:["enumerate", "zip", "dict_itemiterator", "dict_reverseitemiterator", "odict_iterator", "itertools.zip_longest", "itertools.pairwise"].contains n=false) (hQ:Q () s):wpAny M A (letOwnedTupleGo tg (.ref it) u) Q E s:=by
 unfold letOwnedTupleGo
 cases tg <;> first
  | exact wpAny_pure hQ
  | (cases u <;> first
    | exact wpAny_pure hQ
    | (refine wpAny_bind (wpAny_load ho ?_)
       rw [hc,hd]
       show wpAny M A (if (["enumerate", "zip", "dict_itemiterator", "dict_reverseitemiterator", "odict_iterator", "itertools.zip_longest", "itertools.pairwise"].contains n && vs[0]? == some (rawInt _))=true then _ else _) Q E s
       rw [if_neg (by intro h;rw [hn,Bool.false_and] at h;cases h)]
       exact wpAny_pure hQ))
noncomputable def Itl (K:PySem.W.Frag) (a:Addr):It :=
 ⟨fun i H=>∃ xs x,SqL K H a xs∧xs[i]?=some x,fun i H x H'=>H'=H∧∀ xs,SqL K H a xs→xs[i]?=some x,fun i H=>∃ xs,SqL K H a xs∧xs.length ≤ i⟩
noncomputable def Itt (K:PySem.W.Frag) (a:Addr):It :=
 ⟨fun i H=>∃ xs x,SqT K H a xs∧xs[i]?=some x,fun i H x H'=>H'=H∧∀ xs,SqT K H a xs→xs[i]?=some x,fun i H=>∃ xs,SqT K H a xs∧xs.length ≤ i⟩
noncomputable def Itr (lo:Int) (n:Nat):It:=⟨fun i _=>i < n,fun i H x H'=>H'=H∧x=.int (lo + i),fun i _=>n ≤ i⟩
theorem zf7 {P:Program} {w:World} {K:PySem.W.Frag} {tg:Expr} (a it:Addr):Turn P w K tg (Itl K a) [it] it (fun i h=>h.IsListIter it a i) where
 mem:=by simp
 obj:=fun i h st b hb=>by
  have e:b=it:=by simpa using hb
  subst e
  obtain ⟨o,e,c,d⟩:=st
  exact ⟨o,e,fun v z=>by rw [d] at z;cases z⟩
 keep:=fun i h h' st k=>st.at fun o e=>k it (by simp) o e
 item:=by
  intro X hP hw hK hc i pins s σ H E I hf st hg
  subst hP hw hK
  obtain ⟨xs,x,hq,hx⟩:=hg
  obtain ⟨its,rv,p,hz⟩:=I.list hq
  obtain ⟨u,hu,ru⟩:=rv.get hx
  obtain ⟨f0,f1,f2,f3,f4,f5⟩:=hf it (by simp)
  refine wpAny_pyNext_list_item st p.isList (x:=u) (by simpa using hu) fun h' st' sb => ?_
  have I1:Inv X pins σ H { s with heap:=h' }:=I.turned (t':=s.toks) (fun b o hb e=>(sb.2 b hb).trans e) f0 f1 f3 f4 f5
  obtain ⟨o,e,c,d⟩:=id st'
  exact ⟨u,rfl,zgH (s:={ s with heap:=h' }) e c d (by decide) ⟨x,H,I1,ru,⟨rfl,fun ys hy=>by rw [I.list_inj hy hq];exact hx⟩,st',fun b hb=>(hf b hb).1⟩⟩
 done:=by
  intro X hP hw hK hc i pins s σ H E I hf st hg
  subst hP hw hK
  obtain ⟨xs,hq,hx⟩:=hg
  obtain ⟨its,rv,p,hz⟩:=I.list hq
  obtain ⟨f0,f1,f2,f3,f4,f5⟩:=hf it (by simp)
  have hl:=rv.length
  exact wpAny_pyNext_list_end (I.ok.hd hc) st p.isList (by simp;omega) fun h' eb=>⟨rfl,I.turned (t':=s.toks) (fun b o hb e=>eb b o hb e) f0 f1 f3 f4 f5⟩
 self:=fun _ _ _ _ _ st h=>wpAny_pyIter_listiter st h
theorem zdG {P:Program} {w:World} {K:PySem.W.Frag} {tg:Expr} (a it:Addr):Turn P w K tg (Itt K a) [it] it (fun i h=>h.IsTupleIter it a i) where
 mem:=by simp
 obj:=fun i h st b hb=>by
  have e:b=it:=by simpa using hb
  subst e
  obtain ⟨o,e,c,d⟩:=st
  exact ⟨o,e,fun v z=>by rw [d] at z;cases z⟩
 keep:=fun i h h' st k=>st.at fun o e=>k it (by simp) o e
 item:=by
  intro X hP hw hK hc i pins s σ H E I hf st hg
  subst hP hw hK
  obtain ⟨xs,x,hq,hx⟩:=hg
  obtain ⟨its,rv,p,hz⟩:=I.tuple hq
  obtain ⟨u,hu,ru⟩:=rv.get hx
  obtain ⟨f0,f1,f2,f3,f4,f5⟩:=hf it (by simp)
  refine wpAny_pyNext_tuple_item st (show s.heap.IsTuple a its.toArray from p) (x:=u) (by simpa using hu) fun h' st' sb => ?_
  have I1:Inv X pins σ H { s with heap:=h' }:=I.turned (t':=s.toks) (fun b o hb e=>(sb.2 b hb).trans e) f0 f1 f3 f4 f5
  obtain ⟨o,e,c,d⟩:=id st'
  exact ⟨u,rfl,zgH (s:={ s with heap:=h' }) e c d (by decide) ⟨x,H,I1,ru,⟨rfl,fun ys hy=>by rw [I.tuple_inj hy hq];exact hx⟩,st',fun b hb=>(hf b hb).1⟩⟩
 done:=by
  intro X hP hw hK hc i pins s σ H E I hf st hg
  subst hP hw hK
  obtain ⟨xs,hq,hx⟩:=hg
  obtain ⟨its,rv,p,hz⟩:=I.tuple hq
  obtain ⟨f0,f1,f2,f3,f4,f5⟩:=hf it (by simp)
  have hl:=rv.length
  exact wpAny_pyNext_tuple_end (I.ok.hd hc) st (show s.heap.IsTuple a its.toArray from p) (by simp;omega) fun h' eb=>⟨rfl,I.turned (t':=s.toks) (fun b o hb e=>eb b o hb e) f0 f1 f3 f4 f5⟩
 self:=fun _ _ _ _ _ st h=>wpAny_pyIter_tupleiter st h
theorem zdF {P:Program} {w:World} {K:PySem.W.Frag} {tg:Expr} (it:Addr) (lo:Int) (n:Nat):Turn P w K tg (Itr lo n) [it] it (fun i h=>IsRangeIter h it (lo + (i:Nat) * 1) ((n:Int) - (i:Nat)) 1) where
 mem:=by simp
 obj:=fun i h st b hb=>by
  have e:b=it:=by simpa using hb
  subst e
  exact ⟨_,st,fun v z=>by
   have z' : Data.fields _=Data.cell v:=z
   cases z'⟩
 keep:=fun i h h' st k=>k it (by simp) _ st
 item:=by
  intro X hP hw hK hc i pins s σ H E I hf st hg
  subst hP hw hK
  obtain ⟨f0,f1,f2,f3,f4,f5⟩:=hf it (by simp)
  have W:=Walks.range (prog:=X.prog) (w:=X.w) (I.ok.hd hc) it lo 1 n
  refine W.item i s _ _ hg st fun v h' tk hv st' kk => ?_
  obtain ⟨t,rfl⟩:=hv
  have I1:Inv X pins σ H { s with heap:=h',toks:=tk }:=I.turned (fun b o hb e=>kk b o (by simpa using hb) e) f0 f1 f3 f4 f5
  refine ⟨_,rfl,zgH (s:={ s with heap:=h',toks:=tk }) (n := "range_iterator") st' rfl rfl (by decide) ⟨.int (lo + i),H,I1,⟨t,?_⟩,⟨rfl,rfl⟩,st',fun b hb=>(hf b hb).1⟩⟩
  rw [Int.mul_one]
 done:=by
  intro X hP hw hK hc i pins s σ H E I hf st hg
  subst hP hw hK
  obtain ⟨f0,f1,f2,f3,f4,f5⟩:=hf it (by simp)
  exact wpAny_pyNext_range_end (I.ok.hd hc) st (by have:n ≤ i:=hg;omega) fun h' eb=>⟨rfl,I.turned (t':=s.toks) (fun b o hb e=>eb b o hb e) f0 f1 f3 f4 f5⟩
 self:=fun _ _ _ _ _ st h=>wpAny_pyIter_rangeiter st h
end L2
namespace L2
open PySem PySem.Spec PyProof.Rows
section
variable {X:Cx} {tg:Expr}
theorem zcY {pins:List (Addr × Obj)} {σ:St} {H:Hp} {s:Shared} {R:It→Hp→Prop} {E:Value→Shared→Prop} {lo hi:Int} {t u v:Tok} {tk:Nat} (I:Inv X pins σ H s) (h1:-(2 ^ 62) ≤ lo) (h2:lo < 2 ^ 62) (h3:-(2 ^ 62) ≤ hi) (h4:hi < 2 ^ 62)
  (q:R (Itr lo (hi - lo).toNat) H):wpAny (model X.prog X.w) X.A (pyIter (.ref s.heap.objs.size)) (PIE X pins σ tg R) E { s with heap:=s.heap.push { cls:=.type "range",data:=.fields #[.int lo t,.int hi u,.int 1 v] },toks:=tk }:=by
 refine wpAny_pyIter_range (IsRange.new ..) (small_one h1 h2 h3 h4) ?_
 have I1:Inv X pins σ H { s with heap:=s.heap.push { cls:=.type "range",data:=.fields #[.int lo t,.int hi u,.int 1 v] },toks:=tk }:=I.kept fun b o e=>Heap.get?_push_of_some _ e
 refine ⟨(s.heap.push { cls:=.type "range",data:=.fields #[.int lo t,.int hi u,.int 1 v] }).objs.size,[(s.heap.push { cls:=.type "range",data:=.fields #[.int lo t,.int hi u,.int 1 v] }).objs.size],_,_,H,rfl,
  I1.kept (t':=tk) fun b o e=>Heap.get?_push_of_some _ e,zdF _ lo (hi - lo).toNat,?_,fun b hb => ?_,q⟩
 ·have e1:lo + ((0:Nat):Int) * 1=lo:=by simp
  have e2:(((hi - lo).toNat:Nat):Int) - ((0:Nat):Int)=Builtin.Range.rangeSize lo hi 1:=by rw [rangeSize_one];split <;> omega
  show IsRangeIter _ _ (lo + ((0:Nat):Int) * 1) ((((hi - lo).toNat:Nat):Int) - ((0:Nat):Int)) 1
  rw [e1,e2]
  exact Heap.get?_push_size _ rfl
 ·have e:b=(s.heap.push { cls:=.type "range",data:=.fields #[.int lo t,.int hi u,.int 1 v] }).objs.size:=by simpa using hb
  subst e
  exact I1.fpOk (Nat.le_refl _) (I1.hok.fresh (Nat.le_refl _))
noncomputable def zlj (ta:TA):TI:=fun σ H R=>ta σ H fun vs H1=>∃ j:Int,vs=[.int j]∧-(2 ^ 62) ≤ j∧j < 2 ^ 62∧R (Itr 0 j.toNat) H1
noncomputable def zlk (ta:TA):TI:=fun σ H R=>ta σ H fun vs H1=>∃ i j:Int,vs=[.int i,.int j]∧(-(2 ^ 62) ≤ i∧i < 2 ^ 62∧-(2 ^ 62) ≤ j∧j < 2 ^ 62)∧R (Itr i (j - i).toNat) H1
theorem zfq {a:Expr} {ta:TA} {p pos:Pos} (hg:Gl X "range") (hm:X.mg "range" = none) (ha:PA X [a] ta) (hs:autoParam (starEach [a] X.env=[(false,eval a X.env)]) aTc):PI X tg (.Call (.Name "range" p) [a] [] pos) (zlj ta):=by
 intro pins s σ H R I h
 refine Call_ (xo I hg hm boot_range (PyProof.Rows.callWith_type1 (thn (ha pos pins s σ H _ I h) fun us s1=>xe5 fun vs H1 I1 r1 q1 => ?_) hs rfl))
 obtain ⟨j,e,q1,q2,q⟩:=q1
 subst e
 cases r1 with
 | cons r rr =>
  cases rr
  obtain ⟨t,rfl⟩:=r
  exact call_range_1 (zcY I1 (by omega) (by omega) q1 q2 (by simpa using q))
theorem zfr {a b:Expr} {ta:TA} {p pos:Pos} (hg:Gl X "range") (hm:X.mg "range" = none) (ha:PA X [a,b] ta) (hs:autoParam (starEach [a,b] X.env=[(false,eval a X.env),(false,eval b X.env)]) aTc) (hs2:autoParam (starEach [b] X.env=[(false,eval b X.env)]) aTc) :
  PI X tg (.Call (.Name "range" p) [a,b] [] pos) (zlk ta):=by
 intro pins s σ H R I h
 refine Call_ (xo I hg hm boot_range (PyProof.Rows.callWith_type1 (thn (ha pos pins s σ H _ I h) fun us s1=>xe5 fun vs H1 I1 r1 q1 => ?_) (by rw [hs,hs2]) (by rw [hs2];rfl)))
 obtain ⟨i,j,e,⟨q1,q2,q3,q4⟩,q⟩:=q1
 subst e
 cases r1 with
 | cons r rr =>
  cases rr with
  | cons r' rr =>
   cases rr
   obtain ⟨t,rfl⟩:=r
   obtain ⟨t',rfl⟩:=r'
   exact call_range_2 (zcY I1 q1 q2 q3 q4 q)
noncomputable def tFor (wi:TI) (g:TG) (tb:TS):TS:=fun D σ H=>wi σ H fun J H1=>∃ W:Nat→Nat→St→Hp→Prop,(∃ m,W 0 m σ H1)∧∀ i m σ H,W i m σ H →
 (J.stop i H∧D.nx σ H) ∨ (J.go i H∧∃ N:St→Hp→Prop,(∀ σ' H',N σ' H'→∃ m',m' < m∧W (i + 1) m' σ' H')∧∀ x H',J.yld i H x H'→g x σ H' fun σ2 H2=>tb { D with nx:=N,ct:=N,bk:=D.nx } σ2 H2)
noncomputable def zbx (fp:List Addr) (h:Heap):List (Addr × Obj):=fp.filterMap fun b=>(h.get? b).map fun o=>(b,o)
theorem xW {fp:List Addr} {h:Heap} {b:Addr} {o:Obj} (hb:b ∈ fp) (e:h.get? b=some o):(b,o) ∈ zbx fp h:=List.mem_filterMap.mpr ⟨b,hb,by rw [e];rfl⟩
theorem zfd {fp:List Addr} {h:Heap} {p:Addr × Obj} (hp:p ∈ zbx fp h):p.1 ∈ fp∧h.get? p.1=some p.2:=by
 obtain ⟨b,hb,e⟩:=List.mem_filterMap.mp hp
 cases q:h.get? b with
 | none=>rw [q] at e;cases e
 | some o =>
  rw [q] at e
  have e' : (b,o)=p:=Option.some.inj e
  subst e'
  exact ⟨hb,q⟩
theorem Inv.pinned {pins:List (Addr × Obj)} {σ:St} {H:Hp} {s:Shared} {fp:List Addr} (I:Inv X pins σ H s) (hf:∀ b ∈ fp,FpOk X pins H b) (ho:∀ b ∈ fp,∃ o,s.heap.get? b=some o∧∀ v,o.data ≠ .cell v):Inv X (pins ++ zbx fp s.heap) σ H s :=
 I.pins_of fun p hp=>(List.mem_append.mp hp).elim (fun z=>I.pin p (List.mem_append_right _ z)) fun z=>by
  obtain ⟨hb,e⟩:=zfd z
  obtain ⟨f0,f1,f2,_⟩:=hf p.1 hb
  obtain ⟨o,e',d⟩:=ho p.1 hb
  rw [e] at e';cases e'
  exact ⟨e,f0,f1,f2,d⟩
theorem Inv.unpinned {pins pl:List (Addr × Obj)} {σ:St} {H:Hp} {s:Shared} (I:Inv X (pins ++ pl) σ H s):Inv X pins σ H s:=I.pins_of fun p hp=>I.pin p (List.mem_append_right _ (List.mem_append_left _ hp))
theorem zkO {iter:Expr} {body:List Stmt} {wi:TI} {g:TG} {tb:TS} {pos:Pos} (hp:PassesOwn (model X.prog X.w) X.A X.env X.xe) (hc:X.calm=true) (hi:PI X tg iter wi) (hg:PG X tg g) (hb:PSs X body tb)
  (hs:autoParam (∀ x,foldedSetIterable iter X.env x=pure x) aTd):PS X (.For tg iter body [] pos) (tFor wi g tb):=by
 intro pins s σ H D I h
 refine wpAny_For (thn (hi pins s σ H _ I h) fun v s1 h1=>thn h1 fun itv s2 h2 => ?_) hs
 obtain ⟨it,fp,tn,J,H2,e,I2,T,st2,f2,W,⟨m0,w0⟩,turn⟩:=h2
 subst e
 -- what stays true of the iterator's objects through the loop
 have stat:∀ {H' : Hp},(∀ b ∈ fp,H' b=none)→∀ b ∈ fp,FpOk X pins H' b:=fun hn b hb=>⟨hn b hb,(f2 b hb).2⟩
 refine codeAny_forLoop_any (fun n s'=>∃ i σ' H',Inv X pins σ' H' s'∧tn i s'.heap∧(∀ b ∈ fp,H' b=none)∧W i n σ' H') ?_ m0 ⟨0,σ,H2,I2,st2,fun b hb=>(f2 b hb).1,w0⟩
 rintro n s3 ⟨i,σ3,H3,I3,st3,fr3,w3⟩
 rcases turn i n σ3 H3 w3 with ⟨stop,qn⟩ | ⟨go,N,hN,step⟩
 ·refine wpAny_passesOwn hp (thn (T.done X rfl rfl rfl hc i pins s3 σ3 H3 X.xe I3 (stat fr3) st3 stop) fun r s4 ⟨hr,I4⟩ => ?_)
  subst hr
  exact wpAny_execs_nil ⟨σ3,H3,I4,qn⟩
 ·refine wpAny_passesOwn hp (thn (T.item X rfl rfl rfl hc i pins s3 σ3 H3 X.xe I3 (stat fr3) st3 go) fun r s4 ⟨u,hr,h4⟩ => ?_)
  subst hr
  refine wpAny_passesOwn hp (thn h4 fun _ s5 hZq => ?_)
  obtain ⟨x,H5,I5,r5,y5,st5,fr5⟩:=hZq
  have I5':=I5.pinned (stat fr5) (T.obj _ _ st5)
  refine wpAny_passesOwn hp (thn (hg _ s5 σ3 H5 x u _ I5' r5 (step x H5 y5)) fun _ s6=>xe4 fun σ6 H6 I6 q6 => ?_)
  refine wpAny_passesOwn hp (thn (hb _ s6 σ6 H6 _ I6 q6) fun f s7 q7 => ?_)
  have again:∀ {σ7:St} {H7:Hp},Inv X (pins ++ zbx fp s5.heap) σ7 H7 s7→N σ7 H7→∃ m,m < n∧∃ i σ' H',Inv X pins σ' H' s7∧tn i s7.heap∧(∀ b ∈ fp,H' b=none)∧W i m σ' H':=fun {σ7 H7} I7 n7=>by
   obtain ⟨m',hm,w7⟩:=hN σ7 H7 n7
   refine ⟨m',hm,i + 1,σ7,H7,I7.unpinned,T.keep _ _ _ st5 fun b hb o e=>(I7.pin (b,o) (List.mem_append_right _ (List.mem_append_right _ (xW hb e)))).1,fun b hb => ?_,w7⟩
   obtain ⟨o,e,d⟩:=T.obj _ _ st5 b hb
   exact (I7.pin (b,o) (List.mem_append_right _ (List.mem_append_right _ (xW hb e)))).2.1
  cases f with
  | next=>obtain ⟨σ7,H7,I7,n7⟩:=q7;exact again I7 n7
  | cont=>obtain ⟨σ7,H7,I7,n7⟩:=q7;exact again I7 n7
  | brk=>obtain ⟨σ7,H7,I7,q7⟩:=q7;exact ⟨σ7,H7,I7.unpinned,q7⟩
  | ret v=>obtain ⟨x7,σ7,H7,I7,r7,q7⟩:=q7;exact ⟨x7,σ7,H7,I7.unpinned,r7,q7⟩
end
end L2
namespace L2
open PySem PySem.Spec PyProof.Rows
noncomputable abbrev R2:=V→V→Hp→VK→Prop
noncomputable def OpR (X:Cx) (f:Value→Value→Sem Value) (r:R2):Prop :=
 ∀ (pins:List (Addr × Obj)) (s:Shared) (σ:St) (H:Hp) (x y:V) (v u:Value) (Q:VK),Inv X pins σ H s→RelV x v→RelV y u→r x y H Q →
  wpAny (model X.prog X.w) X.A (f v u) (EP X pins σ Q) X.xe s
noncomputable def UnR (X:Cx) (f:Value→Sem Value) (r:V→Hp→VK→Prop):Prop :=
 ∀ (pins:List (Addr × Obj)) (s:Shared) (σ:St) (H:Hp) (x:V) (v:Value) (Q:VK),Inv X pins σ H s→RelV x v→r x H Q →
  wpAny (model X.prog X.w) X.A (f v) (EP X pins σ Q) X.xe s
noncomputable def wY (X:Cx) (f:Value) (r:List V→Hp→VK→Prop):Prop :=
 ∀ (pins:List (Addr × Obj)) (s:Shared) (σ:St) (H:Hp) (xs:List V) (us:List Value) (Q:VK),Inv X pins σ H s→Vals xs us→r xs H Q →
  wpAny (model X.prog X.w) X.A (call f us) (EP X pins σ Q) X.xe s
noncomputable def TruR (X:Cx) (r:V→Hp→(Bool→Hp→Prop)→Prop):Prop :=
 ∀ (pins:List (Addr × Obj)) (s:Shared) (σ:St) (H:Hp) (x:V) (v:Value) (Q:Bool→Hp→Prop),Inv X pins σ H s→RelV x v→r x H Q →
  wpAny (model X.prog X.w) X.A (truthy v) (TP X pins σ Q) X.xe s
noncomputable def tOp (r:R2) (ta tb:TE):TE:=fun σ H Q=>ta σ H fun x H1=>tb σ H1 fun y H2=>r x y H2 Q
noncomputable def tUn (r:V→Hp→VK→Prop) (ta:TE):TE:=fun σ H Q=>ta σ H fun x H1=>r x H1 Q
noncomputable def rI (C:Int→Int→Prop) (g:Int→Int→V):R2:=fun x y H Q=>∃ i j,x=.int i∧y=.int j∧C i j∧Q (g i j) H
noncomputable def rI0 (g:Int→Int→V):R2:=fun x y H Q=>∃ i j,x=.int i∧y=.int j∧Q (g i j) H
section
variable {X:Cx} {a b c:Expr} {ta tb tc:TE} {pos:Pos}
theorem binT (ha:PE X a ta) (hb:PE X b tb) {pins:List (Addr × Obj)} {s:Shared} {σ:St} {H:Hp} {R:V→V→Hp→Prop} (I:Inv X pins σ H s)
  (h:ta σ H fun x H1=>tb σ H1 fun y H2=>R x y H2) {Q:Value→Shared→Prop} {f:Value→Value→Sem Value}
  (hf:∀ v u s2 x y H2,Inv X pins σ H2 s2→RelV x v→RelV y u→R x y H2→wpAny (model X.prog X.w) X.A (f v u) Q X.xe s2) :
  wpAny (model X.prog X.w) X.A (eval a X.env) (fun v s₁=>wpAny (model X.prog X.w) X.A (eval b X.env) (fun u s₂=>wpAny (model X.prog X.w) X.A (f v u) Q X.xe s₂) X.xe s₁) X.xe s:=by
 refine thn (ha pins s σ H _ I h) fun v s1=>xe5 fun x H1 I1 r1 q1 => ?_
 refine thn (hb pins s1 σ H1 _ I1 q1) fun u s2=>xe5 fun y H2 I2 r2 q2 => ?_
 exact hf v u s2 x y H2 I2 r1 r2 q2
theorem zkH {op:Operator} {r:R2} (ho:OpR X (binaryOp op) r) (ha:PE X a ta) (hb:PE X b tb):PE X (.BinOp a op b pos) (tOp r ta tb):=by
 intro pins s σ H Q I h
 exact wpAny_BinOp (binT ha hb I h fun v u s2 x y H2 I2 rx ry q=>ho pins s2 σ H2 x y v u Q I2 rx ry q)
theorem zlu {op:UnaryOp} {r:V→Hp→VK→Prop} (ho:UnR X (unaryOp op) r) (ha:PE X a ta):PE X (.UnaryOp op a pos) (tUn r ta):=by
 intro pins s σ H Q I h
 exact UnaryOp_ (thn (ha pins s σ H _ I h) fun v s1=>xe5 fun x H1 I1 r1 q1=>ho pins s1 σ H1 x v Q I1 r1 q1)
theorem opI {f:Value→Value→Sem Value} {C:Int→Int→Prop} {g:Int→Int→Int}
  (rule:∀ (i j:Int) (t u:Tok) (s:Shared) (Q:Value→Shared→Prop) (E:Value→Shared→Prop),C i j→Q (.int (g i j) s.toks) { s with toks:=s.toks + 1 }→wpAny (model X.prog X.w) X.A (f (.int i t) (.int j u)) Q E s) :
  OpR X f (rI C fun i j=>.int (g i j)):=by
 intro pins s σ H x y v u Q I rx ry h
 obtain ⟨i,j,rfl,rfl,hc,q⟩:=h
 obtain ⟨t,rfl⟩:=rx
 obtain ⟨t',rfl⟩:=ry
 exact rule i j t t' s _ _ hc ⟨.int (g i j),H,I.tok _,⟨_,rfl⟩,q⟩
theorem opI0 {f:Value→Value→Sem Value} {g:Int→Int→Int}
  (rule:∀ (i j:Int) (t u:Tok) (s:Shared) (Q:Value→Shared→Prop) (E:Value→Shared→Prop),Q (.int (g i j) s.toks) { s with toks:=s.toks + 1 }→wpAny (model X.prog X.w) X.A (f (.int i t) (.int j u)) Q E s) :
  OpR X f (rI0 fun i j=>.int (g i j)):=by
 intro pins s σ H x y v u Q I rx ry h
 obtain ⟨i,j,rfl,rfl,q⟩:=h
 obtain ⟨t,rfl⟩:=rx
 obtain ⟨t',rfl⟩:=ry
 exact rule i j t t' s _ _ ⟨.int (g i j),H,I.tok _,⟨_,rfl⟩,q⟩
theorem opB0 {f:Value→Value→Sem Value} {g:Int→Int→Bool}
  (rule:∀ (i j:Int) (t u:Tok) (s:Shared) (Q:Value→Shared→Prop) (E:Value→Shared→Prop),Q (.bool (g i j)) s→wpAny (model X.prog X.w) X.A (f (.int i t) (.int j u)) Q E s) :
  OpR X f (rI0 fun i j=>.bl (g i j)):=by
 intro pins s σ H x y v u Q I rx ry h
 obtain ⟨i,j,rfl,rfl,q⟩:=h
 obtain ⟨t,rfl⟩:=rx
 obtain ⟨t',rfl⟩:=ry
 exact rule i j t t' s _ _ ⟨.bl (g i j),H,I,rfl,q⟩
noncomputable def CDiv (i j:Int):Prop:=0 < j∧j < 1073741824
theorem CMul.ok {i j:Int} (h:CMul i j):IntMulOk i j:=by
 rcases h with ⟨h1,h2⟩ | ⟨h1,h2⟩
 ·exact .of_left (intBits_le_64 h1 h2)
 ·exact .of_right (intBits_le_64 h1 h2)
theorem zkt:OpR X (binaryOp .Add) (rI0 fun i j=>.int (i + j)):=opI0 fun _ _ _ _ _ _ _ q=>add_int q
theorem zkx:OpR X (binaryOp .Sub) (rI0 fun i j=>.int (i - j)):=opI0 fun _ _ _ _ _ _ _ q=>sub_int q
theorem zkv:OpR X (binaryOp .Mult) (rI CMul fun i j=>.int (i * j)):=opI fun _ _ _ _ _ _ _ hc q=>mul_int q hc.ok
theorem zja:OpR X (binaryOp .FloorDiv) (rI CDiv fun i j=>.int (i / j)):=opI fun i j _ _ _ _ _ hc q=>by
 have h1:(0:Int) < j:=hc.1
 have h2:j < 1073741824:=hc.2
 exact floordiv_int (by omega) (by rw [Int.fdiv_eq_ediv_of_nonneg i (by omega)];exact q) (.inl (PyProof.noPylong_small (by omega)))
theorem zku:OpR X (binaryOp .Mod) (rI (fun _ j=>0 < j) fun i j=>.int (i % j)):=opI fun i j _ _ _ _ _ hc q=>by
 have h1:(0:Int) < j:=hc
 exact mod_int' (by omega) (by rw [Int.fmod_eq_emod_of_nonneg i (by omega)];exact q)
end
section
variable {X:Cx} {a b c:Expr} {ta tb tc:TE} {pos:Pos}
theorem zlq:OpR X (compareOp .Lt) (rI0 fun i j=>.bl (decide (i < j))):=opB0 fun _ _ _ _ _ _ _ q=>lt_int q
theorem zlp:OpR X (compareOp .LtE) (rI0 fun i j=>.bl (decide (i ≤ j))):=opB0 fun _ _ _ _ _ _ _ q=>le_int q
theorem zlo:OpR X (compareOp .GtE) (rI0 fun i j=>.bl (decide (j ≤ i))):=opB0 fun _ _ _ _ _ _ _ q=>ge_int q
theorem OpR.or {f:Value→Value→Sem Value} {r r' : R2} (h:OpR X f r) (h' : OpR X f r'):OpR X f (fun x y H Q=>r x y H Q ∨ r' x y H Q):=by
 intro pins s σ H x y v u Q I rx ry q
 rcases q with q | q
 ·exact h pins s σ H x y v u Q I rx ry q
 ·exact h' pins s σ H x y v u Q I rx ry q
theorem jW (b:Expr) {op:CmpOp} (h:autoParam (op ≠ .In) aTb) (h2:autoParam (op ≠ .NotIn) aTb):behindInMarks op b=false:=by
 have e1:(op == CmpOp.In)=false:=by cases op <;> first | rfl | exact absurd rfl h
 have e2:(op == CmpOp.NotIn)=false:=by cases op <;> first | rfl | exact absurd rfl h2
 cases b <;> simp [behindInMarks,e1,e2]
theorem zjg {op:CmpOp} {r:R2} (ho:OpR X (compareOp op) r) (ha:PE X a ta) (hb:PE X b tb) (hm:behindInMarks op b=false):PE X (.Compare a [op] [b] pos) (tOp r ta tb):=by
 intro pins s σ H Q I h
 exact wpAny_Compare1 (binT ha hb I h fun v u s2 x y H2 I2 rx ry q=>ho pins s2 σ H2 x y v u Q I2 rx ry q) hm
noncomputable def zlJ (t:TE):TT:=fun σ H Q=>t σ H fun x H'=>∃ k,x=.bl k∧Q k H'
theorem zjz {op:CmpOp} {r:R2} (ho:OpR X (compareOp op) r) (ha:PE X a ta) (hb:PE X b tb) (hm:behindInMarks op b=false):PT X (.Compare a [op] [b] pos) (zlJ (tOp r ta tb)):=by
 intro pins s σ H Q I h
 refine wpAny_isTrue_Compare1 (thn (ha pins s σ H _ I h) fun v s1=>xe5 fun x H1 I1 r1 q1=>thn (hb pins s1 σ H1 _ I1 q1) fun u s2=>xe5 fun y H2 I2 r2 q2 =>
  thn (ho pins s2 σ H2 x y v u _ I2 r1 r2 q2) fun c s3 ⟨z,H3,I3,r3,k,e,q3⟩ => ?_) hm
 subst e
 cases r3
 exact wpAny_truthy_bool ⟨H3,I3,q3⟩
noncomputable def TruV (K:PySem.W.Frag) (x:V) (H:Hp) (k:Bool):Prop :=
 match x with
 | .non=>k=false
 | .bl b=>k=b
 | .int i=>k=(i != 0)
 | .str y=>y.length ≤ sizeLine∧k=((y.length:Int) != 0)
 | .byt y=>y.size ≤ sizeLine∧k=((y.size:Int) != 0)
 | .ref p=>(∃ xs,SqL K H p xs∧k=!xs.isEmpty) ∨ (∃ xs,SqT K H p xs∧k=!xs.isEmpty) ∨ ∃ kvs,H p=some (.dK kvs)∧k=!kvs.isEmpty
 | _=>False
theorem zdn {κ:Type} {kvs:List (κ × V)} {vs:List (κ × Value)} (r:KV kvs vs):(!vs.isEmpty)=!kvs.isEmpty:=by
 cases r <;> rfl
theorem kP {xs:List V} {its:List Value} (r:Vals xs its):(!its.toArray.isEmpty)=!xs.isEmpty:=by
 cases r <;> simp
theorem vU:(sizeLine:Nat) < 2 ^ 63:=by rw [sizeLine_eq];decide
theorem zk7:TruR X (fun x H Q=>∃ k,TruV X.K x H k∧Q k H):=by
 intro pins s σ H x v Q I rx h
 obtain ⟨k,e,q⟩:=h
 have hl:=vU
 have hs:sizeLine=16777216:=sizeLine_eq
 cases x with
 | non =>
  cases rx
  have e' : k=false:=e
  subst e'
  exact truthy_none ⟨H,I,q⟩
 | bl b =>
  cases rx
  have e' : k=b:=e
  subst e'
  exact wpAny_truthy_bool ⟨H,I,q⟩
 | int i =>
  obtain ⟨t,rfl⟩:=rx
  have e' : k=(i != 0):=e
  subst e'
  exact PySem.P.truthy_int ⟨H,I,q⟩
 | str y =>
  obtain ⟨t,rfl⟩:=rx
  obtain ⟨hy,e'⟩:y.length ≤ sizeLine∧k=((y.length:Int) != 0):=e
  subst e'
  exact PySem.P.truthy_str (by omega) ⟨H,I.tok _,q⟩
 | byt y =>
  obtain ⟨t,rfl⟩:=rx
  obtain ⟨hy,e'⟩:y.size ≤ sizeLine∧k=((y.size:Int) != 0):=e
  subst e'
  exact PySem.W.truthy_bytes (by omega) ⟨H,I.tok _,q⟩
 | ref p =>
  cases rx
  have e' : (∃ xs,SqL X.K H p xs∧k=!xs.isEmpty) ∨ (∃ xs,SqT X.K H p xs∧k=!xs.isEmpty) ∨ ∃ kvs,H p=some (.dK kvs)∧k=!kvs.isEmpty:=e
  rcases e' with ⟨xs,hx,e'⟩ | ⟨xs,hx,e'⟩ | ⟨kvs,hx,e'⟩
  ·subst e'
   obtain ⟨its,r,pl,hz⟩:=I.list hx
   have hlen:=r.length
   exact wpAny_truthy_list pl.isList (by simp only [List.size_toArray];omega) ⟨H,I.tok _,by rw [kP r];exact q⟩
  ·subst e'
   obtain ⟨its,r,pl,hz⟩:=I.tuple hx
   have hlen:=r.length
   exact truthy_tuple pl (by simp only [List.size_toArray];omega) ⟨H,I.tok _,by rw [kP r];exact q⟩
  ·subst e'
   obtain ⟨hz,hS,vs,r,m⟩:kvs.length ≤ sizeLine∧(p == sysModules)=false∧∃ vs,KV kvs vs∧s.heap.DictOf (jK X.prog X.w) p vs:=I.hok p _ hx
   have hlen:kvs.length=vs.length:=Paired.length r
   exact wpAny_truthy_dict hS m (by omega) ⟨H,I.tok _,by rw [zdn r];exact q⟩
 | _=>exact (show False from e).elim
theorem zht (ha:PE X a ta) (he:∀ whole,isTrue a X.env whole=(do let v ← whole;standAt a.pos;holding [v] (truthy v))) :
  PT X a (fun σ H Q=>ta σ H fun x H'=>∃ k,TruV X.K x H' k∧Q k H'):=by
 intro pins s σ H Q I h
 exact isTrue_plain (thn (ha pins s σ H _ I h) fun v s1=>xe5 fun x H1 I1 r1 q1=>zk7 pins s1 σ H1 x v Q I1 r1 q1) (he _)
theorem vals1 {x:V} {us:List Value} (r:Vals [x] us):∃ u,us=[u]∧RelV x u:=by
 cases r with
 | cons r1 r2=>cases r2;exact ⟨_,rfl,r1⟩
theorem vals2 {x y:V} {us:List Value} (r:Vals [x,y] us):∃ u w',us=[u,w']∧RelV x u∧RelV y w':=by
 cases r with
 | cons r1 r2 =>
  cases r2 with
  | cons r3 r4=>cases r4;exact ⟨_,_,rfl,r1,r3⟩
theorem zed (hc:X.calm=true):wY X (.builtin "max") (fun xs H Q=>∃ i j,xs=[.int i,.int j]∧Q (.int (if j > i then j else i)) H):=by
 intro pins s σ H xs us Q I r h
 obtain ⟨i,j,rfl,q⟩:=h
 obtain ⟨u,w',rfl,⟨t,rfl⟩,⟨t',rfl⟩⟩:=vals2 r
 refine max_two_ints (I.ok.hd hc) fun h' tk k=>⟨_,H,I.kept k,?_,q⟩
 by_cases hj:j > i
 ·rw [if_pos hj,if_pos hj];exact ⟨_,rfl⟩
 ·rw [if_neg hj,if_neg hj];exact ⟨_,rfl⟩
theorem zee (hc:X.calm=true):wY X (.builtin "min") (fun xs H Q=>∃ i j,xs=[.int i,.int j]∧Q (.int (if j < i then j else i)) H):=by
 intro pins s σ H xs us Q I r h
 obtain ⟨i,j,rfl,q⟩:=h
 obtain ⟨u,w',rfl,⟨t,rfl⟩,⟨t',rfl⟩⟩:=vals2 r
 refine min_two_ints (I.ok.hd hc) fun h' tk k=>⟨_,H,I.kept k,?_,q⟩
 by_cases hj:j < i
 ·rw [if_pos hj,if_pos hj];exact ⟨_,rfl⟩
 ·rw [if_neg hj,if_neg hj];exact ⟨_,rfl⟩
end
end L2
namespace L2
open PySem PySem.Spec PyProof.Rows
structure ObjM (h:Heap) (x dx C:Addr) (mA:Str→Option Value):Prop where
 obj:h.get? x=some (PySem.W.instObj C dx)
 ns:h.Ns1 dx mA
 ne:dx ≠ x
theorem ze9 {h:Heap} {dx:Addr} {mA:Str→Option Value} (n:h.Ns1 dx mA):∃ od,h.get? dx=some od∧∀ name,PySem.W.lookIn name od=some (mA name):=by
 obtain ⟨o,es,ep,ho,hd,hk,_,hm⟩:=n
 refine ⟨o,ho,fun name => ?_⟩
 have e:=hm name
 unfold nsFind findBy at e
 rw [← Array.find?_toList] at e
 unfold PySem.W.lookIn
 rw [hd]
 dsimp only
 split
 ·rename_i y q
  rw [q] at e
  exact congrArg some e
 ·rename_i q
  rw [q] at e
  have a:es.toList.any (·.refKey)=false:=by
   rw [List.any_eq_false]
   intro y hy
   obtain ⟨z,t,hkey⟩:=hk y (Array.mem_toList_iff.mp hy)
   simp [DictEntry.refKey,hkey]
  have a' : ¬ es.toList.any (·.refKey)=true:=by rw [a];exact Bool.false_ne_true
  rw [if_neg a']
  exact congrArg some e
theorem ObjM.look {h:Heap} {x dx C:Addr} {mA:Str→Option Value} (I:ObjM h x dx C mA):∃ od,PySem.W.InstAt h x (PySem.W.instObj C dx) C (some od)∧∀ name,PySem.W.lookIn name od=some (mA name) :=
 let ⟨od,ho,hl⟩:=ze9 I.ns
 ⟨od,⟨I.obj,rfl,rfl,ho⟩,hl⟩
section
variable {prog:Program} {w:World} {A:Around} {E:Value→Shared→Prop} {s:Shared} {K:PySem.W.Frag} {x dx C f:Addr} {mA:Str→Option Value} {name:Str} {v:Value}
end
theorem RelO.some_of {v:V} {o:Option Value} (r:RelO (some v) o):∃ u,o=some u∧RelV v u:=by
 cases o with
 | none=>exact (show False from r).elim
 | some u=>exact ⟨u,rfl,r⟩
section
variable {P:Program} {w:World} {H H' : Hp} {h h' : Heap} {a C dx:Addr} {fs fs' : List (Str × V)}
theorem ziN (hok:HOk P w H h) (e:H a=some (.ins C dx fs)):∃ mA,ObjM h a dx C mA∧(∀ f,RelO (fs.lookup f) (mA f))∧PySem.Within mA (fs.map (·.1))∧fs.length ≤ 1000∧H dx=some (.own a):=by
 obtain ⟨d,z,ne,ob,mA,n,r,q⟩:=(show jG P w H h a (.ins C dx fs) from hok a _ e)
 exact ⟨mA,⟨ob,n,ne⟩,r,q,z,d⟩
end
structure Cls (K:PySem.W.Frag) (C:Addr):Prop where
 pg:PySem.W.plainGet K C Str.empty=true
 hd:PySem.W.hasDictIn K C=true
 po:PySem.W.plainOver K C=true
 sa:PySem.W.findIn K (.ref C) "__setattr__" = some (some (.builtin "object.__setattr__"))
theorem Cls.get {K:PySem.W.Frag} {C:Addr} (c:Cls K C) (f:Str):PySem.W.plainGet K C f=true:=c.pg
structure Con (K:PySem.W.Frag) (C:Addr) (f:Str) (v:V) (u:Value):Prop where
 at_:PySem.W.findIn K (.ref C) f=some (some u)
 rel:RelV v u
 get:PySem.W.specialIn K u "__get__" = some none
 cp:PySem.W.copiedNames.contains f=false
structure Meth (K:PySem.W.Frag) (C:Addr) (m:Str) (f:Addr):Prop where
 at_:PySem.W.findIn K (.ref C) m=some (some (.ref f))
 fn:PySem.W.isFn K (.ref f)=true
 kp:PySem.W.keepIn K (.ref f)=true
section
variable {X:Cx} {pins:List (Addr × Obj)} {σ:St} {H:Hp} {s:Shared} {a C dx:Addr} {fs:List (Str × V)} {f:Str} {v:V} {A:Around} {E:Value→Shared→Prop}
end
section
variable {X:Cx} {o e value:Expr} {f:Str} {pos pos' tpos:Pos} {ta tv:TE}
end
section
variable {X:Cx} {pins:List (Addr × Obj)} {σ:St} {H:Hp} {s:Shared} {A:Around} {E:Value→Shared→Prop} {Q:Value→Shared→Prop} {c:Value} {b:Bool}
inductive TyOf (K:PySem.W.Frag) (H:Hp):V→Value→Prop where
 | non:TyOf K H .non (.type "NoneType")
 | bl (x:Bool):TyOf K H (.bl x) (.type "bool")
 | int (i:Int):TyOf K H (.int i) (.type "int")
 | str (x:Str):TyOf K H (.str x) (.type "str")
 | flt (x:UInt64):TyOf K H (.flt x) (.type "float")
 | lst {a:Addr} {xs:List V} (e:H a=some (.lst xs)):TyOf K H (.ref a) (.type "list")
 | frz {a:Addr} {o:Obj} {xs:List V} (e:H a=some (.frz o (.lst xs))):TyOf K H (.ref a) (.type "list")
 | tup {a:Addr} {xs:List V} (e:H a=some (.tup xs)):TyOf K H (.ref a) (.type "tuple")
 | dK {a:Addr} {kvs:List (Key × V)} (e:H a=some (.dK kvs)):TyOf K H (.ref a) (.type "dict")
 | dT {a:Addr} {kvs:List (List Key × V)} (e:H a=some (.dT kvs)):TyOf K H (.ref a) (.type "dict")
 | ins {a C dx:Addr} {fs:List (Str × V)} (e:H a=some (.ins C dx fs)) (cl:Cls K C) (ha:PySem.W.findIn K (.ref C) "__class__" = some (some (.builtin "object.__class__")))
   (hn:PySem.W.specialIn K (.builtin "object.__class__") "__get__" = some (some (.builtin "getset_descriptor.__get__"))) (htk:PySem.W.takesIn K (.builtin "object.__class__")=some true)
   (hm:PySem.W.mroIn K C (.type "object")=some true):TyOf K H (.ref a) (.ref C)
theorem qV {x:V} {u t:Value} (I:Inv X pins σ H s) (rx:RelV x u) (ty:TyOf X.K H x t) (e:PySem.W.kitOne X.K t c=some b) (h:∀ tk,Q (.bool b) { s with toks:=tk }) :
  wpAny (model X.prog X.w) A (call (.builtin "isinstance") [u,c]) Q E s:=by
 cases ty with
 | non=>cases (show u=Value.none from rx);exact PySem.W.kia_one PySem.W.kitx_none I.kIn True.intro e (fun z=>nomatch z) h
 | bl y=>cases (show u=Value.bool y from rx);exact PySem.W.kia_one PySem.W.kitx_bool I.kIn True.intro e (fun z=>nomatch z) h
 | int i=>obtain ⟨t,q⟩:=(show ∃ t,u=Value.int i t from rx);cases q;exact PySem.W.kia_one PySem.W.kitx_int I.kIn True.intro e (fun z=>nomatch z) h
 | str y=>obtain ⟨t,q⟩:=(show ∃ t,u=Value.str y t from rx);cases q;exact PySem.W.kia_one PySem.W.kitx_str I.kIn True.intro e (fun z=>nomatch z) h
 | flt y=>obtain ⟨t,q⟩:=(show ∃ t,u=Value.float y t from rx);cases q;exact PySem.W.kia_one PySem.W.kitx_float I.kIn True.intro e (fun z=>nomatch z) h
 | @lst a xs ea =>
  cases (show u=Value.ref a from rx)
  obtain ⟨_,_,n,_,h1⟩:=(show jG X.prog X.w H s.heap a (.lst xs) from I.hok a _ ea)
  exact PySem.W.kia_one PySem.W.kitx_list I.kIn ⟨_,h1,rfl⟩ e (fun z=>nomatch z) h
 | @frz a ob xs ea =>
  cases (show u=Value.ref a from rx)
  obtain ⟨_,_,_,n,_,h1⟩:=(show jG X.prog X.w H s.heap a (.frz ob (.lst xs)) from I.hok a _ ea)
  exact PySem.W.kia_one PySem.W.kitx_list I.kIn ⟨_,h1,rfl⟩ e (fun z=>nomatch z) h
 | @tup a xs ea =>
  cases (show u=Value.ref a from rx)
  obtain ⟨_,_,_,p⟩:=(show jG X.prog X.w H s.heap a (.tup xs) from I.hok a _ ea)
  obtain ⟨o,h1,h2,_⟩:=p
  exact PySem.W.kia_one PySem.W.kitx_tuple I.kIn ⟨o,h1,h2⟩ e (fun z=>nomatch z) h
 | @dK a kvs ea =>
  cases (show u=Value.ref a from rx)
  obtain ⟨_,_,vs,_,p⟩:=(show jG X.prog X.w H s.heap a (.dK kvs) from I.hok a _ ea)
  obtain ⟨o,es,ep,h1,h2,_⟩:=p
  exact PySem.W.kia_one PySem.W.kitx_dict I.kIn ⟨o,h1,h2.1⟩ e (fun z=>nomatch z) h
 | @dT a kvs ea =>
  cases (show u=Value.ref a from rx)
  obtain ⟨_,_,xs,_,o,es,ep,h1,h2,_⟩:=(show jG X.prog X.w H s.heap a (.dT kvs) from I.hok a _ ea)
  exact PySem.W.kia_one PySem.W.kitx_dict I.kIn ⟨o,h1,h2.1⟩ e (fun z=>nomatch z) h
 | @ins a C dx fs ea cl ha hn htk hm =>
  cases (show u=Value.ref a from rx)
  obtain ⟨mA,O,_⟩:=ziN I.hok ea
  obtain ⟨od,J,_⟩:=O.look
  exact PySem.W.kia_one (PySem.W.kitx_own (cl.get _) cl.hd ha hn htk hm) I.kIn J e (fun z=>nomatch z) h
end
end L2
namespace L2
open PySem PySem.Spec PyProof.Rows
structure Room (k:Nat) (A:Around):Prop where
 hd:A.handled=none
 dp:A.depth + 3 * k + 5 < recursionLimit
 un:A.units + 16 * k + 200 < cLine
theorem Room.mono {j k:Nat} {A:Around} (r:Room k A) (h:j ≤ k):Room j A:=⟨r.hd,by have:=r.dp;omega,by have:=r.un;omega⟩
theorem Room.deeper {k:Nat} {A:Around} (r:Room (k + 1) A) (env:Env):Room k (A.deeper env) :=
 ⟨r.hd,by have:=r.dp;show A.depth + 1 + 3 * k + 5 < _;omega,by have:=r.un;show A.units + 3 + 16 * k + 200 < _;omega⟩
theorem Room.in1 {k:Nat} {A:Around} (r:Room (k + 1) A):Room k A.in1 :=
 ⟨r.hd,by have:=r.dp;show A.depth + 3 * k + 5 < _;omega,by have:=r.un;show A.units + 1 + 16 * k + 200 < _;omega⟩
theorem Room.depth {k:Nat} {A:Around} (r:Room k A):A.depth < recursionLimit:=by have:=r.dp;omega
theorem Room.units {k:Nat} {A:Around} (r:Room k A):A.units + 64 < cLine:=by have:=r.un;omega
noncomputable def tNil:TA:=fun _ H Q=>Q [] H
noncomputable def zlE (ta:TE) (tr:TA):TA:=fun σ H Q=>ta σ H fun x H1=>tr σ H1 fun xs H2=>Q (x :: xs) H2
section
variable {X:Cx} {e:Expr} {es:List Expr} {te:TE} {t:TA} {pos:Pos}
theorem zbu:PA X [] tNil:=fun _ _ _ _ H Q I h=>Calls.spliced_nil ⟨[],H,I,.nil,h⟩
theorem yo (ha:PE X e te) (hr:PA X es t) (hs:autoParam (starEach (e :: es) X.env=(false,eval e X.env) :: starEach es X.env) aTc):PA X (e :: es) (zlE te t):=by
 intro pos pins s σ H Q I h
 rw [hs]
 show wpAny _ _ (spliced ((false,eval e X.env) :: backTo pos (starEach es X.env))) _ _ s
 refine Calls.spliced_cons (thn (ha pins s σ H _ I h) fun u s1=>xe5 fun x H1 I1 r1 q1 => ?_)
 exact thn (hr pos pins s1 σ H1 _ I1 q1) fun us s2=>xe5 fun xs H2 I2 r2 q2=>⟨x :: xs,H2,I2,.cons r1 r2,q2⟩
noncomputable def tTup (t:TA):TE:=fun σ H Q=>t σ H fun xs H1=>xs.length ≤ sizeLine∧∀ p,H1 p=none→Q (.ref p) (upd H1 p (.tup xs))
noncomputable def tLst (t:TA):TE:=fun σ H Q=>t σ H fun xs H1=>xs.length ≤ sizeLine∧∀ p,H1 p=none→Q (.ref p) (upd H1 p (.lst xs))
theorem zkI {x1} (h:PA X es t):PE X (.Tuple es x1 pos) (tTup t):=by
 intro pins s σ H Q I hq
 refine wpAny_Tuple_spliced (thn (h pos pins s σ H _ I hq) fun us s1 ⟨xs,H1,I1,r,z,q⟩=>⟨by rw [← r.length];exact z,?_⟩)
 have hf:H1 s1.heap.objs.size=none:=I1.hok.fresh (Nat.le_refl _)
 refine ⟨.ref s1.heap.objs.size,upd H1 s1.heap.objs.size (.tup xs),I1.laid (t':=s1.toks) (fun b u e=>Heap.get?_push_of_some _ e) (Nat.le_refl _) ?_,rfl,q _ hf⟩
 exact ⟨z,us,r,⟨_,Heap.get?_push_size _ rfl,rfl,_,rfl⟩⟩
theorem zkG (h:PA X es t):PE X (.List es pos) (tLst t):=by
 intro pins s σ H Q I hq
 refine wpAny_List_spliced (thn (h pos pins s σ H _ I hq) fun us s1 ⟨xs,H1,I1,r,z,q⟩=>⟨by rw [← r.length];exact z,?_⟩)
 have hf:H1 s1.heap.objs.size=none:=I1.hok.fresh (Nat.le_refl _)
 refine ⟨.ref s1.heap.objs.size,upd H1 s1.heap.objs.size (.lst xs),I1.laid (t':=s1.toks) (fun b u e=>Heap.get?_push_of_some _ e) (Nat.le_refl _) ?_,rfl,q _ hf⟩
 exact ⟨z,us,0,r,Heap.get?_push_size _ rfl⟩
end
noncomputable abbrev Sp:=List V→Hp→VK→XK→Prop
noncomputable abbrev CXT:=List Env→Hp→Shared→XK→Value→Shared→Prop
structure Env0 (P:Program) (w:World) (K:PySem.W.Frag) (mg:Str→Option Value) (base:Heap) (A:Around) (outer:List Env) (s:Shared) (H:Hp):Prop where
 frames:A.frames=some outer
 mod:Mod K mg base
 bs:∀ b o,base.get? b=some o→s.heap.get? b=some o∧H b=none
 bsz:base.objs.size ≤ s.heap.objs.size
 funs:s.heap.FunFrames base outer
 frf:∀ b ∈ frs outer,H b=none
 hok:HOk P w H s.heap
 bare:AllBare s.gens
noncomputable def CE (outer:List Env) (P:Program) (w:World) (H:Hp) (s:Shared) (Q:VK) (u:Value) (s' : Shared):Prop :=
 ∃ v H',s'.os=s.os∧AllBare s'.gens∧Un (frs outer) [] H H' s.heap s'.heap∧HOk P w H' s'.heap∧RelV v u∧Q v H'
noncomputable def CR (CX:CXT) (outer:List Env) (P:Program) (w:World) (H:Hp) (s:Shared) (Q:VK) (E:XK) (r:Result) (s' : Shared):Prop :=
 match r with
 | .ok (.ret u)=>CE outer P w H s Q u s'
 | .ok _=>False
 | .error e=>CX outer H s E e s'
structure FnOk (P:Program) (w:World) (K:PySem.W.Frag) (mg:Str→Option Value) (base:Heap) (CX:CXT) (k:Nat) (f:Addr) (fd:FuncData) (ps:List Str) (sp:Sp):Prop where
 len:∀ vs H Q E,sp vs H Q E→vs.length=ps.length
 run:∀ (A:Around) (outer:List Env) (s:Shared) (H:Hp) (args:Args) (us:List Value) (vs:List V) (Q:VK) (E:XK),Room k A→Env0 P w K mg base A outer s H→BindsTo s fd args (ps.zip us)→Vals vs us→sp vs H Q E →
  codeAny (model P w) A (.call (.ref f) args) (CR CX outer P w H s Q E) s
theorem FnOk.mono {P:Program} {w:World} {K:PySem.W.Frag} {mg:Str→Option Value} {base:Heap} {CX:CXT} {j k:Nat} {f:Addr} {fd:FuncData} {ps:List Str} {sp:Sp} (F:FnOk P w K mg base CX j f fd ps sp) (h:j ≤ k) :
  FnOk P w K mg base CX k f fd ps sp:=⟨F.len,fun A outer s H args us vs Q E hr=>F.run A outer s H args us vs Q E (hr.mono h)⟩
theorem FnOk.imp {P:Program} {w:World} {K:PySem.W.Frag} {mg:Str→Option Value} {base:Heap} {CX:CXT} {k:Nat} {f:Addr} {fd:FuncData} {ps:List Str} {sp sp' : Sp} (F:FnOk P w K mg base CX k f fd ps sp)
  (h:∀ vs H Q E,sp' vs H Q E→sp vs H Q E):FnOk P w K mg base CX k f fd ps sp' :=
 ⟨fun vs H Q E q=>F.len vs H Q E (h _ _ _ _ q),fun A outer s H args us vs Q E hr he hb hv hs=>F.run A outer s H args us vs Q E hr he hb hv (h _ _ _ _ hs)⟩
theorem Env0.in1 {P:Program} {w:World} {K:PySem.W.Frag} {mg:Str→Option Value} {base:Heap} {A:Around} {outer:List Env} {s:Shared} {H:Hp} (e:Env0 P w K mg base A outer s H) :
  Env0 P w K mg base A.in1 outer s H:=⟨e.frames,e.mod,e.bs,e.bsz,e.funs,e.frf,e.hok,e.bare⟩
section
variable {X:Cx} {pins:List (Addr × Obj)} {σ:St} {H:Hp} {s s' : Shared}
theorem Inv.env0 (I:Inv X pins σ H s):Env0 X.prog X.w X.K X.mg X.base X.A X.stack s H :=
 ⟨I.ok.frames,I.ok.mod,I.bs,Nat.le_trans I.ok.bsz I.sz,I.stack,I.stkFree,I.hok,I.bare⟩
theorem Inv.after {Q:VK} {u:Value} (I:Inv X pins σ H s) (h:CE X.stack X.prog X.w H s Q u s'):EP X pins σ Q u s':=by
 obtain ⟨v,H',os,bare,un,hok,r,q⟩:=h
 obtain ⟨hh,g,d,t,os'⟩:=s'
 obtain rfl:os'=s.os:=os
 exact ⟨v,H',I.call (h':=hh) (g':=g) (d':=d) (t':=t) (ch:=[]) un hok bare (fun b z=>absurd z (by simp)),r,q⟩
end
noncomputable def zlD (sp:Sp) (dvs:List V) (E:XK) (t:TA):TE:=fun σ H Q=>t σ H fun vs H1=>sp (vs ++ dvs) H1 Q E
noncomputable def Binds (K:PySem.W.Frag) (fd:FuncData) (ps:List Str) (ds:List Value):Prop :=
 ∀ (s:Shared) (us:List Value),K.In s.heap→(us ++ ds).length=ps.length→BindsTo s fd ⟨us,[]⟩ (ps.zip (us ++ ds))
theorem Binds.all {K:PySem.W.Frag} {fd:FuncData} {ps:List Str} (h:∀ us:List Value,us.length=ps.length→bindArgs fd ⟨us,[]⟩=pure (ps.zip us)):Binds K fd ps []:=fun s us _ hl=>by
 rw [List.append_nil] at hl ⊢
 exact .of_eq (h us hl)
noncomputable def zdU (CX:CXT) (X:Cx) (E:XK):Prop:=∀ (pins:List (Addr × Obj)) (σ:St) (H:Hp) (s:Shared) (e:Value) (s' : Shared),Inv X pins σ H s→CX X.stack H s E e s'→X.xe e s'
section
variable {X:Cx} {CX:CXT} {k:Nat} {f C:Addr} {fd:FuncData} {ps:List Str} {sp:Sp} {dvs:List V} {ds:List Value} {E:XK} {x m:Str} {p pos apos:Pos} {e o:Expr} {es:List Expr} {ta:TE} {t:TA}
theorem zkY {pins:List (Addr × Obj)} {σ:St} {H:Hp} {s:Shared} {Q:VK} {us:List Value} {vs:List V} (F:FnOk X.prog X.w X.K X.mg X.base CX k f fd ps sp) (hr:Room k X.A) (hb:Binds X.K fd ps ds) (hd:Vals dvs ds) (hx:zdU CX X E)
  (I:Inv X pins σ H s) (r:Vals vs us) (h:sp (vs ++ dvs) H Q E):wpAny (model X.prog X.w) X.A (call (.ref f) us) (EP X pins σ Q) X.xe s:=by
 have r2:Vals (vs ++ dvs) (us ++ ds):=r.append hd
 have hl:(us ++ ds).length=ps.length:=by rw [← r2.length];exact F.len _ _ _ _ h
 refine wpAny_call (codeAny_mono (F.run X.A X.stack s H ⟨us,[]⟩ (us ++ ds) (vs ++ dvs) Q E hr I.env0 (hb s us I.kIn hl) r2 h) fun r s' hq => ?_)
 cases r with
 | error e=>exact hx pins σ H s e s' I hq
 | ok fl =>
  cases fl with
  | ret u=>exact I.after hq
  | next=>exact False.elim hq
  | brk=>exact False.elim hq
  | cont=>exact False.elim hq
theorem zjf (F:FnOk X.prog X.w X.K X.mg X.base CX k f fd ps sp) (hr:Room k X.A) (hg:Gl X x) (hm:X.mg x=some (.ref f)) (hk:PySem.W.keepIn X.K (.ref f)=true) (hb:Binds X.K fd ps ds) (hd:Vals dvs ds) (hx:zdU CX X E)
  (ha:PA X (e :: es) t) (hdb:autoParam ((x == ("__debug__" : Str))=false) aTb) (he:autoParam (starEach (e :: es) X.env=(false,eval e X.env) :: starEach es X.env) aTc) (hpl:autoParam ((backTo pos (starEach es X.env)).any (·.1)=false) aTc) :
  PE X (.Call (.Name x p) (e :: es) [] pos) (zlD sp dvs E t):=by
 intro pins s σ H Q I h
 refine wpAny_Call_Name_kw (ziY I hg hm ?_ hdb)
 refine PySem.W.callWith_K (h₀:=X.base) I.ok.mod.kin hk (thn (ha pos pins s σ H _ I h) fun us s1=>xe5 fun vs H1 I1 r q=>⟨I1.kIn,?_⟩) he hpl
 exact zkY F hr hb hd hx I1 r q
structure Mk (K:PySem.W.Frag) (C f:Addr):Prop where
 makes:PySem.W.makesIn K C=true
 init:PySem.W.findIn K (.ref C) "__init__" = some (some (.ref f))
 fn:PySem.W.isFn K (.ref f)=true
 kp:PySem.W.keepIn K (.ref C)=true
end
section
variable {X:Cx} {CX:CXT} {k:Nat} {f C:Addr} {fd:FuncData} {ps ks:List Str} {sp:Sp} {E:XK} {x m:Str} {p pos apos kpos:Pos} {e o:Expr} {es:List Expr} {kws:List Keyword} {te ta:TE} {t tk:TA} {nm:Option Str}
structure KBinds (K:PySem.W.Frag) (fd:FuncData) (ps ks:List Str) (g:List Value→List Value→List Value) (gV:List V→List V→List V):Prop where
 to:∀ (s:Shared) (us ws:List Value),K.In s.heap→(g us ws).length=ps.length→BindsTo s fd ⟨us,ks.zip ws⟩ (ps.zip (g us ws))
 rel:∀ {vs:List V} {us:List Value} {zs:List V} {ws:List Value},Vals vs us→Vals zs ws→Vals (gV vs zs) (g us ws)
variable {g:List Value→List Value→List Value} {gV:List V→List V→List V}
end
structure FnScope (N P:List Str) (sc:Scope):Prop where
 kind:sc.kind=.function
 co:sc.isCoroutine=false
 gen:sc.isGenerator=false
 nd:N.Nodup
 pre:N.take P.length=P
 par:∀ x ∈ P,sc.names.lookup x=some .local ∨ sc.names.lookup x=some .cell
 nofree:∀ y ∈ sc.names,y.2 ≠ .free
theorem za3 {kindOf:Str→Option NameKind} {x:Str}:∀ {binds:List (Str × Value)} {m:Str→Option Value},(∀ v,(x,v) ∉ binds)→bindL kindOf binds m x=m x
 | [],_,_=>rfl
 | (n,v) :: r,m,h=>by
  unfold bindL
  rw [za3 fun w hw=>h w (List.mem_cons_of_mem _ hw)]
  split
  ·have:x ≠ n:=by rintro rfl;exact h v List.mem_cons_self
   simp [this]
  ·rfl
theorem za1 {kindOf:Str→Option NameKind} {x:Str}:∀ {binds:List (Str × Value)} {m:Str→Option Value},(∀ v,(x,v) ∉ binds)→bindC kindOf binds m x=m x
 | [],_,_=>rfl
 | (n,v) :: r,m,h=>by
  unfold bindC
  rw [za1 fun w hw=>h w (List.mem_cons_of_mem _ hw)]
  split
  ·rfl
  ·have:x ≠ n:=by rintro rfl;exact h v List.mem_cons_self
   simp [this]
theorem za2 {kindOf:Str→Option NameKind} {x:Str} {v:Value}:∀ {P:List Str} {vs:List Value} {i:Nat} {m:Str→Option Value},P.Nodup→P[i]?=some x→vs[i]?=some v→kindOf x=some .local →
  bindL kindOf (P.zip vs) m x=some v
 | [],_,_,_,_,h,_,_=>by simp at h
 | _ :: _,[],_,_,_,_,h,_=>by simp at h
 | p :: P,w :: vs,0,m,nd,h1,h2,hk=>by
  simp at h1 h2;subst h1;subst h2
  show bindL kindOf ((p,w) :: P.zip vs) m p=_
  unfold bindL
  rw [za3 fun v hv=>(List.nodup_cons.mp nd).1 (List.of_mem_zip hv).1,if_pos hk]
  simp
 | p :: P,w :: vs,i + 1,m,nd,h1,h2,hk=>by
  show bindL kindOf ((p,w) :: P.zip vs) m x=_
  unfold bindL
  exact za2 (i:=i) (List.nodup_cons.mp nd).2 (by simpa using h1) (by simpa using h2) hk
theorem za0 {kindOf:Str→Option NameKind} {x:Str} {v:Value}:∀ {P:List Str} {vs:List Value} {i:Nat} {m:Str→Option Value},P.Nodup→P[i]?=some x→vs[i]?=some v→kindOf x ≠ some .local →
  bindC kindOf (P.zip vs) m x=some v
 | [],_,_,_,_,h,_,_=>by simp at h
 | _ :: _,[],_,_,_,_,h,_=>by simp at h
 | p :: P,w :: vs,0,m,nd,h1,h2,hk=>by
  simp at h1 h2;subst h1;subst h2
  show bindC kindOf ((p,w) :: P.zip vs) m p=_
  unfold bindC
  rw [za1 fun v hv=>(List.nodup_cons.mp nd).1 (List.of_mem_zip hv).1,if_neg hk]
  simp
 | p :: P,w :: vs,i + 1,m,nd,h1,h2,hk=>by
  show bindC kindOf ((p,w) :: P.zip vs) m x=_
  unfold bindC
  exact za0 (i:=i) (List.nodup_cons.mp nd).2 (by simpa using h1) (by simpa using h2) hk
noncomputable def start (N:List Str) (vs:List V):St:=vs.map some ++ List.replicate (N.length - vs.length) none
noncomputable def cxOf (CX:CXT) (P:Program) (w:World) (K:PySem.W.Frag) (mg:Str→Option Value) (base:Heap) (N:List Str) (qual:Str) (scope:Scope) (f:Addr) (cd:Value) (A:Around) (outer:List Env) (s:Shared) (H:Hp) (E:XK):Cx where
 prog:=P
 w:=w
 K:=K
 mg:=mg
 base:=base
 A:=A.deeper (envOfC qual scope s.heap.objs.size f cd)
 N:=N
 s₀:=s
 H₀:=H
 env:=envOfC qual scope s.heap.objs.size f cd
 outer:=outer
 stack:=envOfC qual scope s.heap.objs.size f cd :: outer
 ex:=[]
 calm:=true
 fn:=fun _=>true
 pn:=[]
 xe:=fun e s'=>wpAny (model P w) (A.deeper (envOfC qual scope s.heap.objs.size f cd)) (leaving (envOfC qual scope s.heap.objs.size f cd) e) (fun _ s''=>CX outer H s E e s'') (fun e' s''=>CX outer H s E e' s'') s'
theorem zcq {sc:Scope} {n:Nat} {x:Str} (h:sc.names.lookup x=some .cell):∃ c,(cellsFrom n sc.names []).lookup x=some c:=by
 have q:=PySem.W.cellsFrom_some sc.names n [] (.inl h)
 exact Option.isSome_iff_exists.mp q
theorem zeN {CX:CXT} {P:Program} {w:World} {K:PySem.W.Frag} {mg:Str→Option Value} {base:Heap} {N ps:List Str} {qual:Str} {scope:Scope} {f:Addr} {cd:Value} {A:Around} {outer:List Env} {s s1:Shared} {H:Hp} {E:XK} {us:List Value} {vs:List V}
  (S:FnScope N ps scope) (hd:A.handled=none) (e0:Env0 P w K mg base A outer s H) (hl:vs.length=ps.length) (r:Vals vs us)
  (x:InCallC s s.heap.objs.size (bindL (envOfC qual scope s.heap.objs.size f cd).kindOf (ps.zip us) fun _=>none) (cellsFrom (s.heap.objs.size + 1) scope.names []) (bindC (envOfC qual scope s.heap.objs.size f cd).kindOf (ps.zip us) fun _=>none) s1) :
  Inv (cxOf CX P w K mg base N qual scope f cd A outer s H E) [] (start N vs) H s1:=by
 have hpl:ps.length ≤ N.length:=by have:=congrArg List.length S.pre;rw [List.length_take] at this;omega
 obtain ⟨h1,tk,rfl,hk⟩:=x.done
 have noA:∀ b:Addr,b ∉ (cxOf CX P w K mg base N qual scope f cd A outer s H E).ex:=fun b z=>absurd (show b ∈ ([]:List Addr) from z) (by simp)
 refine ⟨⟨e0.mod,S.kind,rfl,rfl,Nat.le_refl _,fun y z c h1 h2 => ?_,fun y hy => ?_,fun y c _ h => ?_,fun _=>hd,Around.frames_deeper e0.frames,.inr ⟨rfl,rfl⟩,fun b z=>absurd z (noA b),e0.bs,e0.bsz,fun b _ _=>noA b,fun b z=>absurd z (noA b),e0.funs,e0.frf⟩,
  rfl,e0.bare,Un.kept hk,⟨_,x.toInCall.ns,fun i y v h1 h2 h3 => ?_⟩,fun y c h=>⟨_,x.cell y c h⟩,e0.hok.fresh (Nat.le_refl _),fun y c h => ?_,fun p hp=>absurd (show p ∈ ([]:List (Addr × Obj)) from hp) (by simp),e0.hok.kept hk,?_⟩
 ·exact name_of_addr x.apart (PySem.mem_of_lookup h1) (PySem.mem_of_lookup h2)
 ·have hy:scope.names.lookup y=some .cell ∨ scope.names.lookup y=some .free:=hy
  rcases hy with hy | hy
  ·exact zcq hy
  ·exact absurd rfl (S.nofree _ (PySem.mem_of_lookup hy))
 ·exact Nat.le_of_lt (x.above y c (PySem.mem_of_lookup h))
 ·have hi:i < vs.length:=by
   unfold start at h2
   by_cases hi:i < vs.length
   ·exact hi
   ·rw [List.getElem?_append_right (by simpa using hi)] at h2
    rw [List.getElem?_replicate] at h2
    split at h2 <;> cases h2
  have ha:vs[i]?=some v:=by
   unfold start at h2
   rw [List.getElem?_append_left (by simpa using hi),List.getElem?_map] at h2
   cases e:vs[i]? with
   | none=>rw [e] at h2;cases h2
   | some a=>rw [e] at h2;cases h2;rfl
  obtain ⟨u,hu,rv⟩:=r.get ha
  have hp:ps[i]?=some y:=by
   rw [← S.pre,List.getElem?_take_of_lt (by omega)];exact h1
  have ndP:ps.Nodup:=by rw [← S.pre];exact S.nd.sublist (List.take_sublist _ _)
  refine ⟨u,rv,?_⟩
  rcases S.par y (List.mem_of_getElem? hp) with k | k
  ·exact .inl ⟨k,za2 ndP hp hu k⟩
  ·obtain ⟨c,e⟩:=zcq (n:=s.heap.objs.size + 1) k
   refine .inr ⟨.inl k,c,e,?_⟩
   have q:=x.cell y c e
   rw [za0 ndP hp hu (by show scope.names.lookup y ≠ _;rw [k];decide)] at q
   exact q
 ·exact e0.hok.fresh (Nat.le_of_lt (x.above y c (PySem.mem_of_lookup h)))
 ·unfold start
  show _=N.length
  rw [List.length_append,List.length_map,List.length_replicate]
  omega
theorem zlh {CX:CXT} {P:Program} {w:World} {K:PySem.W.Frag} {mg:Str→Option Value} {base:Heap} {k:Nat} {f:Addr} {name qual:Str} {params:Arguments} {body:List Stmt} {scope:Scope} {dV kV doc pm cdv ct oc:Value} {an od:Option Addr}
  {osl:Array (Option Value)} {N ps:List Str} {sp:Sp} (lk:K.lookup f=some ⟨oc,od,.func (PySem.W.fnOf name qual params body scope dV kV doc pm an cdv ct),osl⟩) (hcd:PySem.W.codeIn K cdv qual=true) (S:FnScope N ps scope)
  (len:∀ vs H Q E,sp vs H Q E→vs.length=ps.length)
  (hbody:∀ (A:Around) (outer:List Env) (s:Shared) (H:Hp) (vs:List V) (Q:VK) (E:XK),Room k (A.deeper (envOfC qual scope s.heap.objs.size f cdv))→sp vs H Q E →
   ∃ t,PSs (cxOf CX P w K mg base N qual scope f cdv A outer s H E) body t∧t { nx:=fun _ H'=>Q .non H',rt:=Q } (start N vs) H) :
  FnOk P w K mg base CX (k + 1) f (PySem.W.fnOf name qual params body scope dV kV doc pm an cdv ct) ps sp:=by
 refine ⟨len,fun A outer s H args us vs Q E hr e0 hb r hsp => ?_⟩
 have hl:=len _ _ _ _ hsp
 have KX:K.In s.heap:=e0.mod.kin.keeps fun b o e=>(e0.bs b o e).1
 have lim:s.heap.NoLimit:=e0.mod.nolimit.keeps fun b o e=>(e0.bs b o e).1
 have hkind:∀ y ∈ ps.zip us,scope.names.lookup y.1=some .local ∨ (scope.names.lookup y.1=some .cell∧((cellsFrom (s.heap.objs.size + 1) scope.names []).lookup y.1).isSome=true):=fun ⟨n,v⟩ hy=>by
  rcases S.par n (List.of_mem_zip hy).1 with q | q
  ·exact .inl q
  ·exact .inr ⟨q,PySem.W.cellsFrom_some _ _ _ (.inl q)⟩
 refine codeAny_call_function hr.depth (KX _ _ lk) rfl S.co S.gen rfl (PySem.W.codeRec_of KX hcd) (hb _ _ _ _ ?_)
 refine wpAny_newFunctionEnv_cells S.kind hkind fun env he s1 x => ?_
 subst he
 refine ⟨lim.keeps x.toInCall.keep,codeAny_func ?_⟩
 obtain ⟨t,ht,hq⟩:=hbody A outer s H vs Q E (hr.deeper _) hsp
 have I:Inv (cxOf CX P w K mg base N qual scope f cdv A outer s H E) [] (start N vs) H s1:=zeN S hr.hd e0 hl r x
 refine wpAny_mono (ht [] s1 (start N vs) H _ I hq) (fun fl s' hs => ?_) fun e s' hs=>hs
 have fin:∀ {σ' : St} {H' : Hp} {v:V} {u:Value},Inv (cxOf CX P w K mg base N qual scope f cdv A outer s H E) [] σ' H' s'→RelV v u→Q v H'→CE outer P w H s Q u s' :=
  fun {σ' H' v u} J rv q=>⟨v,H',J.os,J.bare,J.base,J.hok,rv,q⟩
 cases fl with
 | ret u =>
  obtain ⟨v,σ',H',J,rv,q⟩:=hs
  exact fin J rv q
 | next =>
  obtain ⟨σ',H',J,q⟩:=hs
  exact fin (v:=V.non) (u:=Value.none) J rfl q
 | brk =>
  obtain ⟨_,_,_,q⟩:=hs
  exact False.elim q
 | cont =>
  obtain ⟨_,_,_,q⟩:=hs
  exact False.elim q
end L2
namespace L2
open PySem PySem.Spec PyProof.Rows
section
variable {X:Cx} {x:Str} {p pos:Pos} {e:Expr} {es:List Expr} {t:TA} {id T:String} {r:List V→Hp→VK→Prop}
noncomputable def tCB (r:List V→Hp→VK→Prop) (t:TA):TE:=fun σ H Q=>t σ H fun vs H1=>r vs H1 Q
theorem zaK (hc:wY X (.builtin id) r) (hg:Gl X x) (hm:X.mg x=none) (hv:bootBuiltins x=some (.builtin id)) (ha:PA X (e :: es) t) (hn:autoParam (x ≠ "__name__") aTb) (hdb:autoParam ((x == ("__debug__" : Str))=false) aTb)
  (he:autoParam (starEach (e :: es) X.env=(false,eval e X.env) :: starEach es X.env) aTc) (hpl:autoParam ((backTo pos (starEach es X.env)).any (·.1)=false) aTc):PE X (.Call (.Name x p) (e :: es) [] pos) (tCB r t):=by
 intro pins s σ H Q I h
 refine wpAny_Call_Name_kw (xo I hg hm hv ?_ hn hdb)
 exact PyProof.Rows.callWith_builtin1 (thn (ha pos pins s σ H _ I h) fun us s1=>xe5 fun vs H1 I1 r1 q1=>hc pins s1 σ H1 vs us Q I1 r1 q1) he hpl
theorem zfn (hc:wY X (.type T) r) (hg:Gl X x) (hm:X.mg x=none) (hv:bootBuiltins x=some (.type T)) (ha:PA X (e :: es) t) (hn:autoParam (x ≠ "__name__") aTb) (hdb:autoParam ((x == ("__debug__" : Str))=false) aTb)
  (he:autoParam (starEach (e :: es) X.env=(false,eval e X.env) :: starEach es X.env) aTc) (hpl:autoParam ((backTo pos (starEach es X.env)).any (·.1)=false) aTc):PE X (.Call (.Name x p) (e :: es) [] pos) (tCB r t):=by
 intro pins s σ H Q I h
 refine wpAny_Call_Name_kw (xo I hg hm hv ?_ hn hdb)
 exact PyProof.Rows.callWith_type1 (thn (ha pos pins s σ H _ I h) fun us s1=>xe5 fun vs H1 I1 r1 q1=>hc pins s1 σ H1 vs us Q I1 r1 q1) he hpl
end
end L2
namespace HT
open PySem PyProof.Rows
theorem lexLt_cons (x y:Int) (xs ys:List Int):lexLt (x :: xs) (y :: ys)=if x=y then lexLt xs ys else decide (x < y):=rfl
section
open PySem.SeqAt
open PySem.AutoSeq1 (wpAny_loadPart')
open PySem.MeetsSeq PySem.MeetsSeq2 PySem.MeetsSeq3
end
section
variable {prog:Program} {w:World} {A:Around} {E:Value→Shared→Prop} {s:Shared}
theorem cat_tup {t b:Addr} {vs ws:List Value} {Q:Value→Shared→Prop} (ht:IsTup s.heap t vs.toArray) (hb:IsTup s.heap b ws.toArray) (hv:vs ≠ [])
  (h1:ws=[]→Q (.ref t) s) (h2:ws ≠ []→Q (.ref s.heap.objs.size) { s with heap:=s.heap.push { cls:=.type "tuple",data:=.seq (vs ++ ws).toArray } })
  (hsz:vs.length + ws.length ≤ sizeLine):wpAny (model prog w) A (binaryOp .Add (.ref t) (.ref b)) Q E s:=by
 obtain ⟨⟨cls,dd,data,sl⟩,ho,hc,n,hd⟩:=id ht
 obtain ⟨⟨cls2,dd2,data2,sl2⟩,ho2,hc2,n2,hd2⟩:=id hb
 simp only at hc hd hc2 hd2
 subst hc hd hc2 hd2
 have e:vs.toArray ++ ws.toArray=(vs ++ ws).toArray:=by simp
 by_cases hw:ws=[]
 ·exact concat_meets ⟨_,ho,rfl⟩ ⟨_,ho2,rfl⟩ noFill_tuple_add seq_tuple_add PySem.F.slot_tuple_add PySem.F.entry_tuple_add (PySem.F.args_tuple_add_2 _ _)
   (tuple_addW1 t b vs.toArray ws.toArray n n2 dd dd2 sl sl2 (by simpa using hv) (by simp [hw])) ⟨ho,ho2,h1 hw⟩
 ·refine concat_meets ⟨_,ho,rfl⟩ ⟨_,ho2,rfl⟩ noFill_tuple_add seq_tuple_add PySem.F.slot_tuple_add PySem.F.entry_tuple_add (PySem.F.args_tuple_add_2 _ _)
   (tuple_addW2 t b vs.toArray ws.toArray n n2 dd dd2 sl sl2 (by simpa using hv) (by simpa using hw) (by rw [List.size_toArray,List.size_toArray];exact hsz)) ⟨ho,ho2,?_⟩
  rw [e]
  exact h2 hw
theorem zk1 (n d:Nat) (hd:d ≤ n) (o:Option Int):sIx n d o ≤ n:=by
 cases o with
 | none=>exact hd
 | some v =>
  show (if v < 0 then (v + (n:Int)).toNat else min v.toNat n) ≤ n
  by_cases hv:v < 0
  ·rw [if_pos hv];omega
  ·rw [if_neg hv];exact Nat.min_le_right _ _
theorem zek (v:Int) (n d:Nat):(if v < 0 then max (v + (n:Int)) 0 else min v (n:Int))=((sIx n d (some v):Nat):Int):=by
 show (if v < 0 then max (v + (n:Int)) 0 else min v (n:Int))=(((if v < 0 then (v + (n:Int)).toNat else min v.toNat n):Nat):Int)
 by_cases hv:v < 0
 ·simp only [if_pos hv];omega
 ·simp only [if_neg hv];omega
theorem zdf (lo hi:Option Int) (n:Nat):Builtin.Slice.sliceAdjust lo hi 1 (n:Int)=(((sIx n 0 lo:Nat):Int),((sIx n n hi:Nat):Int)):=by
 have h1:¬ ((1:Int) < 0):=by omega
 unfold Builtin.Slice.sliceAdjust
 simp only [h1,if_false]
 refine Prod.ext ?_ ?_
 ·cases lo with
  | none=>rfl
  | some v=>exact zek v n 0
 ·cases hi with
  | none=>rfl
  | some v=>exact zek v n n
theorem zdy (i j:Nat):Builtin.Slice.slicePlaces (i:Int) (j:Int) 1=j - i:=by
 unfold Builtin.Slice.slicePlaces
 have h1:(1:Int) > 0:=by omega
 simp only [h1,if_true,Int.ediv_one]
 split <;> omega
theorem zac {v:Value} {o:Option Int} {Q:Option Int→Shared→Prop} (p:IsPart v o) (h:Q o s):wpAny (model prog w) A (Builtin.Slice.slicePartIndex v) Q E s:=by
 cases p with
 | none=>exact slicePart_none h
 | int i t=>exact slicePart_int h
theorem sliceApplied_gen {sl:Addr} {vl vu:Value} {lo hi:Option Int} {n:Nat} {Q:Int × Int × Nat→Shared→Prop} (hs:s.heap.IsSliceOf sl vl vu .none) (pl:IsPart vl lo) (pu:IsPart vu hi)
  (h:Q (((sIx n 0 lo:Nat):Int),1,sIx n n hi - sIx n 0 lo) s):wpAny (model prog w) A (Builtin.Slice.sliceApplied (.ref sl) (pure (n:Int))) Q E s:=by
 obtain ⟨os,hos,hcs,hds⟩:=id hs
 unfold Builtin.Slice.sliceApplied Builtin.Slice.sliceFields
 refine wpAny_bind (wpAny_bind (wpAny_field hos hds (x:=vl) rfl (wpAny_bind (wpAny_field hos hds (x:=vu) rfl (wpAny_bind (wpAny_field hos hds (x:=.none) rfl (wpAny_pure ?_)))))))
 refine wpAny_bind (slicePart_none ?_)
 show wpAny _ _ (if ((1:Int) == 0)=true then _ else _) _ _ s
 rw [if_neg (by decide)]
 refine wpAny_bind (zac pl (wpAny_bind (zac pu (wpAny_bind (wpAny_pure ?_)))))
 show wpAny _ _ (match Builtin.Slice.sliceAdjust lo hi 1 (n:Int) with | (lo,hi)=>pure (lo,(1:Int),Builtin.Slice.slicePlaces lo hi 1)) _ _ s
 rw [zdf lo hi n]
 show wpAny _ _ (pure (((sIx n 0 lo:Nat):Int),(1:Int),Builtin.Slice.slicePlaces ((sIx n 0 lo:Nat):Int) ((sIx n n hi:Nat):Int) 1)) _ _ s
 rw [zdy]
 exact wpAny_pure h
theorem zhj (xs:Array Value) (i k:Nat):((List.range k).filterMap fun (m:Nat)=>xs[((i:Int) + (m:Int) * 1).toNat]?).toArray=((xs.toList.drop i).take k).toArray:=by
 have e:(fun (m:Nat)=>xs[((i:Int) + (m:Int) * 1).toNat]?)=fun m=>xs[i + m]?:=by
  funext m
  have:((i:Int) + (m:Int) * 1).toNat=i + m:=by omega
  rw [this]
 rw [e]
 have:=pick_run xs i k
 rw [List.filterMap_map] at this
 have e2:((fun x=>xs[x]?) ∘ fun x=>i + x)=fun m=>xs[i + m]?:=rfl
 rw [e2] at this
 rw [this]
theorem getItem_tuple_cut {t sl:Addr} {items:Array Value} {vl vu:Value} {lo hi:Option Int} {Q:Value→Shared→Prop} (ht:IsTup s.heap t items) (hs:s.heap.IsSliceOf sl vl vu .none) (pl:IsPart vl lo) (pu:IsPart vu hi)
  (hw:¬ (sIx items.size 0 lo=0∧sIx items.size items.size hi=items.size))
  (h:Q (.ref s.heap.objs.size) { s with heap:=s.heap.push { cls:=.type "tuple",data:=.seq ((items.toList.drop (sIx items.size 0 lo)).take (sIx items.size items.size hi - sIx items.size 0 lo)).toArray } })
  (hsz:items.size ≤ sizeLine):wpAny (model prog w) A (getItem (.ref t) (.ref sl)) Q E s:=by
 have htake:sizeOk (.seq ((items.toList.drop (sIx items.size 0 lo)).take (sIx items.size items.size hi - sIx items.size 0 lo)).toArray):=by
  show ((items.toList.drop (sIx items.size 0 lo)).take (sIx items.size items.size hi - sIx items.size 0 lo)).toArray.size ≤ sizeLine
  rw [List.size_toArray,List.length_take,List.length_drop,Array.length_toList]
  omega
 have hj:sIx items.size items.size hi ≤ items.size:=zk1 _ _ (Nat.le_refl _) hi
 obtain ⟨os,hos,hcs,hds⟩:=id hs
 have hTs:s.TypeIs (.ref sl) "slice" := ⟨os,hos,hcs⟩
 unfold getItem
 try with_reducible refine wpAny_holding ?_
 first | refine wpAny_bind (wpAny_pure ?_) | skip
 refine wpAny_bind (wpAny_sequenceKey ht.typeIs (by decide) ?_)
 refine wpAny_bind (wpAny_callSpecial?_slot (name:=Str.ofString "__getitem__") ht.typeIs PyProof.Rows.slot_tuple_getitem
  (wpAny_call_entry PyProof.Rows.slot_tuple_getitem ht.typeIs entry_tuple_getitem ?_ (args_tuple_getitem _ _)))
 show wpAny _ _ (Builtin.Tuple.tupleItemsOf (.ref t) >>= _) _ _ s
 refine wpAny_bind (tupleItemsOf_ ht ?_)
 refine wpAny_bind (wpAny_typeOf hTs ?_)
 rw [if_pos (by decide)]
 refine wpAny_bind (sliceApplied_gen hs pl pu ?_)
 have hno:¬ ((((sIx items.size 0 lo:Nat):Int) == 0 && (1:Int) == 1 && (sIx items.size items.size hi - sIx items.size 0 lo) == items.size)=true):=by
  intro q
  rw [Bool.and_eq_true,Bool.and_eq_true] at q
  have q1:((sIx items.size 0 lo:Nat):Int)=0:=eq_of_beq q.1.1
  have q2:sIx items.size items.size hi - sIx items.size 0 lo=items.size:=eq_of_beq q.2
  exact hw ⟨by omega,by omega⟩
 show wpAny _ _ (if (((sIx items.size 0 lo:Nat):Int) == 0 && (1:Int) == 1 && (sIx items.size items.size hi - sIx items.size 0 lo) == items.size)=true then _ else _) _ _ s
 rw [if_neg hno,zhj]
 first
  | exact wpAny_bind (m:=Builtin.Tuple.tupleExact _) (wpAny_newObj_type (wpAny_pure ⟨_,rfl,wpAny_pure h⟩) htake)
  | exact wpAny_bind (m:=Builtin.Tuple.tupleExact _) (wpAny_newObj_type (wpAny_bind (wpAny_pure (wpAny_pure ⟨_,rfl,wpAny_pure h⟩))) htake)
  | exact wpAny_bind (wpAny_bind (m:=Builtin.Tuple.tupleExact _) (wpAny_newObj_type (wpAny_pure (wpAny_pure ⟨_,rfl,wpAny_pure h⟩)) htake))
  | exact wpAny_bind (wpAny_bind (m:=Builtin.Tuple.tupleExact _) (wpAny_newObj_type (wpAny_pure ⟨_,rfl,wpAny_pure h⟩) htake))
end
end HT
namespace L2
open PySem PySem.Spec PyProof.Rows
noncomputable abbrev TO:=St→Hp→(Option Int→Hp→Prop)→Prop
noncomputable def PO (X:Cx) (e:Option Expr) (t:TO):Prop :=
 ∀ (pins:List (Addr × Obj)) (s:Shared) (σ:St) (H:Hp) (Q:Option Int→Hp→Prop),Inv X pins σ H s→t σ H Q →
  wpAny (model X.prog X.w) X.A (evalPart e X.env) (fun u s'=>∃ o H',Inv X pins σ H' s'∧IsPart u o∧Q o H') X.xe s
noncomputable def zjS:TO:=fun _ H Q=>Q none H
noncomputable def zlI (t:TE):TO:=fun σ H Q=>t σ H fun x H1=>∃ i,x=.int i∧Q (some i) H1
theorem intsAre_of {ns:List Int}:∀ {us:List Value},Vals (ns.map V.int) us→IntsAre us ns:=by
 induction ns with
 | nil=>intro us r;rw [List.map_nil] at r;cases r;exact .nil
 | cons n ns ih =>
  intro us r
  rw [List.map_cons] at r
  cases r with
  | cons r1 r2 =>
   obtain ⟨t,e⟩:=r1
   subst e
   exact .cons n t (ih r2)
section
variable {X:Cx} {e:Expr} {te:TE} {lo hi:Option Expr} {tl th:TO} {pos p2:Pos}
theorem zjn:PO X none zjS:=by
 intro pins s σ H Q I h
 rw [evalPart_none]
 exact wpAny_pure ⟨none,H,I,.none,h⟩
theorem zjo (h:PE X e te):PO X (some e) (zlI te):=by
 intro pins s σ H Q I hw
 rw [evalPart_some]
 refine thn (h pins s σ H _ I hw) fun u s1=>xe5 fun x H1 I1 r1 q1 => ?_
 obtain ⟨i,rfl,q⟩:=q1
 obtain ⟨t,rfl⟩:=r1
 exact ⟨some i,H1,I1,.int i t,q⟩
noncomputable def SlR (X:Cx) (r:V→Option Int→Option Int→Hp→VK→Prop):Prop :=
 ∀ (pins:List (Addr × Obj)) (s:Shared) (σ:St) (H:Hp) (x:V) (v vl vu:Value) (lo hi:Option Int) (sl:Addr) (Q:VK),Inv X pins σ H s→RelV x v→s.heap.IsSliceOf sl vl vu .none→IsPart vl lo→IsPart vu hi→r x lo hi H Q →
  ∃ T id,typeLookup (.type T) "__getitem__" = pure (some (.builtin id))∧s.TypeIs v T∧wpAny (model X.prog X.w) X.A (getItem v (.ref sl)) (EP X pins σ Q) X.xe s
theorem SlR.or {r r' : V→Option Int→Option Int→Hp→VK→Prop} (h:SlR X r) (h' : SlR X r'):SlR X (fun x lo hi H Q=>r x lo hi H Q ∨ r' x lo hi H Q):=by
 intro pins s σ H x v vl vu lo hi sl Q I rx hs pl pu q
 rcases q with q | q
 ·exact h pins s σ H x v vl vu lo hi sl Q I rx hs pl pu q
 ·exact h' pins s σ H x v vl vu lo hi sl Q I rx hs pl pu q
noncomputable def tSl (r:V→Option Int→Option Int→Hp→VK→Prop) (te:TE) (tl th:TO):TE:=fun σ H Q=>te σ H fun x H1=>tl σ H1 fun l H2=>th σ H2 fun u H3=>r x l u H3 Q
theorem zhg {r:V→Option Int→Option Int→Hp→VK→Prop} (hr:SlR X r) (he:PE X e te) (hl:PO X lo tl) (hu:PO X hi th):PE X (.Subscript e (.Slice lo hi none p2) pos) (tSl r te tl th):=by
 intro pins s σ H Q I h
 refine Subscript_ (thn (he pins s σ H _ I h) fun v s1=>xe5 fun x H1 I1 r1 q1 => ?_)
 refine wpAny_Slice (thn (hl pins s1 σ H1 _ I1 q1) fun vl s2 ⟨l,H2,I2,pl,q2⟩=>thn (hu pins s2 σ H2 _ I2 q2) fun vu s3 hZq => ?_)
 obtain ⟨u,H3,I3,pu,q3⟩:=hZq
 rw [evalPart_none]
 refine wpAny_pure ?_
 have I4:Inv X pins σ H3 { s3 with heap:=s3.heap.push { cls:=.type "slice",data:=.fields #[vl,vu,.none] } }:=I3.kept (t':=s3.toks) fun b ob q=>Heap.get?_push_of_some _ q
 obtain ⟨T,id,hT,ht,hg⟩:=hr pins { s3 with heap:=s3.heap.push { cls:=.type "slice",data:=.fields #[vl,vu,.none] } } σ H3 x v vl vu l u s3.heap.objs.size Q I4 r1 (Heap.IsSliceOf.new ..) pl pu q3
 show wpAny (model X.prog X.w) X.A (subscriptTail e (.Slice lo hi none p2) v (.ref s3.heap.objs.size)) (EP X pins σ Q) X.xe { s3 with heap:=s3.heap.push { cls:=.type "slice",data:=.fields #[vl,vu,.none] } }
 exact tail_any (ops:=[.ref s3.heap.objs.size,v]) ht hT hg (by with_unfolding_all rfl)
noncomputable def cutV (xs:List V) (lo hi:Option Int):List V:=(xs.drop (HT.sIx xs.length 0 lo)).take (HT.sIx xs.length xs.length hi - HT.sIx xs.length 0 lo)
theorem vB (xs:List V) (lo hi:Option Int):(cutV xs lo hi).length ≤ xs.length:=by
 unfold cutV
 rw [List.length_take,List.length_drop]
 omega
noncomputable def rSlT (K:PySem.W.Frag):V→Option Int→Option Int→Hp→VK→Prop:=fun x lo hi H Q=>∃ a xs,x=.ref a∧SqT K H a xs ∧
 ¬ (HT.sIx xs.length 0 lo=0∧HT.sIx xs.length xs.length hi=xs.length)∧∀ p,H p=none→Q (.ref p) (upd H p (.tup (cutV xs lo hi)))
theorem zk2:SlR X (rSlT X.K):=by
 intro pins s σ H x v vl vu lo hi sl Q I rx hs pl pu h
 obtain ⟨a,xs,rfl,hx,hw,q⟩:=h
 cases rx
 obtain ⟨its,r,ht,hz⟩:=I.tuple hx
 have hlen:its.toArray.size=xs.length:=by rw [List.size_toArray];exact r.length.symm
 refine ⟨"tuple",_,PyProof.Rows.slot_tuple_getitem.lookup,ht.typeIs,?_⟩
 refine HT.getItem_tuple_cut ht hs pl pu (by rw [hlen];exact hw) ?_ (by rw [hlen];exact hz)
 rw [hlen]
 refine ⟨.ref s.heap.objs.size,_,I.laid (t':=s.toks) (o:=.tup (cutV xs lo hi)) (fun b ob q=>Heap.get?_push_of_some _ q) (Nat.le_refl _) ?_,rfl,q _ (I.hok.fresh (Nat.le_refl _))⟩
 exact ⟨Nat.le_trans (vB xs lo hi) hz,_,(r.drop (HT.sIx xs.length 0 lo)).take (HT.sIx xs.length xs.length hi - HT.sIx xs.length 0 lo),IsTup.new _ _⟩
theorem Vals.nil_iff {xs:List V} {us:List Value} (r:Vals xs us):us=[] ↔ xs=[]:=by
 cases r with
 | nil=>simp
 | cons _ _=>simp
end
end L2
namespace L2
open PySem PySem.Spec PyProof.Rows
theorem zeQ {n:Nat} {i:Int} {j:Nat} (h:ixN n i=some j):seqIndex? i n=some j∧j < n∧-(n:Int) ≤ i∧i < n:=by
 unfold ixN at h
 by_cases h0:0 ≤ i
 ·rw [if_pos h0] at h
  by_cases h1:i < n
  ·rw [if_pos h1] at h
   have e:i.toNat=j:=Option.some.inj h
   exact ⟨by rw [seqIndex_of h0 h1,e],by omega,by omega,h1⟩
  ·rw [if_neg h1] at h;cases h
 ·rw [if_neg h0] at h
  by_cases h1:-(n:Int) ≤ i
  ·rw [if_pos h1] at h
   have e:(i + n).toNat=j:=Option.some.inj h
   exact ⟨by rw [seqIndex_neg (by omega) h1,e],by omega,h1,by omega⟩
  ·rw [if_neg h1] at h;cases h
theorem atI_get {α:Type} {xs:List α} {i:Int} {v:α} (h:atI xs i=some v):∃ j,seqIndex? i xs.length=some j∧xs[j]?=some v∧j < xs.length∧-(xs.length:Int) ≤ i∧i < xs.length:=by
 unfold atI at h
 cases e:ixN xs.length i with
 | none=>rw [e] at h;cases h
 | some j =>
  rw [e] at h
  obtain ⟨h1,h2,h3,h4⟩:=zeQ e
  exact ⟨j,h1,h,h2,h3,h4⟩
theorem wn {α:Type} {xs:List α} {j:Nat} {v:α} (h:xs[j]?=some v):atI xs (j:Int)=some v:=by
 have hj:j < xs.length:=(List.getElem?_eq_some_iff.mp h).1
 have e:ixN xs.length (j:Int)=some j:=by
  unfold ixN
  rw [if_pos (by omega),if_pos (by omega)];simp
 unfold atI;rw [e];exact h
noncomputable def zbS (b:Expr):Prop:=∀ o i,subscripted b false o i=operate [o,i] (getItem o i)
noncomputable def IxR (X:Cx) (r:R2):Prop :=
 ∀ (value slice:Expr) (pins:List (Addr × Obj)) (s:Shared) (σ:St) (H:Hp) (x y:V) (v u:Value) (Q:VK),Inv X pins σ H s→RelV x v→RelV y u→r x y H Q →
  subscripted slice false v u=operate [v,u] (getItem v u)→wpAny (model X.prog X.w) X.A (subscriptTail value slice v u) (EP X pins σ Q) X.xe s
noncomputable def MtR (X:Cx) (id:String) (r:V→List V→Hp→VK→Prop):Prop :=
 ∀ (pins:List (Addr × Obj)) (s:Shared) (σ:St) (H:Hp) (x:V) (xs:List V) (v:Value) (us:List Value) (Q:VK),Inv X pins σ H s→RelV x v→Vals xs us→r x xs H Q →
  wpAny (model X.prog X.w) X.A (call (.builtin id) (v :: us)) (EP X pins σ Q) X.xe s
section
variable {X:Cx} {a b:Expr} {ta tb:TE} {pos:Pos}
theorem IxR.or {r r' : R2} (h:IxR X r) (h' : IxR X r'):IxR X (fun x y H Q=>r x y H Q ∨ r' x y H Q):=by
 intro value slice pins s σ H x y v u Q I rx ry q hs
 rcases q with q | q
 ·exact h value slice pins s σ H x y v u Q I rx ry q hs
 ·exact h' value slice pins s σ H x y v u Q I rx ry q hs
theorem MtR.or {id:String} {r r' : V→List V→Hp→VK→Prop} (h:MtR X id r) (h' : MtR X id r'):MtR X id (fun x xs H Q=>r x xs H Q ∨ r' x xs H Q):=by
 intro pins s σ H x xs v us Q I rx rs q
 rcases q with q | q
 ·exact h pins s σ H x xs v us Q I rx rs q
 ·exact h' pins s σ H x xs v us Q I rx rs q
theorem zkF {r:R2} (hr:IxR X r) (ha:PE X a ta) (hb:PE X b tb) (hs:zbS b):PE X (.Subscript a b pos) (tOp r ta tb):=by
 intro pins s σ H Q I h
 exact Subscript_ (binT ha hb I h fun v u s2 x y H2 I2 rx ry q=>hr a b pins s2 σ H2 x y v u Q I2 rx ry q (hs _ _))
noncomputable def rIxL (K:PySem.W.Frag):R2:=fun x y H Q=>∃ p xs i v,x=.ref p∧y=.int i∧SqL K H p xs∧atI xs i=some v∧Q v H
noncomputable def rIxT (K:PySem.W.Frag):R2:=fun x y H Q=>∃ p xs i v,x=.ref p∧y=.int i∧SqT K H p xs∧atI xs i=some v∧Q v H
noncomputable def rIxS:R2:=fun x y H Q=>∃ z i c,x=.str z∧y=.int i∧z.length ≤ sizeLine∧atI z.cps.toList i=some c∧Q (.str ⟨#[c]⟩) H
theorem zeR:IxR X (rIxL X.K):=by
 intro value slice pins s σ H x y v u Q I rx ry h hs
 obtain ⟨p,xs,i,z,rfl,rfl,hq,he,q⟩:=h
 cases rx
 obtain ⟨t,rfl⟩:=ry
 obtain ⟨its,r,pl,hz⟩:=I.list hq
 obtain ⟨j,h1,h2,h3,h4,h5⟩:=atI_get he
 obtain ⟨w,ew,rw'⟩:=r.get h2
 have hl:=r.length
 have hn:=vU
 have fin:EP X pins σ Q w s:=⟨z,H,I,rw',q⟩
 by_cases h0:0 ≤ i
 ·have hj:i.toNat=j:=by
   rw [seqIndex_of h0 h5] at h1
   exact Option.some.inj h1
  exact item_listR pl.isList h0 (by omega) (by rw [hj];simpa using ew) fin hs
 ·have hj:(i + (its.toArray.size:Int)).toNat=j:=by
   rw [seqIndex_neg (by omega) h4] at h1
   rw [List.size_toArray,← hl]
   exact Option.some.inj h1
  exact subscriptTail_builtinR (x:=w) pl.isList.typeIs slot_list_getitem.lookup
   (wpAny_getItem_list_neg (Q:=fun r s'=>r=w∧EP X pins σ Q r s') pl.isList (by omega) (by rw [List.size_toArray] <;> omega) (by omega) (by rw [hj];simpa using ew) ⟨rfl,fin⟩) hs
theorem zkf:IxR X (rIxT X.K):=by
 intro value slice pins s σ H x y v u Q I rx ry h hs
 obtain ⟨p,xs,i,z,rfl,rfl,hq,he,q⟩:=h
 cases rx
 obtain ⟨t,rfl⟩:=ry
 obtain ⟨its,r,pl,hz⟩:=I.tuple hq
 obtain ⟨j,h1,h2,h3,h4,h5⟩:=atI_get he
 obtain ⟨w,ew,rw'⟩:=r.get h2
 have hl:=r.length
 have hn:=vU
 have fin:EP X pins σ Q w s:=⟨z,H,I,rw',q⟩
 exact subscriptTail_builtinR (x:=w) pl.typeIs slot_tuple_getitem.lookup
  (getItem_tuple (j:=j) (Q:=fun r s'=>r=w∧EP X pins σ Q r s') pl (by omega) (by omega) (by rw [List.size_toArray,← hl];exact h1) (by simpa using ew) ⟨rfl,fin⟩) hs
theorem zke:IxR X rIxS:=by
 intro value slice pins s σ H x y v u Q I rx ry h hs
 obtain ⟨z,i,c,rfl,rfl,hz,he,q⟩:=h
 obtain ⟨t,rfl⟩:=rx
 obtain ⟨t',rfl⟩:=ry
 obtain ⟨j,h1,h2,h3,h4,h5⟩:=atI_get he
 have hl:z.cps.toList.length=z.length:=by simp [Str.length]
 rw [hl] at h1 h4 h5
 have hn:=vU
 exact tail_any (typeIs_str s z t) slot_str_getitem.lookup (getItem_str (c:=c) (by
  have e1:decide (i < -(2 ^ 63:Int))=false:=decide_eq_false (by omega)
  have e2:decide (i ≥ 2 ^ 63)=false:=decide_eq_false (by omega)
  rw [e1,e2,Bool.or_false]) (by rw [h1];simpa using h2) ⟨.str ⟨#[c]⟩,H,I.tok _,⟨_,rfl⟩,q⟩) hs
noncomputable def rIx (K:PySem.W.Frag):R2:=fun x y H Q=>rIxL K x y H Q ∨ rIxT K x y H Q ∨ rIxS x y H Q
theorem zkd:IxR X (rIx X.K):=zeR.or (zkf.or zke)
theorem zdr (its:List Value) (n j:Nat) (u:Value):Obj.mapSeq (·.setIfInBounds j u) { cls:=.type "list",data:=.seq its.toArray n }={ cls:=.type "list",data:=.seq (its.set j u).toArray n }:=by
 simp [Obj.mapSeq]
theorem Inv.lst {pins:List (Addr × Obj)} {σ:St} {H:Hp} {s:Shared} {p:Addr} {xs:List V} (I:Inv X pins σ H s) (h:H p=some (.lst xs)) :
  ∃ (its:List Value) (n:Nat),Vals xs its∧s.heap.get? p=some { cls:=.type "list",data:=.seq its.toArray n }∧xs.length ≤ sizeLine:=by
 obtain ⟨z,its,n,r,e⟩:=I.hok p _ h
 exact ⟨its,n,r,e,z⟩
theorem Inv.lstUpd {pins:List (Addr × Obj)} {σ:St} {H:Hp} {s:Shared} {p:Addr} {xs ys:List V} {its its' : List Value} {n n' : Nat} {f:Obj→Obj} (I:Inv X pins σ H s) (h:H p=some (.lst xs))
  (ho:s.heap.get? p=some { cls:=.type "list",data:=.seq its.toArray n }) (hf:f { cls:=.type "list",data:=.seq its.toArray n }={ cls:=.type "list",data:=.seq its'.toArray n' }) (r:Vals ys its') (hz:ys.length ≤ sizeLine) (t:Nat) :
  Inv X pins σ (upd H p (.lst ys)) { s with heap:=s.heap.update p f,toks:=t }:=by
 have e:(s.heap.update p f).get? p=some { cls:=.type "list",data:=.seq its'.toArray n' }:=by
  rw [Heap.get?_update_self f ho (by rw [hf] <;> rfl),hf]
 refine I.write (x:=p) (e:=p) (by rw [h];trivial) (.inl rfl) (fun b u hb q=>(Heap.get?_update_other _ _ (Ne.symm hb)).trans q) ⟨_,e⟩ ?_
 exact ⟨hz,its',n',r,e⟩
noncomputable def zly:V→V→V→Hp→(Hp→Prop)→Prop:=fun o i v H Q=>∃ p xs k j,o=.ref p∧i=.int k∧H p=some (.lst xs)∧ixN xs.length k=some j∧Q (upd H p (.lst (xs.set j v)))
theorem set_list:PSet X zly:=by
 intro pins s σ H o i v ov iv u Q I ro ri rv h
 obtain ⟨p,xs,k,j,rfl,rfl,hp,hj,q⟩:=h
 cases ro
 obtain ⟨t,rfl⟩:=ri
 obtain ⟨its,n,r,ho,hz⟩:=I.lst hp
 obtain ⟨h1,h2,h3,h4⟩:=zeQ hj
 have hl:=r.length
 have hn:=vU
 have I' : Inv X pins σ (upd H p (.lst (xs.set j v))) { s with heap:=s.heap.update p (Obj.mapSeq (·.setIfInBounds j u)) } :=
  I.lstUpd hp ho (zdr its n j u) (r.set rv j) (by rw [List.length_set];exact hz) s.toks
 by_cases h0:0 ≤ k
 ·have hk:k.toNat=j:=by
   rw [seqIndex_of h0 h4] at h1
   exact Option.some.inj h1
  exact PySem.W.ki_setAt ho h0 (by omega) (by rw [List.size_toArray,← hl];exact h4) (by rw [hk];exact ⟨_,I',q⟩)
 ·have hk:(k + (its.toArray.size:Int)).toNat=j:=by
   rw [seqIndex_neg (by omega) h3] at h1
   rw [List.size_toArray,← hl]
   exact Option.some.inj h1
  exact PySem.W.ki_setBack ho (by omega) (by rw [List.size_toArray,← hl];exact h3) (by omega) (by rw [hk];exact ⟨_,I',q⟩)
theorem zbH (lo hi:Option Int) (n:Nat):(sliceBounds lo hi none n).1=((HT.sIx n 0 lo:Nat):Int)∧(sliceBounds lo hi none n).2.1=((HT.sIx n n hi:Nat):Int)∧(sliceBounds lo hi none n).2.2=1:=by
 refine ⟨?_,?_,rfl⟩
 ·cases lo with
  | none=>simp [sliceBounds,HT.sIx]
  | some i =>
   simp only [sliceBounds,HT.sIx,Option.getD_none,show (1:Int) > 0 by decide,if_true]
   by_cases h:i < 0
   ·simp only [h,if_true] <;> omega
   ·simp only [h,if_false] <;> omega
 ·cases hi with
  | none=>simp [sliceBounds,HT.sIx]
  | some i =>
   simp only [sliceBounds,HT.sIx,Option.getD_none,show (1:Int) > 0 by decide,if_true]
   by_cases h:i < 0
   ·simp only [h,if_true] <;> omega
   ·simp only [h,if_false] <;> omega
theorem zaO (its:List Value) (lo hi:Option Int):slicePick its.toArray lo hi none=((its.drop (HT.sIx its.length 0 lo)).take (HT.sIx its.length its.length hi - HT.sIx its.length 0 lo)).toArray:=by
 obtain ⟨h1,h2,h3⟩:=zbH lo hi its.toArray.size
 unfold slicePick
 rw [h1,h2,h3]
 simp only [sliceRange_one,pick_run,List.size_toArray] <;> rfl
noncomputable def rSlL (K:PySem.W.Frag):V→Option Int→Option Int→Hp→VK→Prop:=fun x lo hi H Q=>∃ a xs,x=.ref a∧SqL K H a xs∧∀ p,H p=none→Q (.ref p) (upd H p (.lst (cutV xs lo hi)))
theorem zjK:SlR X (rSlL X.K):=by
 intro pins s σ H x v vl vu lo hi sl Q I rx hs pl pu h
 obtain ⟨a,xs,rfl,hx,q⟩:=h
 cases rx
 obtain ⟨its,r,ht,hz⟩:=I.list hx
 have hlen:=r.length
 refine ⟨"list",_,slot_list_getitem.lookup,ht.isList.typeIs,?_⟩
 refine wpAny_getItem_list_slice ht.isList hs pl pu .none (by simp) ?_ (by rw [List.size_toArray] <;> omega)
 rw [zaO,← hlen]
 refine ⟨.ref s.heap.objs.size,_,I.laid (t':=s.toks) (o:=.lst (cutV xs lo hi)) (fun b ob q=>Heap.get?_push_of_some _ q) (Nat.le_refl _) ?_,rfl,q _ (I.hok.fresh (Nat.le_refl _))⟩
 exact ⟨Nat.le_trans (vB xs lo hi) hz,_,0,(r.drop (HT.sIx xs.length 0 lo)).take (HT.sIx xs.length xs.length hi - HT.sIx xs.length 0 lo),Heap.get?_push_size _ rfl⟩
theorem xD:wY X (.builtin "len") (fun xs H Q=>∃ p ys,xs=[.ref p]∧(SqL X.K H p ys ∨ SqT X.K H p ys)∧Q (.int ys.length) H):=by
 intro pins s σ H xs us Q I r h
 obtain ⟨p,ys,rfl,hq,q⟩:=h
 obtain ⟨u,rfl,rx⟩:=vals1 r
 cases rx
 have hn:=vU
 rcases hq with hq | hq
 ·obtain ⟨its,r',pl,hz⟩:=I.list hq
  have hlen:=r'.length
  exact Calls.call_len_list pl.isList (by simp only [List.size_toArray] <;> omega) ⟨.int ys.length,H,I.tok _,⟨s.toks + 1,by rw [List.size_toArray,hlen]⟩,q⟩
 ·obtain ⟨its,r',pl,hz⟩:=I.tuple hq
  have hlen:=r'.length
  exact len_tuple pl (by simp only [List.size_toArray] <;> omega) ⟨.int ys.length,H,I.tok _,⟨s.toks + 1,by rw [List.size_toArray,hlen]⟩,q⟩
theorem wY.or {f:Value} {r r' : List V→Hp→VK→Prop} (h:wY X f r) (h' : wY X f r'):wY X f (fun xs H Q=>r xs H Q ∨ r' xs H Q):=by
 intro pins s σ H xs us Q I rs q
 rcases q with q | q
 ·exact h pins s σ H xs us Q I rs q
 ·exact h' pins s σ H xs us Q I rs q
theorem ww:wY X (.type "tuple") (fun xs H Q=>∃ p ys,xs=[.ref p]∧((SqL X.K H p ys∧∀ l,H l=none→Q (.ref l) (upd H l (.tup ys))) ∨ (SqT X.K H p ys∧Q (.ref p) H))):=by
 intro pins s σ H xs us Q I r h
 obtain ⟨p,ys,rfl,h⟩:=h
 obtain ⟨u,rfl,rx⟩:=vals1 r
 cases rx
 rcases h with ⟨hq,q⟩ | ⟨hq,q⟩
 ·obtain ⟨its,r',pl,hz⟩:=I.list hq
  have hlen:=r'.length
  refine call_tuple_list pl.isList (fun h' kp => ?_) (by simp only [List.size_toArray] <;> omega)
  have I1:Inv X pins σ H { s with heap:=h' }:=I.kept (t':=s.toks) kp
  have I2:Inv X pins σ (upd H h'.objs.size (.tup ys)) { s with heap:=h'.push { cls:=.type "tuple",data:=.seq its.toArray } } :=
   I1.laid (t':=s.toks) (fun b o e=>Heap.get?_push_of_some _ e) (Nat.le_refl _) (show jG X.prog X.w _ _ _ (.tup ys) from ⟨hz,its,r',IsTup.new _ _⟩)
  exact ⟨.ref h'.objs.size,_,I2,rfl,q _ (I1.hok.fresh (Nat.le_refl _))⟩
 ·obtain ⟨its,r',pl,hz⟩:=I.tuple hq
  exact call_tuple_same pl ⟨.ref p,H,I,rfl,q⟩
noncomputable def tyV (K:PySem.W.Frag) (T:String) (x:V) (H:Hp):Prop:=match x with
 | .str _=>T = "str"
 | .int _=>T = "int"
 | .ref p=>(T = "list" ∧ ∃ xs,SqL K H p xs) ∨ (T = "tuple" ∧ ∃ o,K.lookup p=some o∧o.cls=.type "tuple" ∧ o.dict=none) ∨
   (T = "dict" ∧ ((∃ kvs,H p=some (.dK kvs)) ∨ ∃ kvs,H p=some (.dT kvs))) ∨ (T = "set" ∧ ∃ S n,H p=some (.set S n))
 | _=>False
theorem zk8 {pins:List (Addr × Obj)} {σ:St} {H:Hp} {s:Shared} {T:String} {x:V} {v:Value} (I:Inv X pins σ H s) (r:RelV x v) (ty:tyV X.K T x H) :
  s.TypeIs v T∧∀ a,v=.ref a→∃ ob,s.heap.get? a=some ob∧ob.dict=none:=by
 cases x with
 | str z =>
  obtain ⟨t,rfl⟩:=r
  cases (show T = "str" from ty)
  exact ⟨typeIs_str s z t,fun _ e=>nomatch e⟩
 | int i =>
  obtain ⟨t,rfl⟩:=r
  cases (show T = "int" from ty)
  exact ⟨typeIs_int s i t,fun _ e=>nomatch e⟩
 | ref p =>
  cases r
  rcases ty with ⟨rfl,xs,hq⟩ | ⟨rfl,o,hk,hc,hd⟩ | ⟨rfl,hk⟩ | ⟨rfl,S,n,hk⟩
  ·obtain ⟨its,_,pl,_⟩:=I.list hq
   refine ⟨pl.isList.typeIs,fun a e => ?_⟩
   cases e
   obtain ⟨o,n,e,c,hd,_⟩:=pl
   exact ⟨o,e,hd⟩
  ·refine ⟨⟨o,I.kIn p o hk,hc⟩,fun a e => ?_⟩
   cases e
   exact ⟨o,I.kIn _ o hk,hd⟩
  ·have z:∃ o,s.heap.get? p=some o∧o.ExactDict:=by
    rcases hk with ⟨kvs,hk⟩ | ⟨kvs,hk⟩
    ·obtain ⟨_,_,_,_,o,_,_,e,ex,_⟩:=I.hok p _ hk
     exact ⟨o,e,ex⟩
    ·obtain ⟨_,_,_,_,o,_,_,e,ex,_⟩:=I.hok p _ hk
     exact ⟨o,e,ex⟩
   obtain ⟨o,e,ex⟩:=z
   refine ⟨⟨o,e,ex.1⟩,fun a e2 => ?_⟩
   cases e2
   exact ⟨o,e,ex.2.1⟩
  ·obtain ⟨o,_,_,_,e,ex,_⟩:=I.hok p _ hk
   refine ⟨⟨o,e,ex.1⟩,fun a e2 => ?_⟩
   cases e2
   exact ⟨o,e,ex.2.1⟩
 | _=>exact False.elim ty
noncomputable def tBM (K:PySem.W.Frag) (T:String) (r:V→List V→Hp→VK→Prop) (to:TE) (t:TA):TE:=fun σ H Q=>to σ H fun x H1=>tyV K T x H1∧t σ H1 fun xs H2=>r x xs H2 Q
variable {o e:Expr} {es:List Expr} {to:TE} {t:TA} {name:Str} {apos cpos:Pos} {T id:String} {r:V→List V→Hp→VK→Prop}
theorem zkD (pa:PlainAttrs T) (slot:Slot T name id) (hty:typeOf (.builtin id)=pure (.type "method_descriptor")) (hm:MtR X id r) (ho:PE X o to) (ha:PA X (e :: es) t)
  (hbase:autoParam (attributeBase o name X.env (eval o X.env)=eval o X.env) aTc)
  (hfew:autoParam (((backTo cpos (starEach (e :: es) X.env)).all (fun x=>!x.1) && (backToKw cpos (keywordEach [] X.env)).all (fun x=>x.1.isSome)
   && decide ((e :: es).length + ([]:List Keyword).length + (if ([]:List Keyword).isEmpty then 0 else 1) < 30))=true) aTc)
  (hline:autoParam ((apos.endLine == cpos.line)=true) aTc) (hs:autoParam (starEach (e :: es) X.env=(false,eval e X.env) :: starEach es X.env) aTc) (hplain:autoParam ((backTo cpos (starEach es X.env)).any (·.1)=false) aTc) :
  PE X (.Call (.Attribute o name apos) (e :: es) [] cpos) (tBM X.K T r to t):=by
 intro pins s σ H Q I h
 refine wpAny_Call_method_late hbase hfew hline rfl (thn (ho pins s σ H _ I h) fun v s1 hZq => ?_)
 obtain ⟨x,H1,I1,r1,ty,q1⟩:=hZq
 obtain ⟨h1,h2⟩:=zk8 I1 r1 ty
 refine ⟨T,id,pa,slot,hty,h1,h2,?_⟩
 have hA:=ha cpos pins s1 σ H1 _ I1 q1
 rw [hs] at hA ⊢
 refine Calls.callWith_builtin (by show (false || (backTo cpos (starEach es X.env)).any (·.1))=false;rw [hplain] <;> rfl) (Calls.evalArgs_plain ?_)
 exact thn hA fun us s2=>xe5 fun vs H2 I2 r2 q2=>hm pins s2 σ H2 x vs v us Q I2 r1 r2 q2
end
end L2
namespace L2
open PySem PySem.Spec PyProof.Rows
noncomputable def MtM (X:Cx) (id:String) (r:V→List V→Hp→VK→Prop):Prop :=
 ∀ (pins:List (Addr × Obj)) (s:Shared) (σ:St) (H:Hp) (x:V) (xs:List V) (v:Value) (us:List Value) (Q:VK),Inv X pins σ H s→RelV x v→Vals xs us→r x xs H Q →
  wpAny (model X.prog X.w) X.A (call (.builtin id) (v :: us)) (EP X pins σ Q) X.xe s
theorem Vals.one {x:V} {us:List Value} (r:Vals [x] us):∃ u,us=[u]∧RelV x u:=vals1 r
theorem Vals.zero:∀ {us:List Value},Vals [] us→us=[]
 | _,.nil=>rfl
theorem Vals.rep {xs:List V} {us:List Value} (h:Vals xs us):∀ k:Nat,Vals (List.replicate k xs).flatten (List.replicate k us).flatten
 | 0=>.nil
 | k + 1=>by
  rw [List.replicate_succ,List.replicate_succ,List.flatten_cons,List.flatten_cons]
  exact Vals.append h (Vals.rep h k)
theorem foldl_rep (its:List Value):∀ (k:Nat) (acc:List Value),
  List.foldl (fun x1 x2=>x1 ++ x2) acc.toArray (List.replicate k its.toArray)=(acc ++ (List.replicate k its).flatten).toArray
 | 0,acc=>by simp
 | k + 1,acc=>by
  have e:acc.toArray ++ its.toArray=(acc ++ its).toArray:=by simp
  have e2:(acc ++ its) ++ (List.replicate k its).flatten=acc ++ (List.replicate (k + 1) its).flatten:=by
   rw [List.replicate_succ,List.flatten_cons,List.append_assoc]
  rw [← e2,← foldl_rep its k (acc ++ its),← e,List.replicate_succ,List.foldl_cons]
section
variable {X:Cx} {pins:List (Addr × Obj)} {σ:St} {H:Hp} {s:Shared} {l b:Addr} {xs ys zs:List V}
theorem Inv.lset {its its' : List Value} {n:Nat} {f:Array Value→Array Value} {t' : Nat} (I:Inv X pins σ H s) (hH:H l=some (.lst xs))
  (e:s.heap.get? l=some { cls:=.type "list",data:=.seq its.toArray n }) (hf:f its.toArray=its'.toArray) (hv:Vals ys its') (hz:ys.length ≤ sizeLine) :
  Inv X pins σ (upd H l (.lst ys)) { s with heap:=s.heap.update l (Obj.mapSeq f),toks:=t' }:=by
 have q:=PySem.IsL.update e f
 rw [hf] at q
 refine I.write (x:=l) (e:=l) (by rw [hH];exact trivial) (.inl rfl) (fun b' u hb hu=>(Heap.get?_update_other s.heap (Obj.mapSeq f) (Ne.symm hb)).trans hu) ⟨_,q⟩ ?_
 exact ⟨hz,its',_,hv,q⟩
theorem Inv.lnew {its:List Value} {t' : Nat} (I:Inv X pins σ H s) (hv:Vals ys its) (hz:ys.length ≤ sizeLine) :
  Inv X pins σ (upd H s.heap.objs.size (.lst ys)) { s with heap:=s.heap.push { cls:=.type "list",data:=.seq its.toArray },toks:=t' } :=
 I.laid (fun _ _ q=>Heap.get?_push_of_some _ q) (Nat.le_refl _) ⟨hz,its,0,hv,Heap.get?_push_size _ rfl⟩
theorem Inv.fresh (I:Inv X pins σ H s):H s.heap.objs.size=none:=I.hok.fresh (Nat.le_refl _)
theorem Inv.lstM (I:Inv X pins σ H s) (hH:H l=some (.lst xs)):xs.length ≤ sizeLine∧∃ (its:List Value) (n:Nat),Vals xs its∧xs.length=its.length∧s.heap.get? l=some { cls:=.type "list",data:=.seq its.toArray n }:=by
 obtain ⟨z,its,n,r,e⟩:=I.hok l _ hH
 exact ⟨z,its,n,r,r.length,e⟩
theorem zaE {n:Nat} (h:n ≤ sizeLine):Builtin.List.listTooLong n=false:=by
 unfold Builtin.List.listTooLong
 exact decide_eq_false (by omega)
end
section
variable {X:Cx}
noncomputable def zjE:V→List V→Hp→VK→Prop:=fun x vs H Q=>∃ l xs y,x=.ref l∧vs=[y]∧H l=some (.lst xs)∧xs.length < sizeLine∧Q .non (upd H l (.lst (xs ++ [y])))
theorem zbq:MtM X "list.append" zjE:=by
 intro pins s σ H x vs v us Q I rx rv h
 obtain ⟨l,xs,y,rfl,rfl,hH,hz,q⟩:=h
 cases rx
 obtain ⟨u,rfl,ru⟩:=rv.one
 obtain ⟨z,its,n,r,hl,e⟩:=I.lstM hH
 refine call_meets F.slot_list_append ⟨_,e,rfl⟩ F.entry_list_append (F.args_list_append_2 _ _) (PySem.list_append l its.toArray n u (by rw [List.size_toArray];omega)) ⟨e,?_⟩
 refine ⟨.non,_,I.lset (its':=its ++ [u]) hH e (by simp) (r.append (.cons ru .nil)) ?_,rfl,q⟩
 rw [List.length_append,List.length_singleton]
 omega
noncomputable def rRep:R2:=fun x y H Q=>∃ l k xs,x=.ref l∧y=.int k∧H l=some (.lst xs)∧-(2 ^ 63) ≤ k∧k < 2 ^ 63∧xs.length * k.toNat ≤ sizeLine ∧
 ∀ p,H p=none→Q (.ref p) (upd H p (.lst (List.replicate k.toNat xs).flatten))
theorem len_rep {α:Type} (xs:List α) (k:Nat):(List.replicate k xs).flatten.length=k * xs.length:=by
 induction k with
 | zero=>simp
 | succ k ih=>rw [List.replicate_succ,List.flatten_cons,List.length_append,ih,Nat.succ_mul,Nat.add_comm]
theorem zkw:OpR X (binaryOp .Mult) rRep:=by
 intro pins s σ H x y v u Q I rx ry h
 obtain ⟨l,k,xs,rfl,rfl,hH,h1,h2,hz,q⟩:=h
 cases rx
 obtain ⟨t,rfl⟩:=ry
 obtain ⟨z,its,n,r,hl,e⟩:=I.lstM hH
 have hlen:its.toArray.size * k.toNat ≤ sizeLine:=by rw [List.size_toArray,← hl];exact hz
 have hcap:¬ its.toArray.size * k.toNat > (2 ^ 63 - 1) / 8:=by
  have:(sizeLine:Nat) ≤ (2 ^ 63 - 1) / 8:=by decide
  omega
 have hfit:¬ (!Builtin.List.listFitsIndex k)=true:=by
  rw [fitsIndex_both h1 h2]
  exact Bool.false_ne_true
 have hlong:¬ Builtin.List.listTooLong (its.toArray.size * k.toNat)=true:=by
  rw [zaE hlen]
  exact Bool.false_ne_true
 have hnew:List.foldl (fun x1 x2=>x1 ++ x2) #[] (List.replicate (if its.toArray.isEmpty=true then 0 else k.toNat) its.toArray)=(List.replicate k.toNat its).flatten.toArray:=by
  have f0:∀ m:Nat,List.foldl (fun x1 x2=>x1 ++ x2) #[] (List.replicate m its.toArray)=(List.replicate m its).flatten.toArray:=fun m=>by
   have:=foldl_rep its m []
   rw [List.nil_append] at this
   exact this
  rw [f0]
  cases its with
  | nil=>simp
  | cons a r'=>rw [if_neg (by simp)]
 refine wpAny_binaryOp_repeat_ref (T := "list") (U := "int") (by decide) ⟨_,e,rfl⟩ (fun s'=>typeIs_int s' k t) noFill_list_mul F.fills_int_mul F.slot_int_rmul repeat_list F.slot_int_index.lookup
  (call_meets F.slot_int_rmul (typeIs_int s k t) F.entry_int_rmul (F.args_int_rmul_2 _ _) (int___rmul___int_list k t l its.toArray n)
   ⟨e,rfl,⟨_,e,rfl⟩,call_meets F.slot_list_mul ⟨_,e,rfl⟩ F.entry_list_mul (F.args_list_mul_2 _ _) (AutoListH.list___mul___list_int_3 l its.toArray n k t hfit hcap hlong) ⟨e,?_⟩⟩)
 rw [hnew]
 exact ⟨.ref _,_,I.lnew (t':=s.toks) (r.rep k.toNat) (by rw [len_rep,Nat.mul_comm];exact hz),rfl,q _ I.fresh⟩
end
section
variable {prog:Program} {w:World} {A:Around} {E:Value→Shared→Prop} {s:Shared}
end
section
variable {X:Cx}
end
end L2
namespace L2
open PySem PySem.Spec PyProof.Rows
section
variable {κ:Type} [DecidableEq κ]
noncomputable def valV (kvs:List (κ × V)) (k:κ):Option V:=(kvs.find? fun kv=>decide (kv.1=k)).map (·.2)
noncomputable def putK (kvs:List (κ × V)) (k:κ) (v:V):List (κ × V) :=
 if (kvs.any fun kv=>decide (kv.1=k))=true then kvs.map (fun kv=>if kv.1=k then (kv.1,v) else kv) else kvs ++ [(k,v)]
noncomputable def zj7 (kvs:List (κ × V)) (k:κ):List (κ × V):=kvs.filter fun kv=>decide (kv.1 ≠ k)
theorem yZ {p:κ × V} {r:List (κ × V)} {k:κ} (e:p.1=k):valV (p :: r) k=some p.2:=by simp [valV,List.find?_cons,e]
theorem yY {p:κ × V} {r:List (κ × V)} {k:κ} (e:¬ p.1=k):valV (p :: r) k=valV r k:=by simp [valV,List.find?_cons,e]
theorem zdb (k:κ):∀ kvs:List (κ × V),(kvs.any fun kv=>decide (kv.1=k))=(valV kvs k).isSome
 | []=>rfl
 | p :: r=>by
  rw [List.any_cons]
  by_cases e:p.1=k
  ·simp only [yZ e,decide_eq_true e,Bool.true_or,Option.isSome_some]
  ·rw [yY e,decide_eq_false e,Bool.false_or];exact zdb k r
theorem vS (kvs:List (κ × V)) (k:κ) (v:V):(putK kvs k v).length ≤ kvs.length + 1:=by
 unfold putK
 split
 ·rw [List.length_map];omega
 ·rw [List.length_append,List.length_cons,List.length_nil];omega
theorem RelO.isSome_eq {o:Option V} {u:Option Value} (r:RelO o u):o.isSome=u.isSome:=by
 cases o with
 | none=>cases u with
  | none=>rfl
  | some _=>exact (show False from r).elim
 | some _=>cases u with
  | none=>exact (show False from r).elim
  | some _=>rfl
theorem RelO.getD {o:Option V} {u:Option Value} {d:V} {d' : Value} (r:RelO o u) (rd:RelV d d'):RelV (o.getD d) (u.getD d'):=by
 cases o with
 | none=>cases u with
  | none=>exact rd
  | some _=>exact (show False from r).elim
 | some _=>cases u with
  | none=>exact (show False from r).elim
  | some _=>exact r
theorem KV.val {kvs:List (κ × V)} {vs:List (κ × Value)} (r:KV kvs vs) (k:κ):RelO (valV kvs k) (valueAt vs k):=by
 unfold KV at r
 induction r with
 | nil=>exact True.intro
 | @cons p q ps qs h t ih =>
  obtain ⟨h1,h2⟩:=h
  by_cases e:p.1=k
  ·have e' : q.1=k:=h1.symm.trans e
   have b:valueAt (q :: qs) k=some q.2:=by simp [valueAt,List.find?_cons,e']
   rw [yZ e,b];exact h2
  ·have e' : ¬ q.1=k:=fun z=>e (h1.trans z)
   have b:valueAt (q :: qs) k=valueAt qs k:=by simp [valueAt,List.find?_cons,e']
   rw [yY e,b];exact ih
theorem KV.any {kvs:List (κ × V)} {vs:List (κ × Value)} (r:KV kvs vs) (k:κ):(kvs.any fun kv=>decide (kv.1=k))=vs.any fun kv=>decide (kv.1=k):=by
 unfold KV at r
 induction r with
 | nil=>rfl
 | cons h t ih=>rw [List.any_cons,List.any_cons,ih,h.1]
theorem KV.repl {kvs:List (κ × V)} {vs:List (κ × Value)} (r:KV kvs vs) (k:κ) {y:V} {u:Value} (ry:RelV y u) :
  KV (kvs.map fun kv=>if kv.1=k then (kv.1,y) else kv) (vs.map fun kv=>if kv.1=k then (kv.1,u) else kv):=by
 unfold KV at r ⊢
 induction r with
 | nil=>exact .nil
 | @cons p q ps qs h t ih =>
  rw [List.map_cons,List.map_cons]
  refine .cons ?_ ih
  obtain ⟨h1,h2⟩:=h
  by_cases e:p.1=k
  ·rw [if_pos e,if_pos (h1.symm.trans e)];exact ⟨h1,ry⟩
  ·rw [if_neg e,if_neg (fun z=>e (h1.trans z))];exact ⟨h1,h2⟩
theorem KV.put {kvs:List (κ × V)} {vs:List (κ × Value)} (r:KV kvs vs) (k:κ) {y:V} {u:Value} (ry:RelV y u):KV (putK kvs k y) (stored vs k u):=by
 unfold putK stored
 rw [r.any k]
 by_cases e:(vs.any fun kv=>decide (kv.1=k))=true
 ·rw [if_pos e,if_pos e];exact r.repl k ry
 ·rw [if_neg e,if_neg e];exact Paired.snoc r ⟨rfl,ry⟩
theorem KV.drop {kvs:List (κ × V)} {vs:List (κ × Value)} (r:KV kvs vs) (k:κ):KV (zj7 kvs k) (without vs k):=by
 unfold KV at r ⊢
 unfold zj7 without
 induction r with
 | nil=>exact .nil
 | @cons p q ps qs h t ih =>
  obtain ⟨h1,h2⟩:=h
  rw [List.filter_cons,List.filter_cons]
  by_cases e:p.1=k
  ·have a:¬ decide (p.1 ≠ k)=true:=by simp [e]
   have b:¬ decide (q.1 ≠ k)=true:=by simp [h1.symm.trans e]
   rw [if_neg a,if_neg b];exact ih
  ·have e' : ¬ q.1=k:=fun z=>e (h1.trans z)
   have a:decide (p.1 ≠ k)=true:=by simp [e]
   have b:decide (q.1 ≠ k)=true:=by simp [e']
   rw [if_pos a,if_pos b];exact .cons ⟨h1,h2⟩ ih
theorem KV.length {kvs:List (κ × V)} {vs:List (κ × Value)} (r:KV kvs vs):kvs.length=vs.length:=Paired.length r
end
theorem ziU {P:Program} {w:World} {k:Key} {u:Value} (r:RelV (kV k) u):(jK P w).is k u=true:=by
 cases k with
 | inl i=>obtain ⟨t,e⟩:=(show ∃ t,u=Value.int i t from r);subst e;exact zb4 P w i t
 | inr x=>obtain ⟨t,e⟩:=(show ∃ t,u=Value.str x t from r);subst e;exact zb5 P w x t
theorem zbj {P:Program} {w:World}:∀ {ks:List Key} {us:List Value},Vals (ks.map kV) us→ItemsAre (jK P w) ks us
 | [],_,r=>by rw [List.map_nil] at r;cases r;exact .nil
 | k :: ks,_,r=>by
  rw [List.map_cons] at r
  cases r with
  | cons h t=>exact .cons (ziU h) (zbj t)
noncomputable abbrev KT (H:Hp):List (List Key × V)→List (List Key × Addr × Value)→Prop:=Paired fun p q=>p.1=q.1∧H q.2.1=some (.tup (p.1.map kV))∧RelV p.2 q.2.2
theorem KT.val {H:Hp} {kvs:List (List Key × V)} {xs:List (List Key × Addr × Value)} (r:KT H kvs xs) (k:List Key):RelO (valV kvs k) ((atKey xs k).map (·.2)):=by
 induction r with
 | nil=>exact True.intro
 | @cons p q ps qs h t ih =>
  obtain ⟨h1,_,h2⟩:=h
  by_cases e:p.1=k
  ·have e' : q.1=k:=h1.symm.trans e
   have b:atKey (q :: qs) k=some q.2:=by simp [atKey,List.find?_cons,e']
   rw [yZ e,b];exact h2
  ·have e' : ¬ q.1=k:=fun z=>e (h1.trans z)
   have b:atKey (q :: qs) k=atKey qs k:=by simp [atKey,List.find?_cons,e']
   rw [yY e,b];exact ih
theorem KT.repl {H:Hp} {kvs:List (List Key × V)} {xs:List (List Key × Addr × Value)} (r:KT H kvs xs) (k:List Key) {y:V} {u:Value} (ry:RelV y u) :
  KT H (kvs.map fun kv=>if kv.1=k then (kv.1,y) else kv) (xs.map (putAt k u)):=by
 induction r with
 | nil=>exact .nil
 | @cons p q ps qs h t ih =>
  rw [List.map_cons,List.map_cons]
  refine .cons ?_ ih
  obtain ⟨h1,h2,h3⟩:=h
  unfold putAt
  by_cases e:p.1=k
  ·rw [if_pos e,if_pos (h1.symm.trans e)];exact ⟨h1,h2,ry⟩
  ·rw [if_neg e,if_neg (fun z=>e (h1.trans z))];exact ⟨h1,h2,h3⟩
theorem KT.put {H:Hp} {kvs:List (List Key × V)} {xs:List (List Key × Addr × Value)} (r:KT H kvs xs) (k:List Key) {b:Addr} {y:V} {u:Value} (hb:H b=some (.tup (k.map kV))) (ry:RelV y u) :
  KT H (putK kvs k y) (storedH xs k b u):=by
 have e:(kvs.any fun kv=>decide (kv.1=k))=(atKey xs k).isSome:=by
  rw [zdb,(r.val k).isSome_eq,Option.isSome_map]
 unfold putK storedH
 rw [e]
 by_cases q:(atKey xs k).isSome=true
 ·rw [if_pos q,if_pos q];exact r.repl k ry
 ·rw [if_neg q,if_neg q];exact Paired.snoc r ⟨rfl,hb,ry⟩
theorem KT.keeps {H H' : Hp} {kvs:List (List Key × V)} {xs:List (List Key × Addr × Value)} (r:KT H kvs xs) (ht:∀ b ys,H b=some (.tup ys)→H' b=some (.tup ys)):KT H' kvs xs :=
 Paired.mapP r fun _ _ z=>⟨z.1,ht _ _ z.2.1,z.2.2⟩
section
variable {P:Program} {w:World} {H:Hp} {h:Heap} {a:Addr}
theorem zkW {u:HO} (ok:HOk P w H h) (e:Rd H a u):jG P w H h a u:=e.ok ok
theorem ziF {kvs:List (Key × V)} (ok:HOk P w H h) (e:Rd H a (.dK kvs)):kvs.length ≤ sizeLine∧(a == sysModules)=false∧∃ vs,KV kvs vs∧h.DictOf (jK P w) a vs :=
 show jG P w H h a (.dK kvs) from zkW ok e
theorem zle {kvs:List (Key × V)} (ok:HOk P w H h) (e:H a=some (.dK kvs)):kvs.length ≤ sizeLine∧(a == sysModules)=false∧∃ vs,KV kvs vs∧h.DictOf (jK P w) a vs:=ziF ok (.inl e)
theorem zeV {ks:List Key} (ok:HOk P w H h) (e:H a=some (.tup (ks.map kV))):(tupleKind (jK P w)).is h ks a:=by
 obtain ⟨_,its,r,o,h1,h2,n,h3⟩:=(show jG P w H h a (.tup (ks.map kV)) from ok a _ e)
 exact ⟨o,its.toArray,n,h1,h2,h3,by simpa using zbj r⟩
theorem ziG {kvs:List (List Key × V)} (ok:HOk P w H h) (e:Rd H a (.dT kvs)):kvs.length ≤ sizeLine∧(a == sysModules)=false ∧
  ∃ xs,KT H kvs xs∧h.DictOfH (tupleKind (jK P w)) a xs:=by
 obtain ⟨z,y,xs,r,o,es,ep,h1,h2,h3,h4,h5⟩:=(show jG P w H h a (.dT kvs) from zkW ok e)
 refine ⟨z,y,xs,r,o,es,ep,h1,h2,h3,h4,fun x hx => ?_,h5⟩
 have all:∀ {l:List (List Key × V)} {m:List (List Key × Addr × Value)},KT H l m→∀ x ∈ m,(tupleKind (jK P w)).is h x.1 x.2.1:=by
  intro l m q
  induction q with
  | nil=>intro x hx;exact nomatch hx
  | @cons p q ps qs hq t ih =>
   intro x hx
   rcases List.mem_cons.mp hx with e | hx
   ·subst e
    exact zeV ok (by rw [← hq.1];exact hq.2.1)
   ·exact ih x hx
 exact all r x hx
theorem zlf {kvs:List (List Key × V)} (ok:HOk P w H h) (e:H a=some (.dT kvs)):kvs.length ≤ sizeLine∧(a == sysModules)=false ∧
  ∃ xs,KT H kvs xs∧h.DictOfH (tupleKind (jK P w)) a xs:=ziG ok (.inl e)
end
noncomputable def DGet (H:Hp) (a:Addr) (y:V) (r:Option V):Prop :=
 (∃ kvs k,Rd H a (.dK kvs)∧y=kV k∧r=valV kvs k) ∨ ∃ kvs k b,Rd H a (.dT kvs)∧y=.ref b∧H b=some (.tup (k.map kV))∧r=valV kvs k
noncomputable def DPut (H:Hp) (a:Addr) (y v:V) (H' : Hp):Prop :=
 (∃ kvs k,H a=some (.dK kvs)∧y=kV k∧kvs.length < sizeLine∧H'=upd H a (.dK (putK kvs k v))) ∨
 ∃ kvs k b,H a=some (.dT kvs)∧y=.ref b∧H b=some (.tup (k.map kV))∧kvs.length < sizeLine∧H'=upd H a (.dT (putK kvs k v))
theorem DGet.k {H:Hp} {a:Addr} {kvs:List (Key × V)} {k:Key} (e:H a=some (.dK kvs)):DGet H a (kV k) (valV kvs k):=.inl ⟨kvs,k,.inl e,rfl,rfl⟩
theorem DGet.t {H:Hp} {a b:Addr} {kvs:List (List Key × V)} {k:List Key} (e:H a=some (.dT kvs)) (eb:H b=some (.tup (k.map kV))):DGet H a (.ref b) (valV kvs k):=.inr ⟨kvs,k,b,.inl e,rfl,eb,rfl⟩
theorem DPut.k {H:Hp} {a:Addr} {kvs:List (Key × V)} {k:Key} {v:V} (e:H a=some (.dK kvs)) (hl:kvs.length < sizeLine):DPut H a (kV k) v (upd H a (.dK (putK kvs k v))):=.inl ⟨kvs,k,e,rfl,hl,rfl⟩
theorem DPut.t {H:Hp} {a b:Addr} {kvs:List (List Key × V)} {k:List Key} {v:V} (e:H a=some (.dT kvs)) (eb:H b=some (.tup (k.map kV))) (hl:kvs.length < sizeLine) :
  DPut H a (.ref b) v (upd H a (.dT (putK kvs k v))):=.inr ⟨kvs,k,b,e,rfl,eb,hl,rfl⟩
section
variable {X:Cx} {pins:List (Addr × Obj)} {σ:St} {H:Hp} {s:Shared} {a:Addr} {y v:V} {u r:Value} {o:Option V} {A:Around} {E:Value→Shared→Prop}
theorem Inv.big (I:Inv X pins σ H s):sysModules < s.heap.objs.size:=by
 have h:mainGlobals < s.heap.objs.size:=(I.mod.glob.keeps I.bk).lt
 exact Nat.lt_trans (by decide) h
theorem zep {Q:Value→Shared→Prop} (hu:A.units + 1 < cLine) (I:Inv X pins σ H s) (g:DGet H a y (some v)) (ry:RelV y u) (h:∀ w' s',Inv X pins σ H s'→RelV v w'→Q w' s') :
  wpAny (model X.prog X.w) A (getItem (.ref a) u) Q E s:=by
 rcases g with ⟨kvs,k,e,ey,l⟩ | ⟨kvs,k,b,e,ey,eb,l⟩
 ·subst ey
  obtain ⟨z,hd,vs,rel,dd⟩:=ziF I.hok e
  obtain ⟨w',hw,rw'⟩:=RelO.some_of (v:=v) (o:=valueAt vs k) (by rw [l];exact rel.val k)
  exact wpAny_getItem_of (ziU ry) dd.mapOf hw (h w' _ (I.tok _) rw')
 ·subst ey
  cases (show u=Value.ref b from ry)
  obtain ⟨z,hd,xs,rel,dd⟩:=ziG I.hok e
  obtain ⟨w',hw,rw'⟩:=RelO.some_of (v:=v) (o:=(atKey xs k).map (·.2)) (by rw [l];exact rel.val k)
  obtain ⟨p,hp,hp2⟩:=Option.map_eq_some_iff.mp hw
  refine wpAny_getItem_heap (tupleKind_room_in1 hu) (zeV I.hok eb) dd hp ?_
  rw [hp2]
  exact h w' _ (I.tok _) rw'
theorem zer {h' : Heap} {t' : Nat} {ob:HO} (I:Inv X pins σ H s) (mu:Mut (H a)) (hs:Heap.SameBut a s.heap h') (he:∃ q,h'.get? a=some q) (new:jG X.prog X.w (upd H a ob) h' a ob) :
  Inv X pins σ (upd H a ob) { s with heap:=h',toks:=t' } :=
 I.write (x:=a) (e:=a) mu (.inl rfl) (fun b q hb z=>(hs.2 b hb).trans z) he new
theorem zj5 {P:Program} {w:World} {H' : Hp} {h' : Heap} {kvs:List (Key × V)} {vs:List (Key × Value)} (z:kvs.length ≤ sizeLine) (hd:(a == sysModules)=false) (rel:KV kvs vs) (dd:h'.DictOf (jK P w) a vs) :
  jG P w H' h' a (.dK kvs):=⟨z,hd,vs,rel,dd⟩
theorem zeq {H' : Hp} {Q:Unit→Shared→Prop} (hu:A.units + 1 < cLine) (I:Inv X pins σ H s) (g:DPut H a y v H') (ry:RelV y u) (rv:RelV v r) (h:∀ s',Inv X pins σ H' s'→Q () s') :
  wpAny (model X.prog X.w) A (setItem (.ref a) u r) Q E s:=by
 rcases g with ⟨kvs,k,e,ey,l,eH⟩ | ⟨kvs,k,b,e,ey,eb,l,eH⟩
 ·subst ey eH
  obtain ⟨z,hd,vs,rel,dd⟩:=zle I.hok e
  have hz:vs.length ≤ sizeLine:=by rw [← rel.length];exact z
  have hl:(putK kvs k v).length ≤ sizeLine:=by have:=vS kvs k v;omega
  refine wpAny_setItem_pairs (hsz:=hz) (ziU ry) dd fun h' dd' hs=>h _ ?_
  have he:∃ q,h'.get? a=some q:=let ⟨q,_,_,hq,_⟩:=dd';⟨q,hq⟩
  exact zer I (by rw [e];exact True.intro) hs he (zj5 hl hd (rel.put k rv) dd')
 ·subst ey eH
  cases (show u=Value.ref b from ry)
  obtain ⟨z,hd,xs,rel,dd⟩:=zlf I.hok e
  have hz:xs.length ≤ sizeLine:=by rw [← Paired.length rel];exact z
  have hl:(putK kvs k v).length ≤ sizeLine:=by have:=vS kvs k v;omega
  refine wpAny_setItem_heap (hsz:=hz) (tupleKind_room_in1 hu) (zeV I.hok eb) dd fun h' dd' hs=>h _ ?_
  obtain ⟨q,es,ep,hq,h2,h3,h4,_,h5⟩:=dd'
  refine zer I (by rw [e];exact True.intro) hs ⟨q,hq⟩ ⟨hl,hd,_,(rel.put k eb rv).keeps fun c ys ec => ?_,q,es,ep,hq,h2,h3,h4,h5⟩
  rw [zE (zkq ec e (fun z=>nomatch z))]
  exact ec
end
section
variable {X:Cx} {pins:List (Addr × Obj)} {σ:St} {H:Hp} {s:Shared} {a:Addr} {kvs:List (Key × V)} {k:Key} {u:Value} {A:Around} {E:Value→Shared→Prop}
end
noncomputable def NoSl (i:Expr):Prop:=∀ ov iv,subscripted i false ov iv=operate [ov,iv] (getItem ov iv)
theorem zjN {prog:Program} {w:World} {A:Around} {E:Value→Shared→Prop} {s:Shared} {env:Env} {value slice:Expr} {pos:Pos} {T id:String} {Q:Value→Shared→Prop}
  (hl:typeLookup (.type T) "__getitem__" = pure (some (.builtin id))) (hs:NoSl slice)
  (h:wpAny (model prog w) A (eval value env) (fun o s₁=>wpAny (model prog w) A (eval slice env) (fun i s₂=>s₂.TypeIs o T∧wpAny (model prog w) A (getItem o i) Q E s₂) E s₁) E s) :
  wpAny (model prog w) A (eval (.Subscript value slice pos) env) Q E s:=by
 refine Subscript_ (wpAny_mono h (fun o s₁ h₁=>wpAny_mono h₁ (fun i s₂ h₂ => ?_) fun _ _ x=>x) fun _ _ x=>x)
 obtain ⟨hT,h₂⟩:=h₂
 unfold subscriptTail
 refine wpAny_bind ?_
 rw [getitemInPython_of_ne hT.not_modules]
 refine wpAny_bind (wpAny_specialOf hT hl ?_)
 have fin:wpAny (model prog w) A (subscripted slice false o i) (fun r s₃=>wpAny (model prog w) A (letTemporaryGo value o r >>= fun _=>pure r) Q E s₃) E s₂:=by
  rw [hs o i]
  exact wpAny_operating (wpAny_mono h₂ (fun r s₃ h₃=>wpAny_bind (wpAny_letTemporaryGo (wpAny_pure h₃))) fun _ _ x=>x)
 first
  | exact wpAny_pure (wpAny_bind fin)
  | exact wpAny_bind (wpAny_pure (wpAny_bind fin))
  | exact wpAny_bind fin
theorem zbY {X:Cx} {pins:List (Addr × Obj)} {σ:St} {H:Hp} {s:Shared} {a:Addr} {y:V} {o:Option V} (I:Inv X pins σ H s) (g:DGet H a y o):s.TypeIs (.ref a) "dict" := by
 rcases g with ⟨kvs,k,e,_,_⟩ | ⟨kvs,k,b,e,_,_,_⟩
 ·obtain ⟨_,_,vs,_,dd⟩:=ziF I.hok e
  exact dd.typeIs
 ·obtain ⟨_,_,xs,_,dd⟩:=ziG I.hok e
  exact dd.typeIs
noncomputable def zlF (td ty:TE):TE:=fun σ H Q=>td σ H fun x H1=>ty σ H1 fun y H2=>∃ a v,x=.ref a∧DGet H2 a y (some v)∧Q v H2
noncomputable def zlz (td ty tv:TE):TS:=fun D σ H=>tv σ H fun v H1=>td σ H1 fun x H2=>ty σ H2 fun y H3=>∃ a H4,x=.ref a∧DPut H3 a y v H4∧D.nx σ H4
section
variable {X:Cx} {o i e value:Expr} {pos pos' tpos:Pos} {td ty tv:TE}
theorem zji (hu:X.A.units + 1 < cLine) (ho:PE X o td) (hi:PE X i ty) (hs:NoSl i):PE X (.Subscript o i pos) (zlF td ty):=by
 intro pins s σ H Q I h
 refine zjN PySem.F.slot_dict_getitem.lookup hs (thn (ho pins s σ H _ I h) fun u s1=>xe5 fun x H1 I1 rx q1=>thn (hi pins s1 σ H1 _ I1 q1) fun iv s2 hZq => ?_)
 obtain ⟨y,H2,I2,ry,a,v,ex,g,q2⟩:=hZq
 subst ex
 obtain rfl:u=Value.ref a:=rx
 exact ⟨zbY I2 g,zep hu I2 g ry fun w' s3 I3 rw'=>⟨v,H2,I3,rw',q2⟩⟩
theorem zjr (hu:X.A.units + 1 < cLine) (ho:PE X o td) (hi:PE X i ty) (hv:PE X value tv) (hs:swapsWith value (some (.Subscript o i pos')) pos.line X.env=pure false) :
  PS X (.Assign [.Subscript o i pos'] value pos) (zlz td ty tv):=by
 intro pins s σ H D I h
 refine wpAny_Assign_Subscript (thn (hv pins s σ H _ I h) fun r s1=>xe5 fun v H1 I1 rv q1=>thn (ho pins s1 σ H1 _ I1 q1) fun u s2=>xe5 fun x H2 I2 rx q2=>thn (hi pins s2 σ H2 _ I2 q2) fun iv s3 ⟨y,H3,I3,ry,a,H4,ex,g,q3⟩ => ?_) hs
 subst ex
 obtain rfl:u=Value.ref a:=rx
 exact zeq hu I3 g ry rv fun s4 I4=>⟨σ,H4,I4,q3⟩
end
theorem zgy {P:Program} {w:World} {H:Hp} (h:Heap) (hb:sysModules < h.objs.size):jG P w H (h.push { cls:=.type "dict",data:=.dict #[] }) h.objs.size (.dT []) :=
 ⟨Nat.zero_le _,beq_eq_false_iff_ne.mpr (Ne.symm (Nat.ne_of_lt hb)),[],.nil,_,#[],0,Heap.get?_push_size _ rfl,⟨rfl,rfl,rfl⟩,rfl,rfl,List.nodup_nil⟩
noncomputable def zk4:TE:=fun _ H Q=>∀ p,H p=none→Q (.ref p) (upd H p (.dT []))
section
variable {X:Cx} {pos:Pos}
theorem zhf:PE X (.Dict [] [] pos) zk4:=fun pins s σ H Q I h =>
 wpAny_Dict_empty ⟨.ref s.heap.objs.size,_,I.laid (a:=s.heap.objs.size) (o:=.dT []) (t':=s.toks) (fun _ _ q=>Heap.get?_push_of_some _ q) (Nat.le_refl _) (zgy s.heap I.big),rfl,h _ (I.hok.fresh (Nat.le_refl _))⟩
end
structure M1 (X:Cx) (o:Expr) (m:Str) (apos:Pos) (e:Expr) (cpos:Pos):Prop where
 base:attributeBase o m X.env (eval o X.env)=eval o X.env
 few:((backTo cpos (starEach [e] X.env)).all (fun x=>!x.1) && (backToKw cpos (keywordEach [] X.env)).all (fun x=>x.1.isSome)
  && decide (([e]:List Expr).length + ([]:List Keyword).length + (if ([]:List Keyword).isEmpty then 0 else 1) < 30))=true
 line:(apos.endLine == cpos.line)=true
 trees:backTo cpos (starEach [e] X.env)=[(false,eval e X.env)]
structure M2 (X:Cx) (o:Expr) (m:Str) (apos:Pos) (e f:Expr) (cpos:Pos):Prop where
 base:attributeBase o m X.env (eval o X.env)=eval o X.env
 few:((backTo cpos (starEach [e,f] X.env)).all (fun x=>!x.1) && (backToKw cpos (keywordEach [] X.env)).all (fun x=>x.1.isSome)
  && decide (([e,f]:List Expr).length + ([]:List Keyword).length + (if ([]:List Keyword).isEmpty then 0 else 1) < 30))=true
 line:(apos.endLine == cpos.line)=true
 trees:backTo cpos (starEach [e,f] X.env)=[(false,eval e X.env),(false,eval f X.env)]
section
variable {X:Cx} {pins:List (Addr × Obj)} {σ:St} {H:Hp} {s:Shared} {a:Addr} {y d:V} {u r:Value} {o:Option V} {A:Around} {E:Value→Shared→Prop}
end
section
variable {X:Cx} {o e f:Expr} {apos cpos:Pos} {td ty tx:TE}
end
section
variable {X:Cx} {pins:List (Addr × Obj)} {σ:St} {H:Hp} {s:Shared} {a:Addr} {kvs:List (Key × V)} {A:Around} {E:Value→Shared→Prop}
end
section
variable {X:Cx} {pins:List (Addr × Obj)} {σ:St} {H:Hp} {s:Shared} {a:Addr} {y:V} {u:Value} {A:Around} {E:Value→Shared→Prop}
end
end L2
namespace Att
open PySem PySem.W PySem.Calls PyProof.Rows
theorem vN {P:Params} {h:Heap}:∀ (ns:List Int) (vs:List Value),WellAll P h vs (ns.map WData.int)→IntsAre vs ns:=by
 intro ns
 induction ns with
 | nil =>
  intro vs w
  rw [List.map_nil] at w
  cases w
  exact .nil
 | cons n ns ih =>
  intro vs w
  rw [List.map_cons] at w
  cases w with
  | cons a b =>
   cases a
   exact .cons _ _ (ih _ b)
theorem zfK {l:OpenLaw} {n:Nat} (hn:l.most=some n) {P:Params} {h:Heap} {args:List WData} {vals:List Value}
  (hpre:l.row.toRowW.claim.pre args=true) (hwl:WellAll P h vals args) :
  ∃ a vs ns,vals=[Value.ref a]∧args=[WData.list (ns.map WData.int)]∧h.get? a=some { cls:=.type "list",data:=.seq vs.toArray }∧IntsAre vs ns∧ns.length ≤ n:=by
 have hsh:WShape.hasAll [] args [.list .int]=true:=(pre_splitW hpre).1
 have hc:l.pre.holds [] { args:=args }=true:=(pre_splitW hpre).2
 obtain ⟨d,r,rfl,h1,h2⟩:=hasAllW_cons hsh
 obtain rfl:=hasAllW_nil h2
 obtain ⟨xs,rfl,h3⟩:=hasW_list h1
 obtain ⟨ns,rfl⟩:=items_int h3
 have hlen:ns.length ≤ n:=by
  unfold OpenLaw.pre at hc
  have h4:(WTm.not (.lt (.lit (.int (n:Int))) (.len (.arg 0)))).holds [] { args:=[.list (ns.map .int)] }=true:=by
   have h4:=(holds_andW hc).1
   rw [hn] at h4
   exact h4
  have h5:=condW_of h4 (w_not (w_lt w_lit (w_len_list (w_arg rfl))))
  rw [List.length_map] at h5
  refine Nat.le_of_not_lt fun q => ?_
  have q' : (n:Int) < ((ns.length:Nat):Int):=by omega
  first
   | (rw [decide_eq_true q'] at h5;exact absurd h5 (by decide))
   | (simp at h5;omega)
 cases hwl with
 | cons w1 w2 =>
  cases w2
  cases w1 with
  | list ho hall=>exact ⟨_,_,ns,rfl,rfl,ho,vN ns _ hall,hlen⟩
theorem zfu (l:OpenLaw) (args:List WData):l.row.toRowW.claim.post args (.bool true) args=true :=
 postW_of (r:=l.row.toRowW) (X:=(true == true))
  (show WShape.has [] (.bool true) .bool=true by first | rfl | decide | simp [WShape.has,WShape.arms,WShape.armsAll])
  (show (WTm.eq .res (.lit (.bool true))).value [] { args:=args,res:=some (.bool true),after:=args }=some (.bool (true == true)) from w_eq_bool (w_res rfl) w_lit) rfl
theorem attach_call {l:OpenLaw} {n:Nat} {q:Program} {loose:List Str} {XP:(Str→Option Value)→Heap→Prop} {YP:World→Heap→Prop} {d:DefRec}
  (hn:l.most=some n) (hdf:d.params.defaults=[])
  (call:∀ (w:World) (s₀ s₁:Shared) (mg mb:Str→Option Value) (fa:Addr) (o:Obj) (pm cd doc:Value) (a:Addr) (vs:List Value) (ns:List Int),
   Ground q loose [] XP w s₀ mg mb s₁.heap→YP w s₁.heap →
   s₁.heap.get? fa=some o→o.data=.func (docDef d.name d.params d.body d.scope pm cd doc)→s₁.heap.CodeRec cd d.name→mg d.name=some (.ref fa) →
   s₁.heap.get? a=some { cls:=.type "list",data:=.seq vs.toArray }→IntsAre vs ns→ns.length ≤ n→s₁.gens=#[] →
   codeAny (model l.prog w) callerA (.call (.ref fa) ⟨[.ref a],[]⟩) (fun r s'=>r=.ok (.ret (.bool true))∧OldK s₁.heap s'.heap∧s'.os=s₁.os∧AllBare s'.gens) s₁) :
  WalkO q loose XP YP l.row.toRowW d [] (fun f vs=>PySem.call f vs):=by
 intro w s₀ s₁ mg mb G Y fa o pm cd doc dV kV ho hd hcd hD hmg hg args vals as hpre hlay hrd hwl hlo
 obtain rfl:dV=.none:=Dflts.none hD hdf
 obtain rfl:kV=.none:=Dflts.noKw hD
 obtain ⟨a,vs,ns,rfl,rfl,hobj,hints,hlen⟩:=zfK hn hpre hwl
 refine enter_call (codeAny_mono (call w s₀ s₁ mg mb fa o pm cd doc a vs ns G Y ho (fd_plain hd) hcd hmg hobj hints hlen hg) fun r s' hq => ?_)
 obtain ⟨rfl,h2,h3,h4⟩:=hq
 exact ⟨.inl ⟨.bool true,.bool true,[],rfl,fun _=>rfl,.bool true,zfu l _,fun _=>⟨List.Pairwise.nil,fun _ hm=>(nomatch hm)⟩⟩,h2,h3,h4⟩
section
variable {prog:Program} {w:World} {A:Around} {E:Value→Shared→Prop} {s:Shared} {K:Frag}
end
end Att
namespace L2
open PySem PySem.Spec PyProof.Rows
theorem zgd {vs:List Value} {ns:List Int} (r:IntsAre vs ns):Vals (ns.map V.int) vs:=by
 induction r with
 | nil=>exact .nil
 | cons n t _ ih=>exact .cons ⟨t,rfl⟩ ih
noncomputable def Only (H:Hp):Prop:=∀ b,H b=none ∨ ∃ o xs,H b=some (.frz o (.lst xs))
theorem zgZ {P:Program} {w:World} {K:PySem.W.Frag} {mg mb:Str→Option Value} {CX:CXT} {k:Nat} {fa a:Addr} {fd:FuncData} {x:Str} {sp:Sp} {s₁:Shared} {vs:List Value} {ns:List Int}
  (KX:K.In s₁.heap) (hns:s₁.heap.Ns mainGlobals mg) (hb:s₁.heap.Ns builtinsNs mb) (hbb:∀ x:Str,x ≠ "__name__" → mb x=bootBuiltins x) (hlim:s₁.heap.NoLimit) (hg:s₁.gens=#[])
  (ha:s₁.heap.get? a=some { cls:=.type "list",data:=.seq vs.toArray }) (hi:IntsAre vs ns) (hl:ns.length ≤ sizeLine) (hr:Room k callerA)
  (F:∀ base:Heap,K.In base→base.Ns mainGlobals mg→FnOk P w K mg base CX k fa fd [x] sp) (hbind:∀ (s:Shared) (u:Value),BindsTo s fd ⟨[u],[]⟩ [(x,u)])
  (hsp:∀ H:Hp,Only H→SqL K H a (ns.map V.int)→sp [.ref a] H (fun v _=>v=.bl true) fun _ _ _=>False)
  (hCX:∀ H e s',CX [] H s₁ (fun _ _ _=>False) e s'→False) :
  codeAny (model P w) callerA (.call (.ref fa) ⟨[.ref a],[]⟩) (fun r s'=>r=.ok (.ret (.bool true))∧OldK s₁.heap s'.heap∧s'.os=s₁.os∧AllBare s'.gens) s₁:=by
 have rv:=zgd hi
 have lenV:=hi.length
 -- from an abstract heap in which nothing but the script may be tracked
 have core:∀ H:Hp,Only H→SqL K H a (ns.map V.int)→HOk P w H s₁.heap→(∀ b,H b ≠ none→b=a)→(H a ≠ none→K.lookup a=none) →
   codeAny (model P w) callerA (.call (.ref fa) ⟨[.ref a],[]⟩) (fun r s'=>r=.ok (.ret (.bool true))∧OldK s₁.heap s'.heap∧s'.os=s₁.os∧AllBare s'.gens) s₁:=by
  intro H hO hS hok hA hK
  have base_of:∀ {b:Addr} {o:Obj},s₁.heap.get? b=some o→H b=none→(hidT s₁.heap H).get? b=some o:=fun e n=>zgK e n
  have noA:∀ {b:Addr} {o:Obj} {es:Array DictEntry} {ep:Nat},s₁.heap.get? b=some o→o.data=.dict es ep→H b=none:=fun {b o es ep} e d=>by
   cases q:H b with
   | none=>rfl
   | some u =>
    have e' : b=a:=hA b (by rw [q];simp)
    subst e'
    rw [ha] at e;cases e
    have d' : Data.seq vs.toArray _=Data.dict es ep:=d
    cases d'
  have nsK:∀ {b:Addr} {m:Str→Option Value},s₁.heap.Ns b m→(hidT s₁.heap H).Ns b m:=fun {b m} ⟨o,es,ep,e,d,r⟩=>⟨o,es,ep,base_of e (noA e d),d,r⟩
  have hKb:K.In (hidT s₁.heap H):=fun b o e=>base_of (KX b o e) (by
   cases q:H b with
   | none=>rfl
   | some u =>
    have e' : b=a:=hA b (by rw [q];simp)
    subst e'
    rw [hK (by rw [q];simp)] at e;cases e)
  have hM:Mod K mg (hidT s₁.heap H):=⟨hKb,nsK hns,⟨mb,nsK hb,hbb⟩,let ⟨mc,h1,h2⟩:=hlim;⟨mc,nsK h1,h2⟩⟩
  have e0:Env0 P w K mg (hidT s₁.heap H) callerA [] s₁ H:=⟨rfl,hM,fun b o e=>zi7 e,Nat.le_of_eq (zeL _ _),trivial,fun b hb=>absurd (show b ∈ ([]:List Addr) from hb) (by simp),hok,.of_eq hg⟩
  refine codeAny_mono ((F _ hKb (nsK hns)).run callerA [] s₁ H ⟨[.ref a],[]⟩ [.ref a] [.ref a] _ _ hr e0 (hbind s₁ (.ref a)) (.cons rfl .nil) (hsp H hO hS)) fun r s' h => ?_
  cases r with
  | error e=>exact (hCX H e s' h).elim
  | ok fl =>
   cases fl with
   | next=>exact False.elim h
   | brk=>exact False.elim h
   | cont=>exact False.elim h
   | ret u =>
    obtain ⟨v,H',os,bare,un,hok',r',q⟩:=h
    have q' : v=.bl true:=q
    subst q'
    obtain rfl:u=Value.bool true:=r'
    refine ⟨rfl,OldK.of_keep fun b o e => ?_,os,bare⟩
    cases q:H b with
    | none=>exact un.keep b o e q (by intro z;exact absurd (show b ∈ ([]:List Addr) from z) (by simp)) (by simp)
    | some u =>
     rcases hO b with z | ⟨ob,xs,z⟩
     ·rw [q] at z;cases z
     ·have z2:=un.frzs b ob _ z
      obtain ⟨e1,_⟩:=hok b _ z
      obtain ⟨e2,_⟩:=hok' b _ z2
      rw [e] at e1;cases e1
      exact e2
 cases hk:K.lookup a with
 | some o =>
  -- the script is one of the module's own objects
  have e:=KX a o hk
  rw [ha] at e
  cases e
  refine core (fun _=>none) (fun _=>.inl rfl) (.inr ⟨_,vs.toArray,_,hk,rfl,rfl,rfl,by rw [List.size_toArray,lenV];exact hl,by simpa using rv⟩) (fun b u z=>by have z' : (none:Option HO)=some u:=z;cases z') (fun b z=>absurd rfl z) fun z=>absurd rfl z
 | none =>
  refine core (fun b=>if b=a then some (.frz { cls:=.type "list",data:=.seq vs.toArray } (.lst (ns.map V.int))) else none) (fun b => ?_) (.inl (.inr ⟨{ cls:=.type "list",data:=.seq vs.toArray },if_pos rfl⟩)) (fun b u z => ?_) (fun b z => ?_) fun _=>hk
  ·by_cases hb:b=a
   ·exact .inr ⟨_,_,if_pos hb⟩
   ·exact .inl (if_neg hb)
  ·by_cases hb:b=a
   ·have z':=(if_pos hb).symm.trans z
    cases z'
    subst hb
    exact ⟨ha,by rw [List.length_map];exact hl,vs,_,rv,ha⟩
   ·have z':=(if_neg hb).symm.trans z
    cases z'
  ·by_cases hb:b=a
   ·exact hb
   ·exact absurd (if_neg hb) z
end L2
namespace L2
open PySem PySem.Spec PyProof.Rows
theorem walk_of {l:PySem.W.OpenLaw} {n k:Nat} {q:Program} {loose:List Str} {XP:(Str→Option Value)→Heap→Prop} {YP:World→Heap→Prop} {d:DefRec} {K:Params→PySem.W.Frag} {CX:World→CXT} {sp:World→Sp} {x:Str}
  (hn:l.most=some n) (hn2:n ≤ sizeLine) (hdf:d.params.defaults=[]) (hr:Room k callerA)
  (hY:∀ (w:World) (h:Heap),YP w h→(K w.params).In h)
  (F:∀ (w:World) (mg:Str→Option Value) (fa:Addr) (h:Heap),(K w.params).In h→h.Ns mainGlobals mg→mg d.name=some (.ref fa) →
   ∃ fd:FuncData,(∀ (s:Shared) (u:Value),BindsTo s fd ⟨[u],[]⟩ [(x,u)]) ∧
    ∀ base:Heap,(K w.params).In base→base.Ns mainGlobals mg→FnOk l.prog w (K w.params) mg base (CX w) k fa fd [x] (sp w))
  (hsp:∀ (w:World) (H:Hp) (a:Addr) (ns:List Int),ns.length ≤ n→Only H→SqL (K w.params) H a (ns.map V.int)→sp w [.ref a] H (fun v _=>v=.bl true) fun _ _ _=>False)
  (hCX:∀ (w:World) (H:Hp) (s:Shared) (e:Value) (s' : Shared),CX w [] H s (fun _ _ _=>False) e s'→False) :
  PySem.W.WalkO q loose XP YP l.row.toRowW d [] (fun f vs=>PySem.call f vs):=by
 refine Att.attach_call hn hdf fun w s₀ s₁ mg mb fa o pm cd doc a vs ns G Y ho hd hcd hmg hobj hints hlen hg => ?_
 have KX:=hY w _ Y
 obtain ⟨fd,hb,hF⟩:=F w mg fa _ KX G.T.g hmg
 exact zgZ KX G.T.g G.T.b G.T.builtins G.T.nolimit hg hobj hints (Nat.le_trans hlen hn2) hr hF hb (fun H hO hS=>hsp w H a ns hlen hO hS) fun H e s'=>hCX w H s₁ e s'
end L2
namespace L2
open PySem PySem.Spec PyProof.Rows
noncomputable def zq (s:Stmt):Arguments:=match s with
 | .FunctionDef _ a _ _ _ _ _ _ _ _=>a
 | _=>{ posonlyargs:=[],args:=[],vararg:=none,kwonlyargs:=[],kw_defaults:=[],kwarg:=none,defaults:=[] }
noncomputable def zk (s:Stmt):List Stmt:=match s with
 | .FunctionDef _ _ b _ _ _ _ _ _ _=>b
 | _=>[]
noncomputable def zd (s:Stmt):Scope:=match s with
 | .FunctionDef _ _ _ _ _ _ sc _ _ _=>sc
 | _=>{ kind:=.function,names:=[],isGenerator:=false,isCoroutine:=false }
noncomputable abbrev CX0:CXT:=fun _ _ _ _ _ _=>False
noncomputable abbrev E0:XK:=fun _ _ _=>False
theorem zlr {X:Cx}:zdU CX0 X E0:=fun _ _ _ _ _ _ _ h=>h.elim
structure Fun (K:PySem.W.Frag) (x qual:Str) (st:Stmt) (f:Addr) (fd:FuncData):Prop where
 ex:∃ (oc:Value) (od:Option Addr) (kV doc pm:Value) (an:Option Addr) (cdv ct:Value) (osl:Array (Option Value)),
  fd=PySem.W.fnOf x qual (zq st) (zk st) (zd st) .none kV doc pm an cdv ct∧K.lookup f=some ⟨oc,od,.func fd,osl⟩∧PySem.W.codeIn K cdv qual=true
 kp:PySem.W.keepIn K (.ref f)=true
section
variable {P:Program} {w:World} {K:PySem.W.Frag} {mg:Str→Option Value} {base:Heap}
theorem Fun.ok {x qual:Str} {st:Stmt} {f:Addr} {fd:FuncData} {N ps:List Str} {k:Nat} {sp:Sp} (F:Fun K x qual st f fd) (S:FnScope N ps (zd st)) (len:∀ vs H Q E,sp vs H Q E→vs.length=ps.length)
  (hbody:∀ (cdv:Value) (A:Around) (outer:List Env) (s:Shared) (H:Hp) (vs:List V) (Q:VK) (E:XK),Room k (A.deeper (envOfC qual (zd st) s.heap.objs.size f cdv))→sp vs H Q E →
   ∃ t,PSs (cxOf CX0 P w K mg base N qual (zd st) f cdv A outer s H E).nox (zk st) t∧t { nx:=fun _ H'=>Q .non H',rt:=Q } (start N vs) H):FnOk P w K mg base CX0 (k + 1) f fd ps sp:=by
 obtain ⟨oc,od,kV,doc,pm,an,cdv,ct,osl,rfl,lk,hcd⟩:=F.ex
 refine zlh lk hcd S len fun A outer s H vs Q E hr hsp => ?_
 obtain ⟨t,h,q⟩:=hbody cdv A outer s H vs Q E hr hsp
 exact ⟨t,h.nox,q⟩
theorem Fun.binds {x qual:Str} {st:Stmt} {f:Addr} {fd:FuncData} {ps:List Str} (F:Fun K x qual st f fd)
  (h:∀ (kV doc pm:Value) (an:Option Addr) (cdv ct:Value) (us:List Value),us.length=ps.length→bindArgs (PySem.W.fnOf x qual (zq st) (zk st) (zd st) .none kV doc pm an cdv ct) ⟨us,[]⟩=pure (ps.zip us)):Binds K fd ps []:=by
 obtain ⟨oc,od,kV,doc,pm,an,cdv,ct,osl,rfl,lk,hcd⟩:=F.ex
 exact .all (h kV doc pm an cdv ct)
theorem zZ {x qual:Str} {st:Stmt} {f:Addr} {oc:Value} {od an:Option Addr} {osl:Array (Option Value)} {kV doc pm cdv ct:Value} (l:K.lookup f=some ⟨oc,od,.func (PySem.W.fnOf x qual (zq st) (zk st) (zd st) .none kV doc pm an cdv ct),osl⟩)
  (c:PySem.W.codeIn K cdv qual=true) (k:PySem.W.keepIn K (.ref f)=true):Fun K x qual st f (PySem.W.fnOf x qual (zq st) (zk st) (zd st) .none kV doc pm an cdv ct):=⟨⟨oc,od,kV,doc,pm,an,cdv,ct,osl,rfl,l,c⟩,k⟩
end
theorem zli {A:Around} {k:Nat} (hr:Room k A):A.units + 1 < cLine:=Nat.lt_of_le_of_lt (Nat.add_le_add_left (by decide:1 ≤ 64) _) hr.units
section
variable {X:Cx}
theorem pv (i:Nat) {x:Str} {pos:Pos} (hN:autoParam (X.N[i]?=some x) aTc) (hv:autoParam (Vis X.env.scope x) aTa) (hd:autoParam ((x == ("__debug__" : Str))=false) aTb)
  (hcd:autoParam ((x == ("__classdict__" : Str))=false) aTb):PE X (.Name x pos) (tVar i):=zkJ hN hv hd hcd
end
theorem iteF {A B:Prop} (h:B):if false=true then A else B:=by
 rw [if_neg Bool.false_ne_true]
 exact h
theorem iteT {A B:Prop} (h:A):if true=true then A else B:=by
 rw [if_pos rfl]
 exact h
noncomputable def Same (H H' : Hp):Prop:=∀ b o,H b=some o→H' b=some o
theorem Same.refl (H:Hp):Same H H:=fun _ _ h=>h
theorem Same.trans {H H1 H2:Hp} (a:Same H H1) (b:Same H1 H2):Same H H2:=fun c o h=>b c o (a c o h)
theorem Same.free {H H' : Hp} (e:Same H H') {l:Addr} (h:H' l=Option.none):H l=Option.none:=by
 cases q:H l with
 | none=>rfl
 | some o =>
  rw [e l o q] at h
  cases h
end L2
namespace L2
open PySem PySem.Spec PyProof.Rows
section
variable {X:Cx}
end
section
variable {κ:Type} [DecidableEq κ]
end
end L2
namespace L2.Y
open PySem PySem.Spec PyProof.Rows
noncomputable abbrev Frag:=PySem.W.Frag
mutual
/-- the value v is worth d over the heap H -/
inductive Rep (K:Frag) (H:Hp):D→V→Prop
 | non:Rep K H .none .non
 | bl (b:Bool):Rep K H (.bool b) (.bl b)
 | int (i:Int):Rep K H (.int i) (.int i)
 | str (x:Str):Rep K H (.str x) (.str x)
 | tup {a:Addr} {xs:List V} {ds:List D}:H a=some (.tup xs)→Reps K H ds xs→Rep K H (.tuple ds) (.ref a)
 | lst {a:Addr} {xs:List V} {ds:List D}:Rd H a (.lst xs)→Reps K H ds xs→Rep K H (.list ds) (.ref a)
 | dK {a:Addr} {kvs:List (Key × V)} {ds:List D}:H a=some (.dK kvs)→Reps K H ds (kvs.map (·.2))→Rep K H (.dict ((kvs.map fun p=>keyD p.1).zip ds)) (.ref a)
 | dT {a:Addr} {kvs:List (List Key × V)} {ds:List D}:H a=some (.dT kvs)→Reps K H ds (kvs.map (·.2))→Rep K H (.dict ((.none,.none) :: (kvs.map fun p=>wC p.1).zip ds)) (.ref a)
 | dF {a:Addr} {o:Obj} {kvs:List (List Key × V)} {ds:List D}:H a=some (.frz o (.dT kvs))→Reps K H ds (kvs.map (·.2))→Rep K H (.dict ((.none,.int 0) :: (kvs.map fun p=>wC p.1).zip ds)) (.ref a)
 | adr (a:Addr):Rep K H (.dict [(.none,.str "e"),(.none,.int a)]) (.ref a)
 | scr {a:Addr} {xs:List V} {ds:List D}:SqL K H a xs→Reps K H ds xs→Rep K H (.dict ((.none,.bool true) :: ds.map fun d=>(.none,d))) (.ref a)
inductive Reps (K:Frag) (H:Hp):List D→List V→Prop
 | nil:Reps K H [] []
 | cons {d:D} {v:V} {ds:List D} {vs:List V}:Rep K H d v→Reps K H ds vs→Reps K H (d :: ds) (v :: vs)
end
section
variable {K:Frag} {H H' : Hp} {d:D} {v:V} {ds:List D} {vs:List V}
theorem Rd.same {a:Addr} {u:HO} (s:Same H H') (h:Rd H a u):Rd H' a u:=by
 rcases h with h | ⟨o,h⟩
 ·exact .inl (s _ _ h)
 ·exact .inr ⟨o,s _ _ h⟩
theorem SqT.same {a:Addr} {xs:List V} (s:Same H H') (h:SqT K H a xs):SqT K H' a xs:=by
 rcases h with h | h
 ·exact .inl (Rd.same s h)
 ·exact .inr h
theorem SqL.same {a:Addr} {xs:List V} (s:Same H H') (h:SqL K H a xs):SqL K H' a xs:=by
 rcases h with h | h
 ·exact .inl (Rd.same s h)
 ·exact .inr h
theorem zbD (s:Same H H'):(∀ {d:D} {v:V},Rep K H d v→Rep K H' d v)∧∀ {ds:List D} {vs:List V},Reps K H ds vs→Reps K H' ds vs:=by
 constructor
 ·intro d v r
  exact Rep.rec (motive_1:=fun d v _=>Rep K H' d v) (motive_2:=fun ds vs _=>Reps K H' ds vs) .non .bl .int .str (fun h _ ih=>.tup (s _ _ h) ih) (fun h _ ih=>.lst (Rd.same s h) ih) (fun h _ ih=>.dK (s _ _ h) ih) (fun h _ ih=>.dT (s _ _ h) ih) (fun h _ ih=>.dF (s _ _ h) ih) .adr (fun h _ ih=>.scr (SqL.same s h) ih) .nil (fun _ _ a b=>.cons a b) r
 ·intro d v r
  exact Reps.rec (motive_1:=fun d v _=>Rep K H' d v) (motive_2:=fun ds vs _=>Reps K H' ds vs) .non .bl .int .str (fun h _ ih=>.tup (s _ _ h) ih) (fun h _ ih=>.lst (Rd.same s h) ih) (fun h _ ih=>.dK (s _ _ h) ih) (fun h _ ih=>.dT (s _ _ h) ih) (fun h _ ih=>.dF (s _ _ h) ih) .adr (fun h _ ih=>.scr (SqL.same s h) ih) .nil (fun _ _ a b=>.cons a b) r
theorem Rep.same (s:Same H H') {d:D} {v:V} (r:Rep K H d v):Rep K H' d v:=(zbD s).1 r
theorem Reps.same (s:Same H H') {ds:List D} {vs:List V} (r:Reps K H ds vs):Reps K H' ds vs:=(zbD s).2 r
theorem Reps.ind {P:List D→List V→Prop} (n:P [] []) (c:∀ d v ds vs,Rep K H d v→Reps K H ds vs→P ds vs→P (d :: ds) (v :: vs)) {ds:List D} {vs:List V} (r:Reps K H ds vs):P ds vs :=
 Reps.rec (motive_1:=fun _ _ _=>True) (motive_2:=fun ds vs _=>P ds vs) trivial (fun _=>trivial) (fun _=>trivial) (fun _=>trivial) (fun _ _ _=>trivial) (fun _ _ _=>trivial) (fun _ _ _=>trivial) (fun _ _ _=>trivial) (fun _ _ _=>trivial) (fun _=>trivial) (fun _ _ _=>trivial) n (fun a b _ ih=>c _ _ _ _ a b ih) r
theorem Reps.length {ds:List D} {vs:List V} (r:Reps K H ds vs):ds.length=vs.length:=r.ind (P:=fun ds vs=>ds.length=vs.length) rfl fun _ _ _ _ _ _ ih=>by rw [List.length_cons,List.length_cons,ih]
theorem Reps.get {ds:List D} {vs:List V} {i:Nat} {d:D} (r:Reps K H ds vs):ds[i]?=some d→∃ v,vs[i]?=some v∧Rep K H d v:=by
 refine r.ind (P:=fun ds vs=>∀ i,ds[i]?=some d→∃ v,vs[i]?=some v∧Rep K H d v) (fun i e=>by simp at e) (fun d' v' ds vs h _ ih i e => ?_) i
 cases i with
 | zero=>simp at e;subst e;exact ⟨_,rfl,h⟩
 | succ i =>
  obtain ⟨v,h1,h2⟩:=ih i (by simpa using e)
  exact ⟨v,by simpa using h1,h2⟩
theorem Reps.getV {ds:List D} {vs:List V} {i:Nat} {v:V} (r:Reps K H ds vs):vs[i]?=some v→∃ d,ds[i]?=some d∧Rep K H d v:=by
 refine r.ind (P:=fun ds vs=>∀ i,vs[i]?=some v→∃ d,ds[i]?=some d∧Rep K H d v) (fun i e=>by simp at e) (fun d' v' ds vs h _ ih i e => ?_) i
 cases i with
 | zero=>simp at e;subst e;exact ⟨_,rfl,h⟩
 | succ i =>
  obtain ⟨v,h1,h2⟩:=ih i (by simpa using e)
  exact ⟨v,by simpa using h1,h2⟩
theorem Reps.append {ds es:List D} {vs ws:List V} (r:Reps K H ds vs) (s:Reps K H es ws):Reps K H (ds ++ es) (vs ++ ws):=r.ind (P:=fun ds vs=>Reps K H (ds ++ es) (vs ++ ws)) s fun _ _ _ _ a _ ih=>.cons a ih
theorem Reps.take {ds:List D} {vs:List V} (n:Nat) (r:Reps K H ds vs):Reps K H (ds.take n) (vs.take n):=by
 refine r.ind (P:=fun ds vs=>∀ n,Reps K H (ds.take n) (vs.take n)) (fun n=>by rw [List.take_nil,List.take_nil];exact .nil) (fun _ _ _ _ a _ ih n => ?_) n
 cases n with
 | zero=>exact .nil
 | succ n=>exact .cons a (ih n)
theorem Reps.drop {ds:List D} {vs:List V} (n:Nat) (r:Reps K H ds vs):Reps K H (ds.drop n) (vs.drop n):=by
 refine r.ind (P:=fun ds vs=>∀ n,Reps K H (ds.drop n) (vs.drop n)) (fun n=>by rw [List.drop_nil,List.drop_nil];exact .nil) (fun _ _ _ _ a b ih n => ?_) n
 cases n with
 | zero=>exact .cons a b
 | succ n=>exact ih n
theorem Reps.set {ds:List D} {vs:List V} (i:Nat) {d:D} {v:V} (r:Reps K H ds vs) (q:Rep K H d v):Reps K H (ds.set i d) (vs.set i v):=by
 refine r.ind (P:=fun ds vs=>∀ i,Reps K H (ds.set i d) (vs.set i v)) (fun n=>.nil) (fun _ _ _ _ a b ih n => ?_) i
 cases n with
 | zero=>exact .cons q b
 | succ n=>exact .cons a (ih n)
theorem Reps.one (h:Rep K H d v):Reps K H [d] [v]:=.cons h .nil
theorem Reps.inv1 (h:Reps K H [d] vs):∃ v,vs=[v]∧Rep K H d v:=by
 cases h with
 | cons h r=>cases r;exact ⟨_,rfl,h⟩
theorem Reps.ints:∀ {is:List Int} {vs:List V},Reps K H (is.map PyData.int) vs→vs=is.map V.int
 | [],_,h=>by cases h;rfl
 | i :: is,_,h=>by
  cases h with
  | cons h r=>cases h;rw [Reps.ints r];rfl
end
noncomputable def hide (O:List Addr) (H:Hp):Hp:=fun a=>if a ∈ O then none else H a
section
variable {O O' : List Addr} {H H' : Hp} {a:Addr} {o:HO}
theorem qi (h:a ∉ O):hide O H a=H a:=if_neg h
theorem qt (h:hide O H a=some o):a ∉ O∧H a=some o:=by
 unfold hide at h
 split at h
 ·cases h
 ·exact ⟨by assumption,h⟩
theorem zR (s:Same H H'):Same (hide O H) (hide O H'):=fun b o e=>by
 obtain ⟨h1,h2⟩:=qt e
 rw [qi h1];exact s _ _ h2
theorem jd:Same (hide O H) H:=fun _ _ e=>(qt e).2
theorem qA (h:∀ p ∈ O',p ∈ O):Same (hide O H) (hide O' H):=fun b o e=>by
 obtain ⟨h1,h2⟩:=qt e
 rw [qi fun z=>h1 (h b z)];exact h2
theorem zgL:hide [] H=H:=by funext a;exact qi (by simp)
theorem je (h:a ∈ O):hide O (upd H a o)=hide O H:=by
 funext b
 unfold hide
 split
 ·rfl
 ·rw [zE];rintro rfl;contradiction
theorem jg (h:H a=none):Same H (upd H a o):=fun b u e=>by
 rw [zE (zV e h)];exact e
end
inductive OwnAt (K:Frag) (O:List Addr) (H:Hp):D→Addr→Prop
 | lst {p:Addr} {xs:List V} {ds:List D}:H p=some (.lst xs)→Reps K (hide O H) ds xs→OwnAt K O H (.list ds) p
 | dK {p:Addr} {kvs:List (Key × V)} {ds:List D}:H p=some (.dK kvs)→Reps K (hide O H) ds (kvs.map (·.2))→OwnAt K O H (.dict ((kvs.map fun q=>keyD q.1).zip ds)) p
 | dT {p:Addr} {kvs:List (List Key × V)} {ds:List D}:H p=some (.dT kvs)→Reps K (hide O H) ds (kvs.map (·.2))→OwnAt K O H (.dict ((.none,.none) :: (kvs.map fun q=>wC q.1).zip ds)) p
noncomputable def Dom (O:List Addr) (H:Hp):Prop:=∀ p ∈ O,∃ o,H p=some o∧∀ xs,o ≠ .tup xs
theorem Dom.same {O:List Addr} {H H' : Hp} (h:Dom O H) (s:Same H H'):Dom O H':=fun p hp=>let ⟨o,e,n⟩:=h p hp;⟨o,s _ _ e,n⟩
theorem Dom.out {O:List Addr} {H:Hp} (h:Dom O H) {p:Addr} (e:H p=none):p ∉ O:=fun z=>by
 obtain ⟨o,e',_⟩:=h p z
 rw [e] at e';cases e'
theorem Dom.tup {O:List Addr} {H:Hp} (h:Dom O H) {p:Addr} {xs:List V} (e:H p=some (.tup xs)):p ∉ O:=fun z=>by
 obtain ⟨o,e',n⟩:=h p z
 rw [e] at e';cases e'
 exact n xs rfl
structure Fx where
 H0:Hp
 Oc:List Addr
 V0:Hp
structure SR (K:Frag) (F:Fx) (O:List Addr) (ρ:Env') (σ:St) (H:Hp):Prop where
 hb:Same F.H0 H
 vb:Same F.V0 (hide O H)
 oc:∀ p ∈ F.Oc,p ∈ O
 dom:Dom O H
 len:σ.length=ρ.length
 val:∀ (i:Nat) d,ρ[i]?=some (some (.val d))→∃ v,σ[i]?=some (some v)∧Rep K (hide O H) d v
 own:∀ (i:Nat) d,ρ[i]?=some (some (.own d))→∃ p,σ[i]?=some (some (.ref p))∧p ∈ O∧(p ∉ F.Oc∧F.H0 p=none)∧OwnAt K O H d p
 sep:∀ (i j:Nat) d d' p,ρ[i]?=some (some (.own d))→ρ[j]?=some (some (.own d'))→σ[i]?=some (some (.ref p))→σ[j]?=some (some (.ref p))→i=j
theorem OwnAt.same {K:Frag} {O:List Addr} {H H' : Hp} {d:D} {p:Addr} (s:Same H H') (h:OwnAt K O H d p):OwnAt K O H' d p:=by
 cases h with
 | lst h r=>exact .lst (s _ _ h) (r.same (zR s))
 | dK h r=>exact .dK (s _ _ h) (r.same (zR s))
 | dT h r=>exact .dT (s _ _ h) (r.same (zR s))
section
variable {K:Frag} {F:Fx} {O:List Addr} {ρ:Env'} {σ:St} {H H' : Hp}
theorem SR.same (r:SR K F O ρ σ H) (s:Same H H'):SR K F O ρ σ H' where
 hb:=r.hb.trans s
 vb:=r.vb.trans (zR s)
 oc:=r.oc
 dom:=r.dom.same s
 len:=r.len
 val:=fun i d e=>let ⟨v,h1,h2⟩:=r.val i d e;⟨v,h1,h2.same (zR s)⟩
 own:=fun i d e=>let ⟨p,h1,h2,h3,h4⟩:=r.own i d e;⟨p,h1,h2,h3,h4.same s⟩
 sep:=r.sep
theorem SR.fresh (r:SR K F O ρ σ H) {p:Addr} (h:H p=none):p ∉ O:=r.dom.out h
end
inductive RepB (K:Frag) (O:List Addr) (H:Hp):D→V→Prop
 | val {d:D} {v:V}:Rep K (hide O H) d v→RepB K O H d v
 | own {d:D} {p:Addr}:p ∈ O→OwnAt K O H d p→RepB K O H d (.ref p)
inductive RepBs (K:Frag) (O:List Addr) (H:Hp):List D→List V→Prop
 | nil:RepBs K O H [] []
 | cons {d:D} {v:V} {ds:List D} {vs:List V}:RepB K O H d v→RepBs K O H ds vs→RepBs K O H (d :: ds) (v :: vs)
theorem RepB.same {K:Frag} {O:List Addr} {H H' : Hp} {d:D} {v:V} (s:Same H H') (h:RepB K O H d v):RepB K O H' d v:=by
 cases h with
 | val h=>exact .val (h.same (zR s))
 | own h h'=>exact .own h (h'.same s)
section
variable {K:Frag} {O:List Addr} {H:Hp} {v:V}
theorem RepB.non (h:RepB K O H .none v):v=.non:=by
 cases h with
 | val h=>cases h;rfl
 | own _ h=>cases h
theorem RepB.bl {b:Bool} (h:RepB K O H (.bool b) v):v=.bl b:=by
 cases h with
 | val h=>cases h;rfl
 | own _ h=>cases h
theorem RepB.int {i:Int} (h:RepB K O H (.int i) v):v=.int i:=by
 cases h with
 | val h=>cases h;rfl
 | own _ h=>cases h
theorem RepB.str {x:Str} (h:RepB K O H (.str x) v):v=.str x:=by
 cases h with
 | val h=>cases h;rfl
 | own _ h=>cases h
theorem RepB.tup {ds:List D} (h:RepB K O H (.tuple ds) v):∃ a xs,v=.ref a∧SqT K H a xs∧Reps K (hide O H) ds xs:=by
 cases h with
 | val h =>
  cases h with
  | tup h r=>exact ⟨_,_,rfl,.inl (.inl (jd _ _ h)),r⟩
 | own _ h=>cases h
theorem RepB.lstR {ds:List D} (h:RepB K O H (.list ds) v):∃ a xs,v=.ref a∧Rd H a (.lst xs)∧Reps K (hide O H) ds xs:=by
 cases h with
 | val h =>
  cases h with
  | lst h r=>exact ⟨_,_,rfl,Rd.same jd h,r⟩
 | own _ h =>
  cases h with
  | lst h r=>exact ⟨_,_,rfl,.inl h,r⟩
theorem RepB.lst {ds:List D} (h:RepB K O H (.list ds) v):∃ a xs,v=.ref a∧SqL K H a xs∧Reps K (hide O H) ds xs:=by
 obtain ⟨a,xs,e,h1,h2⟩:=h.lstR
 exact ⟨a,xs,e,.inl h1,h2⟩
end
noncomputable def tD (K:Frag) (g:Env'→Option D):TE:=fun σ H Q=>∃ F O ρ d,SR K F O ρ σ H∧g ρ=some d∧∀ v H',Same H H'→Rep K (hide O H') d v→Q v H'
noncomputable def tBo (K:Frag) (g:Env'→Option D):TE:=fun σ H Q=>∃ F O ρ d,SR K F O ρ σ H∧g ρ=some d∧∀ v H',Same H H'→RepB K O H' d v→Q v H'
noncomputable def tTd (K:Frag) (g:Env'→Option Bool):TT:=fun σ H Q=>∃ F O ρ b,SR K F O ρ σ H∧g ρ=some b∧∀ H',Same H H'→Q b H'
noncomputable def tAd (K:Frag) (g:Env'→Option (List D)):TA:=fun σ H Q=>∃ F O ρ ds,SR K F O ρ σ H∧g ρ=some ds∧∀ vs H',Same H H'→Reps K (hide O H') ds vs→Q vs H'
noncomputable def tAb (K:Frag) (g:Env'→Option (List D)):TA:=fun σ H Q=>∃ F O ρ ds,SR K F O ρ σ H∧g ρ=some ds∧∀ vs H',Same H H'→RepBs K O H' ds vs→Q vs H'
noncomputable def PD (X:Cx) (e:Expr) (g:Env'→Option D):Prop:=PE X e (tD X.K g)
noncomputable def PB (X:Cx) (e:Expr) (g:Env'→Option D):Prop:=PE X e (tBo X.K g)
noncomputable def PTd (X:Cx) (e:Expr) (g:Env'→Option Bool):Prop:=PT X e (tTd X.K g)
noncomputable def PAd (X:Cx) (es:List Expr) (g:Env'→Option (List D)):Prop:=PA X es (tAd X.K g)
noncomputable def PAb (X:Cx) (es:List Expr) (g:Env'→Option (List D)):Prop:=PA X es (tAb X.K g)
theorem PE.imp {X:Cx} {e:Expr} {t t' : TE} (h:PE X e t) (k:∀ σ H Q,t' σ H Q→t σ H Q):PE X e t':=fun pins s σ H Q I h'=>h pins s σ H Q I (k σ H Q h')
theorem PT.imp {X:Cx} {e:Expr} {t t' : TT} (h:PT X e t) (k:∀ σ H Q,t' σ H Q→t σ H Q):PT X e t':=fun pins s σ H Q I h'=>h pins s σ H Q I (k σ H Q h')
theorem PA.imp {X:Cx} {es:List Expr} {t t' : TA} (h:PA X es t) (k:∀ σ H Q,t' σ H Q→t σ H Q):PA X es t':=fun pos pins s σ H Q I h'=>h pos pins s σ H Q I (k σ H Q h')
theorem PS.imp {X:Cx} {e:Stmt} {t t' : TS} (h:PS X e t) (k:∀ D σ H,t' D σ H→t D σ H):PS X e t':=fun pins s σ H D I h'=>h pins s σ H D I (k D σ H h')
theorem PSs.imp {X:Cx} {e:List Stmt} {t t' : TS} (h:PSs X e t) (k:∀ D σ H,t' D σ H→t D σ H):PSs X e t':=fun pins s σ H D I h'=>h pins s σ H D I (k D σ H h')
theorem PD.b {X:Cx} {e:Expr} {g:Env'→Option D} (h:PD X e g):PB X e g:=by
 refine PE.imp h fun σ H Q hz => ?_
 obtain ⟨F,O,ρ,d,r,e,k⟩:=hz
 exact ⟨F,O,ρ,d,r,e,fun v H' s q=>k v H' s (.val q)⟩
section
variable {X:Cx} {e a b:Expr} {es:List Expr} {pos:Pos}
theorem zb {i:Nat} {x:Str} (h:PE X (.Name x pos) (tVar i)):PD X (.Name x pos) (gVar i):=PE.imp h fun σ H Q hZq=>by
 obtain ⟨F,O,ρ,d,r,e,k⟩:=hZq
 unfold gVar at e
 split at e
 ·rename_i d' q
  cases e
  obtain ⟨v,h1,h2⟩:=r.val i _ q
  exact ⟨v,h1,k v H (Same.refl _) h2⟩
 ·cases e
theorem zbv {i:Nat} {x:Str} (h:PE X (.Name x pos) (tVar i)):PB X (.Name x pos) (zar i):=PE.imp h fun σ H Q hZq=>by
 obtain ⟨F,O,ρ,d,r,e,k⟩:=hZq
 unfold zar at e
 split at e
 ·rename_i d' q
  cases e
  obtain ⟨v,h1,h2⟩:=r.val i _ q
  exact ⟨v,h1,k v H (Same.refl _) (.val h2)⟩
 ·rename_i d' q
  cases e
  obtain ⟨p,h1,h2,h3,h4⟩:=r.own i _ q
  exact ⟨_,h1,k _ H (Same.refl _) (.own h2 h4)⟩
 ·cases e
theorem zcR {v:V} {d:D} (h:PE X e (tC v)) (r:∀ H,Rep X.K H d v):PD X e (fun _=>some d):=PE.imp h fun σ H Q hZq=>by
 obtain ⟨F,O,ρ,d',_,e,k⟩:=hZq
 cases e
 exact k v H (Same.refl _) (r _)
theorem zkB {i j}:PD X (.Constant (.int i) j pos) (fun _=>some (.int i)):=zcR zkE fun _=>.int i
theorem zls {i j}:PD X (.Constant (.bool i) j pos) (fun _=>some (.bool i)):=zcR zlt fun _=>.bl i
noncomputable def OpD (X:Cx) (f:Value→Value→Sem Value) (h:D→D→Option D):Prop :=
 ∀ (pins:List (Addr × Obj)) (s:Shared) (σ:St) (H:Hp) (O:List Addr) (x y:V) (v u:Value) (dx dy d:D) (Q:VK),Inv X pins σ H s→Dom O H→RelV x v→RelV y u→RepB X.K O H dx x→RepB X.K O H dy y→h dx dy=some d →
  (∀ z H',Same H H'→Rep X.K (hide O H') d z→Q z H')→wpAny (model X.prog X.w) X.A (f v u) (EP X pins σ Q) X.xe s
noncomputable def UnD (X:Cx) (f:Value→Sem Value) (h:D→Option D):Prop :=
 ∀ (pins:List (Addr × Obj)) (s:Shared) (σ:St) (H:Hp) (O:List Addr) (x:V) (v:Value) (dx d:D) (Q:VK),Inv X pins σ H s→Dom O H→RelV x v→RepB X.K O H dx x→h dx=some d →
  (∀ z H',Same H H'→Rep X.K (hide O H') d z→Q z H')→wpAny (model X.prog X.w) X.A (f v) (EP X pins σ Q) X.xe s
noncomputable def wX (X:Cx) (f:Value) (h:List D→Option D):Prop :=
 ∀ (pins:List (Addr × Obj)) (s:Shared) (σ:St) (H:Hp) (O:List Addr) (xs:List V) (us:List Value) (ds:List D) (d:D) (Q:VK),Inv X pins σ H s→Dom O H→Vals xs us→RepBs X.K O H ds xs→h ds=some d →
  (∀ z H',Same H H'→Rep X.K (hide O H') d z→Q z H')→wpAny (model X.prog X.w) X.A (call f us) (EP X pins σ Q) X.xe s
theorem zaq {h:D→D→Option D} {ga gb:Env'→Option D} {ρ:Env'} {d:D} (e:g2 h ga gb ρ=some d):∃ x y,ga ρ=some x∧gb ρ=some y∧h x y=some d:=by
 unfold g2 at e
 obtain ⟨x,h1,e⟩:=Option.bind_eq_some_iff.mp e
 obtain ⟨y,h2,e⟩:=Option.bind_eq_some_iff.mp e
 exact ⟨x,y,h1,h2,e⟩
theorem zeH {h:D→Option D} {ga:Env'→Option D} {ρ:Env'} {d:D} (e:g1 h ga ρ=some d):∃ x,ga ρ=some x∧h x=some d:=Option.bind_eq_some_iff.mp e
theorem yf {h:List D→Option D} {ga:Env'→Option (List D)} {ρ:Env'} {d:D} (e:gA h ga ρ=some d):∃ x,ga ρ=some x∧h x=some d:=Option.bind_eq_some_iff.mp e
theorem OpD.r {f:Value→Value→Sem Value} {h:D→D→Option D} (o:OpD X f h):OpR X f (fun x y H Q=>∃ O dx dy d,Dom O H∧RepB X.K O H dx x∧RepB X.K O H dy y∧h dx dy=some d∧∀ z H',Same H H'→Rep X.K (hide O H') d z→Q z H'):=by
 intro pins s σ H x y v u Q I rx ry hz
 obtain ⟨O,dx,dy,d,hO,bx,by',e,k⟩:=hz
 exact o pins s σ H O x y v u dx dy d Q I hO rx ry bx by' e k
theorem UnD.r {f:Value→Sem Value} {h:D→Option D} (o:UnD X f h):UnR X f (fun x H Q=>∃ O dx d,Dom O H∧RepB X.K O H dx x∧h dx=some d∧∀ z H',Same H H'→Rep X.K (hide O H') d z→Q z H'):=by
 intro pins s σ H x v Q I rx hz
 obtain ⟨O,dx,d,hO,bx,e,k⟩:=hz
 exact o pins s σ H O x v dx d Q I hO rx bx e k
theorem wX.r {f:Value} {h:List D→Option D} (o:wX X f h):wY X f (fun xs H Q=>∃ O ds d,Dom O H∧RepBs X.K O H ds xs∧h ds=some d∧∀ z H',Same H H'→Rep X.K (hide O H') d z→Q z H'):=by
 intro pins s σ H xs us Q I rx hz
 obtain ⟨O,ds,d,hO,bx,e,k⟩:=hz
 exact o pins s σ H O xs us ds d Q I hO rx bx e k
theorem zff {h:D→D→Option D} {ga gb:Env'→Option D} {σ:St} {H:Hp} {Q:VK} (q:tD X.K (g2 h ga gb) σ H Q) :
  tOp (fun x y H Q=>∃ O dx dy d,Dom O H∧RepB X.K O H dx x∧RepB X.K O H dy y∧h dx dy=some d∧∀ z H',Same H H'→Rep X.K (hide O H') d z→Q z H') (tBo X.K ga) (tBo X.K gb) σ H Q:=by
 obtain ⟨F,O,ρ,d,r,e,k⟩:=q
 obtain ⟨dx,dy,e1,e2,e3⟩:=zaq e
 refine ⟨F,O,ρ,dx,r,e1,fun x H1 s1 b1=>⟨F,O,ρ,dy,r.same s1,e2,fun y H2 s2 b2 => ?_⟩⟩
 exact ⟨O,dx,dy,d,(r.same (s1.trans s2)).dom,b1.same s2,b2,e3,fun z H' s3 b3=>k z H' (s1.trans (s2.trans s3)) b3⟩
theorem zC {op:Operator} {h:D→D→Option D} {ga gb:Env'→Option D} (ho:OpD X (binaryOp op) h) (ha:PB X a ga) (hb:PB X b gb):PD X (.BinOp a op b pos) (g2 h ga gb) :=
 PE.imp (zkH ho.r ha hb) fun _ _ _ q=>zff q
theorem zbw {op:CmpOp} {h:D→D→Option D} {ga gb:Env'→Option D} (ho:OpD X (compareOp op) h) (ha:PB X a ga) (hb:PB X b gb) (hm:behindInMarks op b=false):PD X (.Compare a [op] [b] pos) (g2 h ga gb) :=
 PE.imp (zjg ho.r ha hb hm) fun _ _ _ q=>zff q
theorem zhe {op:UnaryOp} {h:D→Option D} {ga:Env'→Option D} (ho:UnD X (unaryOp op) h) (ha:PB X a ga):PD X (.UnaryOp op a pos) (g1 h ga) :=
 PE.imp (zlu ho.r ha) fun σ H Q hZq=>by
  obtain ⟨F,O,ρ,d,r,e,k⟩:=hZq
  obtain ⟨dx,e1,e2⟩:=zeH e
  exact ⟨F,O,ρ,dx,r,e1,fun x H1 s1 b1=>⟨O,dx,d,(r.same s1).dom,b1,e2,fun z H' s3 b3=>k z H' (s1.trans s3) b3⟩⟩
noncomputable def zfc:Expr→Bool
 | .Starred ..=>false
 | _=>true
theorem yt {e:Expr} {es:List Expr} {env:Env} (h:zfc e=true):starEach (e :: es) env=(false,eval e env) :: starEach es env:=by
 cases e <;> first | rfl | cases h
theorem kO {ga:Env'→Option D} {gr:Env'→Option (List D)} {ρ:Env'} {ds:List D} (e:zc ga gr ρ=some ds):∃ x xs,ga ρ=some x∧gr ρ=some xs∧ds=x :: xs:=by
 unfold zc at e
 obtain ⟨x,h1,e⟩:=Option.bind_eq_some_iff.mp e
 obtain ⟨y,h2,e⟩:=Option.bind_eq_some_iff.mp e
 exact ⟨x,y,h1,h2,(Option.some.inj e).symm⟩
theorem zh:PAd X [] gNil:=PA.imp zbu fun σ H Q hZq=>by
 obtain ⟨F,O,ρ,ds,r,e,k⟩:=hZq
 cases e
 exact k [] H (Same.refl _) .nil
theorem zhc {ga:Env'→Option D} {gr:Env'→Option (List D)} (ha:PD X e ga) (hr:PAd X es gr) (hs:autoParam (starEach (e :: es) X.env=(false,eval e X.env) :: starEach es X.env) aTe):PAd X (e :: es) (zc ga gr) :=
 PA.imp (yo ha hr hs) fun σ H Q hZq=>by
  obtain ⟨F,O,ρ,ds,r,e,k⟩:=hZq
  obtain ⟨x,xs,e1,e2,rfl⟩:=kO e
  exact ⟨F,O,ρ,x,r,e1,fun v H1 s1 b1=>⟨F,O,ρ,xs,r.same s1,e2,fun vs H2 s2 b2=>k _ _ (s1.trans s2) (.cons (b1.same (zR s2)) b2)⟩⟩
theorem zD:PAb X [] gNil:=PA.imp zbu fun σ H Q hZq=>by
 obtain ⟨F,O,ρ,ds,r,e,k⟩:=hZq
 cases e
 exact k [] H (Same.refl _) .nil
theorem zhb {ga:Env'→Option D} {gr:Env'→Option (List D)} (ha:PB X e ga) (hr:PAb X es gr) (hs:autoParam (starEach (e :: es) X.env=(false,eval e X.env) :: starEach es X.env) aTe):PAb X (e :: es) (zc ga gr) :=
 PA.imp (yo ha hr hs) fun σ H Q hZq=>by
  obtain ⟨F,O,ρ,ds,r,e,k⟩:=hZq
  obtain ⟨x,xs,e1,e2,rfl⟩:=kO e
  exact ⟨F,O,ρ,x,r,e1,fun v H1 s1 b1=>⟨F,O,ρ,xs,r.same s1,e2,fun vs H2 s2 b2=>k _ _ (s1.trans s2) (.cons (b1.same s2) b2)⟩⟩
theorem yB {K:Frag} {O:List Addr} {H:Hp} {p:Addr} {o:HO} (hp:p ∉ O):hide O (upd H p o) p=some o:=by rw [qi hp,jh]
theorem xZ {K:Frag} {O:List Addr} {H:Hp} {p:Addr} {ds:List D} {xs:List V} (hp:H p=none) (hO:p ∉ O) (r:Reps K (hide O H) ds xs):Rep K (hide O (upd H p (.tup xs))) (.tuple ds) (.ref p) :=
 .tup (yB (K:=K) hO) (r.same (zR (jg hp)))
theorem yV {K:Frag} {O:List Addr} {H:Hp} {p:Addr} {ds:List D} {xs:List V} (hp:H p=none) (hO:p ∉ O) (r:Reps K (hide O H) ds xs):Rep K (hide O (upd H p (.lst xs))) (.list ds) (.ref p) :=
 .lst (.inl (yB (K:=K) hO)) (r.same (zR (jg hp)))
theorem qQ {x1} {g:Env'→Option (List D)} (h:PAd X es g):PD X (.Tuple es x1 pos) (gA tupD g):=PE.imp (zkI h) fun σ H Q hZq=>by
 obtain ⟨F,O,ρ,d,r,e,k⟩:=hZq
 obtain ⟨ds,e1,e2⟩:=yf e
 unfold tupD at e2
 split at e2
 ·rename_i hl
  cases e2
  refine ⟨F,O,ρ,ds,r,e1,fun vs H1 s1 b1=>⟨by rw [← b1.length];exact hl,fun p hp => ?_⟩⟩
  exact k _ _ (s1.trans (jg hp)) (xZ hp ((r.same s1).fresh hp) b1)
 ·cases e2
noncomputable def tFr (K:Frag) (g:Env'→Option (List D)):TE:=fun σ H Q=>∃ F O ρ ds,SR K F O ρ σ H∧g ρ=some ds∧∀ p xs H1,Same H H1→H1 p=none→Reps K (hide O H1) ds xs→Q (.ref p) (upd H1 p (.lst xs))
noncomputable def PFr (X:Cx) (e:Expr) (g:Env'→Option (List D)):Prop:=PE X e (tFr X.K g)
theorem PFr.d {g:Env'→Option (List D)} (h:PFr X e g):PD X e (fun ρ=>(g ρ).map PyData.list):=PE.imp h fun σ H Q hZq=>by
 obtain ⟨F,O,ρ,d,r,e,k⟩:=hZq
 obtain ⟨ds,e1,e2⟩:=Option.map_eq_some_iff.mp e
 subst e2
 exact ⟨F,O,ρ,ds,r,e1,fun p xs H1 s1 hp b1=>k _ _ (s1.trans (jg hp)) (yV hp ((r.same s1).fresh hp) b1)⟩
theorem wG {g:Env'→Option (List D)} (h:PAd X es g):PFr X (.List es pos) (gLst g):=PE.imp (zkG h) fun σ H Q hZq=>by
 obtain ⟨F,O,ρ,d,r,e,k⟩:=hZq
 obtain ⟨ds,e1,e2⟩:=Option.bind_eq_some_iff.mp e
 split at e2
 ·rename_i hl
  cases e2
  exact ⟨F,O,ρ,_,r,e1,fun vs H1 s1 b1=>⟨by rw [← b1.length];exact hl,fun p hp=>k _ _ _ s1 hp b1⟩⟩
 ·cases e2
end
end L2.Y
namespace L2.Y
open PySem PySem.Spec PyProof.Rows
theorem get_set {α:Type} {l:List α} {i j:Nat} {a b:α} (h:(l.set i a)[j]?=some b):(i=j∧b=a∧j < l.length) ∨ (i ≠ j∧l[j]?=some b):=by
 by_cases e:i=j
 ·subst e
  left
  rw [List.getElem?_set_self'] at h
  cases q:l[i]? with
  | none=>rw [q] at h;cases h
  | some c =>
   rw [q] at h
   exact ⟨rfl,(Option.some.inj h).symm,(List.getElem?_eq_some_iff.mp q).1⟩
 ·right
  rw [List.getElem?_set_ne e] at h
  exact ⟨e,h⟩
theorem zfN {α:Type} {l:List α} {i:Nat} {a:α} (h:i < l.length):(l.set i a)[i]?=some a:=List.getElem?_set_self h
section
variable {K:Frag} {F:Fx} {O:List Addr} {ρ:Env'} {σ:St} {H:Hp} {i:Nat} {d:D} {v:V} {p:Addr}
theorem SR.setVal (r:SR K F O ρ σ H) (h:Rep K (hide O H) d v):SR K F O (ρ.set i (some (.val d))) (σ.set i (some v)) H where
 hb:=r.hb
 vb:=r.vb
 oc:=r.oc
 dom:=r.dom
 len:=by rw [List.length_set,List.length_set];exact r.len
 val:=fun j d' e=>by
  rcases get_set e with ⟨rfl,e2,hl⟩ | ⟨ne,e2⟩
  ·cases e2
   exact ⟨v,zfN (by rw [r.len];exact hl),h⟩
  ·rw [List.getElem?_set_ne ne]
   exact r.val j d' e2
 own:=fun j d' e=>by
  rcases get_set e with ⟨rfl,e2,hl⟩ | ⟨ne,e2⟩
  ·cases e2
  ·rw [List.getElem?_set_ne ne]
   exact r.own j d' e2
 sep:=fun j k d1 d2 q e1 e2 f1 f2=>by
  rcases get_set e1 with ⟨rfl,e1,_⟩ | ⟨ne1,e1⟩
  ·cases e1
  rcases get_set e2 with ⟨rfl,e2,_⟩ | ⟨ne2,e2⟩
  ·cases e2
  rw [List.getElem?_set_ne ne1] at f1
  rw [List.getElem?_set_ne ne2] at f2
  exact r.sep j k d1 d2 q e1 e2 f1 f2
theorem qR (h:H p=none):hide (p :: O) H=hide O H:=by
 funext b
 unfold hide
 by_cases e:b=p
 ·subst e;simp [h]
 ·simp [e]
theorem OwnAt.mut {O:List Addr} (h:OwnAt K O H d p):∃ o,H p=some o∧∀ xs,o ≠ .tup xs:=by
 cases h with
 | lst h _=>exact ⟨_,h,fun _ z=>nomatch z⟩
 | dK h _=>exact ⟨_,h,fun _ z=>nomatch z⟩
 | dT h _=>exact ⟨_,h,fun _ z=>nomatch z⟩
theorem SR.newOwn {o:HO} (r:SR K F O ρ σ H) (hp:H p=none) (ho:OwnAt K (p :: O) (upd H p o) d p):SR K F (p :: O) (ρ.set i (some (.own d))) (σ.set i (some (.ref p))) (upd H p o):=by
 have hO:p ∉ O:=r.fresh hp
 have eh:hide (p :: O) (upd H p o)=hide O H:=by rw [je List.mem_cons_self,qR hp]
 refine ⟨r.hb.trans (jg hp),by rw [eh];exact r.vb,fun q hq=>List.mem_cons_of_mem _ (r.oc q hq),fun q hq => ?_,by rw [List.length_set,List.length_set];exact r.len,fun j d' e => ?_,fun j d' e => ?_,fun j k d1 d2 q e1 e2 f1 f2 => ?_⟩
 ·by_cases e:q=p
  ·subst e;exact ho.mut
  ·rw [zE e];exact r.dom q ((List.mem_cons.mp hq).resolve_left e)
 ·rcases get_set e with ⟨rfl,e2,hl⟩ | ⟨ne,e2⟩
  ·cases e2
  ·rw [List.getElem?_set_ne ne,eh]
   exact r.val j d' e2
 ·rcases get_set e with ⟨rfl,e2,hl⟩ | ⟨ne,e2⟩
  ·cases e2
   refine ⟨p,zfN (by rw [r.len];exact hl),List.mem_cons_self,?_,ho⟩
   exact ⟨fun z=>hO (r.oc p z),r.hb.free hp⟩
  ·obtain ⟨q,h1,h2,h3,h4⟩:=r.own j d' e2
   refine ⟨q,by rw [List.getElem?_set_ne ne];exact h1,List.mem_cons_of_mem _ h2,h3,?_⟩
   have hq:q ≠ p:=fun z=>hO (z ▸ h2)
   cases h4 with
   | lst h r=>exact .lst (by rw [zE hq];exact h) (by rw [eh];exact r)
   | dK h r=>exact .dK (by rw [zE hq];exact h) (by rw [eh];exact r)
   | dT h r=>exact .dT (by rw [zE hq];exact h) (by rw [eh];exact r)
 ·rcases get_set e1 with ⟨rfl,e1,_⟩ | ⟨ne1,e1⟩
  ·rcases get_set e2 with ⟨rfl,e2,_⟩ | ⟨ne2,e2⟩
   ·rfl
   ·rw [List.getElem?_set_ne ne2] at f2
    rcases get_set f1 with ⟨_,f1,_⟩ | ⟨z,_⟩
    ·cases f1
     obtain ⟨q,h1,h2,_⟩:=r.own k d2 e2
     rw [f2] at h1;cases h1
     exact absurd h2 hO
    ·exact absurd rfl z
  ·rcases get_set e2 with ⟨rfl,e2,_⟩ | ⟨ne2,e2⟩
   ·rw [List.getElem?_set_ne ne1] at f1
    rcases get_set f2 with ⟨_,f2,_⟩ | ⟨z,_⟩
    ·cases f2
     obtain ⟨q,h1,h2,_⟩:=r.own j d1 e1
     rw [f1] at h1;cases h1
     exact absurd h2 hO
    ·exact absurd rfl z
   ·rw [List.getElem?_set_ne ne1] at f1
    rw [List.getElem?_set_ne ne2] at f2
    exact r.sep j k d1 d2 q e1 e2 f1 f2
theorem SR.mut {o:HO} {d' : D} (r:SR K F O ρ σ H) (he:ρ[i]?=some (some (.own d))) (hs:σ[i]?=some (some (.ref p))) (ho:OwnAt K O (upd H p o) d' p):SR K F O (ρ.set i (some (.own d'))) σ (upd H p o):=by
 obtain ⟨p',h1,hO,h0,_⟩:=r.own i d he
 rw [hs] at h1;cases h1
 have eh:hide O (upd H p o)=hide O H:=je hO
 have hil:i < ρ.length:=(List.getElem?_eq_some_iff.mp he).1
 refine ⟨fun b u e => ?_,by rw [eh];exact r.vb,r.oc,fun q hq => ?_,by rw [List.length_set];exact r.len,fun j d' e => ?_,fun j d' e => ?_,fun j k d1 d2 q e1 e2 f1 f2 => ?_⟩
 ·rw [zE (zV e h0.2)];exact r.hb _ _ e
 ·by_cases e:q=p
  ·subst e;exact ho.mut
  ·rw [zE e];exact r.dom q hq
 ·rcases get_set e with ⟨rfl,e2,hl⟩ | ⟨ne,e2⟩
  ·cases e2
  ·rw [eh];exact r.val j d' e2
 ·rcases get_set e with ⟨rfl,e2,hl⟩ | ⟨ne,e2⟩
  ·cases e2
   exact ⟨p,hs,hO,h0,ho⟩
  ·obtain ⟨q,h1,h2,h3,h4⟩:=r.own j d' e2
   have hq:q ≠ p:=fun z=>by subst z;exact ne (r.sep i j d d' q he e2 hs h1)
   refine ⟨q,h1,h2,h3,?_⟩
   cases h4 with
   | lst h r=>exact .lst (by rw [zE hq];exact h) (by rw [eh];exact r)
   | dK h r=>exact .dK (by rw [zE hq];exact h) (by rw [eh];exact r)
   | dT h r=>exact .dT (by rw [zE hq];exact h) (by rw [eh];exact r)
 ·have back:∀ {j:Nat} {dj:D},(ρ.set i (some (.own d')))[j]?=some (some (.own dj))→∃ dj',ρ[j]?=some (some (.own dj')):=fun {j dj} e=>by
   rcases get_set e with ⟨rfl,_,_⟩ | ⟨ne,e2⟩
   ·exact ⟨d,he⟩
   ·exact ⟨_,e2⟩
  obtain ⟨_,e1⟩:=back e1
  obtain ⟨_,e2⟩:=back e2
  exact r.sep j k _ _ q e1 e2 f1 f2
theorem OwnAt.rep {O' : List Addr} (h:OwnAt K O H d p) (hs:∀ q ∈ O',q ∈ O) (hp:p ∉ O'):Rep K (hide O' H) d (.ref p):=by
 cases h with
 | lst h r=>exact .lst (.inl (by rw [qi hp];exact h)) (r.same (qA hs))
 | dK h r=>exact .dK (by rw [qi hp];exact h) (r.same (qA hs))
 | dT h r=>exact .dT (by rw [qi hp];exact h) (r.same (qA hs))
theorem OwnAt.sub {O' : List Addr} {q:Addr} (h:OwnAt K O H d q) (hs:∀ q ∈ O',q ∈ O):OwnAt K O' H d q:=by
 cases h with
 | lst h r=>exact .lst h (r.same (qA hs))
 | dK h r=>exact .dK h (r.same (qA hs))
 | dT h r=>exact .dT h (r.same (qA hs))
theorem SR.frz (r:SR K F O ρ σ H) (i:Nat):∃ O',SR K F O' (frz i ρ) σ H:=by
 unfold Y.frz
 split
 ·rename_i d he
  obtain ⟨p,hs,hO,h0,ho⟩:=r.own i d he
  have sub:∀ q ∈ O.filter (· ≠ p),q ∈ O:=fun q hq=>(List.mem_filter.mp hq).1
  have np:p ∉ O.filter (· ≠ p):=fun z=>by simpa using (List.mem_filter.mp z).2
  refine ⟨O.filter (· ≠ p),r.hb,r.vb.trans (qA sub),fun q hq=>List.mem_filter.mpr ⟨r.oc q hq,?_⟩,fun q hq=>r.dom q (sub q hq),by rw [List.length_set];exact r.len,fun j d' e => ?_,fun j d' e => ?_,fun j k d1 d2 q e1 e2 f1 f2 => ?_⟩
  ·have:q ≠ p:=fun z=>h0.1 (z ▸ hq)
   simpa using this
  ·rcases get_set e with ⟨rfl,e2,hl⟩ | ⟨ne,e2⟩
   ·cases e2
    exact ⟨_,hs,ho.rep sub np⟩
   ·obtain ⟨v,h1,h2⟩:=r.val j d' e2
    exact ⟨v,h1,h2.same (qA sub)⟩
  ·rcases get_set e with ⟨rfl,e2,hl⟩ | ⟨ne,e2⟩
   ·cases e2
   ·obtain ⟨q,h1,h2,h3,h4⟩:=r.own j d' e2
    have hq:q ≠ p:=fun z=>by subst z;exact ne (r.sep i j d d' q he e2 hs h1)
    exact ⟨q,h1,List.mem_filter.mpr ⟨h2,by simpa using hq⟩,h3,h4.sub sub⟩
  ·rcases get_set e1 with ⟨rfl,e1,_⟩ | ⟨ne1,e1⟩
   ·cases e1
   rcases get_set e2 with ⟨rfl,e2,_⟩ | ⟨ne2,e2⟩
   ·cases e2
   exact r.sep j k d1 d2 q e1 e2 f1 f2
 ·exact ⟨O,r⟩
theorem SR.base (r:SR K F O ρ σ H):SR K { F with V0:=hide O H } O ρ σ H:=⟨r.hb,Same.refl _,r.oc,r.dom,r.len,r.val,r.own,r.sep⟩
theorem SR.back {V:Hp} (r:SR K { F with V0:=V } O ρ σ H) (s:Same F.V0 V):SR K F O ρ σ H:=⟨r.hb,s.trans r.vb,r.oc,r.dom,r.len,r.val,r.own,r.sep⟩
end
noncomputable def zlc (K:Frag) (F:Fx) (D:Ends):Out→Prop
 | .nxt ρ=>∀ O σ H,SR K F O ρ σ H→D.nx σ H
 | .ret d=>∀ v H,Same F.H0 H→Rep K (hide F.Oc H) d v→D.rt v H
 | .brk ρ=>∀ O σ H,SR K F O ρ σ H→D.bk σ H
 | .cnt ρ=>∀ O σ H,SR K F O ρ σ H→D.ct σ H
noncomputable def tSd (K:Frag) (g:GS):TS:=fun D σ H=>∃ F O ρ out,SR K F O ρ σ H∧g ρ=some out∧zlc K F D out
noncomputable def PSd (X:Cx) (st:Stmt) (g:GS):Prop:=PS X st (tSd X.K g)
noncomputable def PSsd (X:Cx) (st:List Stmt) (g:GS):Prop:=PSs X st (tSd X.K g)
section
variable {X:Cx} {st:Stmt} {rest:List Stmt} {g h:GS} {e:Expr} {pos:Pos}
theorem jJ:PSsd X [] sNil:=PSs.imp zjx fun D σ H hZq=>by
 obtain ⟨F,O,ρ,out,r,e,k⟩:=hZq
 cases e
 exact k O σ H r
theorem ze (h1:PSd X st g) (h2:PSsd X rest h):PSsd X (st :: rest) (sSeq g h):=PSs.imp (zhs h1 h2) fun D σ H hZq=>by
 obtain ⟨F,O,ρ,out,r,e,k⟩:=hZq
 obtain ⟨o1,e1,e2⟩:=Option.bind_eq_some_iff.mp e
 refine ⟨F,O,ρ,o1,r,e1,?_⟩
 cases o1 with
 | nxt ρ'=>exact fun O' σ' H' r'=>⟨F,O',ρ',out,r',e2,k⟩
 | ret d=>cases e2;exact k
 | brk ρ'=>cases e2;exact k
 | cnt ρ'=>cases e2;exact k
theorem zn (h1:PSd X st g):PSsd X [st] g:=PSs.imp (zjy h1) fun _ _ _ q=>q
theorem zju (i:Nat) (h1:PSd X st g):PSd X st (fun ρ=>g (frz i ρ)):=PS.imp h1 fun D σ H hZq=>by
 obtain ⟨F,O,ρ,out,r,e,k⟩:=hZq
 obtain ⟨O',r'⟩:=r.frz i
 exact ⟨F,O',_,out,r',e,k⟩
theorem zjw {ge:Env'→Option D} (he:PD X e ge):PSd X (.Return (some e) pos) (fun ρ=>(ge ρ).map Out.ret):=PS.imp (zkQ he) fun D σ H hZq=>by
 obtain ⟨F,O,ρ,out,r,e,k⟩:=hZq
 obtain ⟨d,e1,e2⟩:=Option.map_eq_some_iff.mp e
 subst e2
 exact ⟨F,O,ρ,d,r,e1,fun v H' s b=>k v H' (r.hb.trans s) (b.same (qA fun p hp=>r.oc p hp))⟩
theorem zho {ge:Env'→Option D} (he:PB X e ge) (hs:autoParam (swapsWith e none pos.line X.env=pure false) aTc):PSd X (.Expr e pos) (fun ρ=>(ge ρ).map fun _=>Out.nxt ρ):=PS.imp (zce he hs) fun D σ H hZq=>by
 obtain ⟨F,O,ρ,out,r,e,k⟩:=hZq
 obtain ⟨d,e1,e2⟩:=Option.map_eq_some_iff.mp e
 subst e2
 exact ⟨F,O,ρ,d,r,e1,fun v H' s b=>k O σ H' (r.same s)⟩
noncomputable def tGd (K:Frag) (h:GT):TG:=fun v σ H Q=>∃ F O ρ d ρ',SR K F O ρ σ H∧Rep K (hide O H) d v∧h d ρ=some ρ'∧∀ σ',SR K F O ρ' σ' H→Q σ' H
noncomputable def tGds (K:Frag) (h:List D→Env'→Option Env'):TGs:=fun vs σ H Q=>∃ F O ρ ds ρ',SR K F O ρ σ H∧Reps K (hide O H) ds vs∧h ds ρ=some ρ'∧∀ σ',SR K F O ρ' σ' H→Q σ' H
noncomputable def PGd (X:Cx) (tg:Expr) (h:GT):Prop:=PG X tg (tGd X.K h)
noncomputable def PGds (X:Cx) (tgs:List Expr) (h:List D→Env'→Option Env'):Prop:=PGs X tgs (tGds X.K h)
theorem PG.imp {tg:Expr} {t t' : TG} (h:PG X tg t) (k:∀ v σ H Q,t' v σ H Q→t v σ H Q):PG X tg t':=fun pins s σ H v u Q I r q=>h pins s σ H v u Q I r (k v σ H Q q)
theorem PGs.imp {tg:List Expr} {t t' : TGs} (h:PGs X tg t) (k:∀ v σ H Q,t' v σ H Q→t v σ H Q):PGs X tg t':=fun pins s σ H v u Q I r q=>h pins s σ H v u Q I r (k v σ H Q q)
theorem zf {i:Nat} {x:Str} (h:PG X (.Name x pos) (zbg i)):PGd X (.Name x pos) (hName i):=PG.imp h fun v σ H Q hZq=>by
 obtain ⟨F,O,ρ,d,ρ',r,b,e,k⟩:=hZq
 cases e
 exact k _ (r.setVal b)
theorem qk:PGds X [] hNil:=PGs.imp zjj fun vs σ H Q hZq=>by
 obtain ⟨F,O,ρ,ds,ρ',r,b,e,k⟩:=hZq
 unfold hNil at e
 split at e
 ·cases e;cases b;exact ⟨rfl,k _ r⟩
 ·cases e
theorem zM {tg:Expr} {tgs:List Expr} {h:GT} {hk:List D→Env'→Option Env'} (h1:PGd X tg h) (h2:PGds X tgs hk) (hs:autoParam ((assignEach (tg :: tgs) X.env).map (·.2)=assign tg X.env :: (assignEach tgs X.env).map (·.2)) aTc):PGds X (tg :: tgs) (jD h hk) :=
 PGs.imp (zhi h1 h2 hs) fun vs σ H Q hZq=>by
  obtain ⟨F,O,ρ,ds,ρ',r,b,e,k⟩:=hZq
  unfold jD at e
  split at e
  ·rename_i d rest
   obtain ⟨ρ1,e1,e2⟩:=Option.bind_eq_some_iff.mp e
   cases b with
   | cons b bs =>
    refine ⟨_,_,rfl,F,O,ρ,_,ρ1,r,b,e1,fun σ1 r1 => ?_⟩
    exact ⟨F,O,ρ1,_,ρ',r1,bs,e2,k⟩
  ·cases e
theorem qT {tgs:List Expr} {kk:Nat} {n:Nat} {hk:List D→Env'→Option Env'} (hc:X.calm=true) (h:PGds X tgs hk) (hn:autoParam ((assignEach tgs X.env).length=n) aTc) (hst:autoParam ((assignEach tgs X.env).findIdx? (·.1)=none) aTc) :
  PGd X (.Tuple tgs kk pos) (hTup n hk):=PG.imp (zkM hc h hn hst) fun v σ H Q hZq=>by
 obtain ⟨F,O,ρ,d,ρ',r,b,e,k⟩:=hZq
 unfold hTup at e
 split at e
 ·split at e
  ·rename_i ds hl
   obtain ⟨a,xs,rfl,sq,rs⟩:=(RepB.val b).tup
   exact ⟨a,xs,rfl,sq,by rw [← rs.length];exact hl,F,O,ρ,ds,ρ',r,rs,e,k⟩
  ·cases e
 ·cases e
theorem ziC {h:GT} {ge:Env'→Option D} {D:Ends} {σ:St} {H:Hp} (q:tSd X.K (sAsg h ge) D σ H):tAsg (tD X.K ge) (tGd X.K h) D σ H:=by
 obtain ⟨F,O,ρ,out,r,e,k⟩:=q
 obtain ⟨d,e1,e2⟩:=Option.bind_eq_some_iff.mp e
 obtain ⟨ρ',e3,e4⟩:=Option.map_eq_some_iff.mp e2
 subst e4
 exact ⟨F,O,ρ,d,r,e1,fun v H' s b=>⟨F,O,ρ,d,ρ',r.same s,b,e3,fun σ' r'=>k O σ' H' r'⟩⟩
theorem zjs {tg:Expr} {h:GT} {ge:Env'→Option D} (hg:PGd X tg h) (he:PD X e ge) (hs:autoParam (swapsWithSole [tg] e pos.line X.env=pure false) aTc) (hw:autoParam (swappedStores [tg] e X.env=pure none) aTc)
  (h1:autoParam ((assignEach [tg] X.env).map (·.2)=[assign tg X.env]) aTc):PSd X (.Assign [tg] e pos) (sAsg h ge):=PS.imp (zcT he hg hs hw h1) fun _ _ _ q=>ziC q
theorem zfk {i:Nat} {ge:Env'→Option (List D)} {D:Ends} {σ:St} {H:Hp} (q:tSd X.K (sOwn i ge) D σ H):tAsg (tFr X.K ge) (zbg i) D σ H:=by
 obtain ⟨F,O,ρ,out,r,e,k⟩:=q
 obtain ⟨ds,e1,e2⟩:=Option.map_eq_some_iff.mp e
 subst e2
 refine ⟨F,O,ρ,ds,r,e1,fun p xs H1 s hp b => ?_⟩
 refine k (p :: O) _ _ ((r.same s).newOwn hp (.lst jh ?_))
 rw [je List.mem_cons_self,qR hp]
 exact b
theorem zjv {tg:Expr} {i:Nat} {ge:Env'→Option (List D)} (hg:PG X tg (zbg i)) (he:PFr X e ge) (hs:autoParam (swapsWithSole [tg] e pos.line X.env=pure false) aTc) (hw:autoParam (swappedStores [tg] e X.env=pure none) aTc)
  (h1:autoParam ((assignEach [tg] X.env).map (·.2)=[assign tg X.env]) aTc):PSd X (.Assign [tg] e pos) (sOwn i ge):=PS.imp (zcT he hg hs hw h1) fun _ _ _ q=>zfk q
theorem zcE {K:Frag} {H:Hp} {ds:List D} {xs:List V} (r:Reps K H ds xs):(!ds.isEmpty)=!xs.isEmpty:=by cases r <;> rfl
theorem zk6 {K:Frag} {O:List Addr} {H:Hp} {d:D} {v:V} {b:Bool} (r:RepB K O H d v) (e:ziw d=some b):TruV K v H b:=by
 cases d with
 | none=>cases r.non;cases e;rfl
 | bool c=>cases r.bl;cases e;rfl
 | int i=>cases r.int;cases e;rfl
 | str y =>
  cases r.str
  have e:(if y.length ≤ sizeLine then some ((y.length:Int) != 0) else none)=some b:=e
  split at e
  ·cases e;exact ⟨by assumption,rfl⟩
  ·cases e
 | list ds =>
  obtain ⟨a,xs,rfl,sq,rs⟩:=r.lst
  cases e
  exact .inl ⟨xs,sq,zcE rs⟩
 | tuple ds =>
  obtain ⟨a,xs,rfl,sq,rs⟩:=r.tup
  cases e
  exact .inr (.inl ⟨xs,sq,zcE rs⟩)
 | dict _=>cases e
theorem wt {g:Env'→Option D} (h:PB X e g) (he:autoParam (∀ whole,isTrue e X.env whole=(do let v ← whole;standAt e.pos;holding [v] (truthy v))) aTd):PTd X e (gTr g) :=
 PT.imp (zht h he) fun σ H Q hZq=>by
  obtain ⟨F,O,ρ,b,r,e,k⟩:=hZq
  obtain ⟨d,e1,e2⟩:=Option.bind_eq_some_iff.mp e
  exact ⟨F,O,ρ,d,r,e1,fun v H' s rb=>⟨b,zk6 rb e2,k H' s⟩⟩
theorem kH {d:D} {b:Bool} (h:za4 d=some b):d=.bool b:=by
 cases d <;> first | (cases h;rfl) | cases h
theorem zc0 {K:Frag} {H:Hp} {b:Bool} {v:V} (h:Rep K H (.bool b) v):v=.bl b:=by cases h;rfl
theorem jk {a b:Expr} {op:CmpOp} {h:D→D→Option D} {ga gb:Env'→Option D} (ho:OpD X (compareOp op) h) (ha:PB X a ga) (hb:PB X b gb) (hm:behindInMarks op b=false):PTd X (.Compare a [op] [b] pos) (gBo (g2 h ga gb)) :=
 PT.imp (zjz ho.r ha hb hm) fun σ H Q hZq=>by
  obtain ⟨F,O,ρ,b,r,e,k⟩:=hZq
  obtain ⟨d,e1,e2⟩:=Option.bind_eq_some_iff.mp e
  cases kH e2
  exact zff (Q:=fun x H'=>∃ k,x=.bl k∧Q k H') ⟨F,O,ρ,_,r,e1,fun v H' s rb=>⟨b,zc0 rb,k H' s⟩⟩
noncomputable def PWd (X:Cx) (e:Expr) (g:Env'→Option Bool):Prop:=PW X e (tTd X.K g)
theorem PW.imp {e:Expr} {t t' : TT} (h:PW X e t) (k:∀ σ H Q,t' σ H Q→t σ H Q):PW X e t':=fun wh pins s σ H Q I q=>h wh pins s σ H Q I (k σ H Q q)
theorem PWd.t {g:Env'→Option Bool} (h:PWd X e g):PTd X e g:=h.pt
section
variable {a b:Expr} {rest:List Expr} {gt ht:Env'→Option Bool}
theorem zhx (ha:PTd X a gt):PWd X (.BoolOp .And [a] pos) gt:=zjC ha
theorem kb (ha:PTd X a gt):PWd X (.BoolOp .Or [a] pos) gt:=zkV ha
theorem zjD (ha:PTd X a gt) (hb:PWd X (.BoolOp .And (b :: rest) pos) ht):PWd X (.BoolOp .And (a :: b :: rest) pos) (zeI gt ht):=PW.imp (zkU ha hb) fun σ H Q hZq=>by
 obtain ⟨F,O,ρ,c,r,e,k⟩:=hZq
 obtain ⟨b1,e1,e2⟩:=Option.bind_eq_some_iff.mp e
 refine ⟨F,O,ρ,b1,r,e1,fun H1 s1 => ?_⟩
 cases b1 with
 | true=>exact iteT ⟨F,O,ρ,c,r.same s1,e2,fun H2 s2=>k H2 (s1.trans s2)⟩
 | false=>cases e2;exact iteF (k H1 s1)
theorem kZ (ha:PTd X a gt) (hb:PWd X (.BoolOp .Or (b :: rest) pos) ht):PWd X (.BoolOp .Or (a :: b :: rest) pos) (gOrT gt ht):=PW.imp (zlx ha hb) fun σ H Q hZq=>by
 obtain ⟨F,O,ρ,c,r,e,k⟩:=hZq
 obtain ⟨b1,e1,e2⟩:=Option.bind_eq_some_iff.mp e
 refine ⟨F,O,ρ,b1,r,e1,fun H1 s1 => ?_⟩
 cases b1 with
 | false=>exact iteF ⟨F,O,ρ,c,r.same s1,e2,fun H2 s2=>k H2 (s1.trans s2)⟩
 | true=>cases e2;exact iteT (k H1 s1)
theorem vZ (ha:PTd X a gt):PTd X (.UnaryOp .Not a pos) (wz gt):=PT.imp (zkR ha) fun σ H Q hZq=>by
 obtain ⟨F,O,ρ,c,r,e,k⟩:=hZq
 obtain ⟨b1,e1,e2⟩:=Option.map_eq_some_iff.mp e
 subst e2
 exact ⟨F,O,ρ,b1,r,e1,fun H1 s1=>k H1 s1⟩
variable {ga gb:Env'→Option D}
end
theorem xp {c:Expr} {a b:List Stmt} {gt:Env'→Option Bool} (hc:PTd X c gt) (ha:PSsd X a g) (hb:PSsd X b h):PSd X (.If c a b pos) (sIf gt g h):=PS.imp (zlw hc ha hb) fun D σ H hZq=>by
 obtain ⟨F,O,ρ,out,r,e,k⟩:=hZq
 obtain ⟨b1,e1,e2⟩:=Option.bind_eq_some_iff.mp e
 refine ⟨F,O,ρ,b1,r,e1,fun H1 s1 => ?_⟩
 cases b1 with
 | true=>exact iteT ⟨F,O,ρ,out,r.same s1,e2,k⟩
 | false=>exact iteF ⟨F,O,ρ,out,r.same s1,e2,k⟩
end
end L2.Y
namespace L2.Y
open PySem PySem.Spec PyProof.Rows
inductive Yield (K:Frag) (B:Hp) (H:Hp):D→V→Hp→Prop
 | old {d:D} {x:V}:(∀ O,Same B (hide O H)→Dom O H→Rep K (hide O H) d x)→Yield K B H d x H
 | new {ds:List D} {ys:List V} {p:Addr}:H p=none→Reps K B ds ys→Yield K B H (.tuple ds) (.ref p) (upd H p (.tup ys))
structure ItD (K:Frag) (B:Hp) (J:It) (ds:List D):Prop where
 go:∀ i H,Same B H→i < ds.length→J.go i H
 yld:∀ i H x H' d,Same B H→ds[i]?=some d→J.yld i H x H'→Yield K B H d x H'
 stop:∀ H,Same B H→J.stop ds.length H
noncomputable def tId (K:Frag) (g:Env'→Option (List D)):TI:=fun σ H R=>∃ F O ρ ds,SR K F O ρ σ H∧g ρ=some ds∧∀ J H',Same H H'→ItD K (hide O H') J ds→R J H'
noncomputable def PId (X:Cx) (tg iter:Expr) (g:Env'→Option (List D)):Prop:=PI X tg iter (tId X.K g)
theorem PI.imp {X:Cx} {tg iter:Expr} {t t' : TI} (h:PI X tg iter t) (k:∀ σ H R,t' σ H R→t σ H R):PI X tg iter t':=fun pins s σ H R I q=>h pins s σ H R I (k σ H R q)
section
variable {K:Frag} {B H:Hp}
theorem ziT {a:Addr} {xs:List V} {ds:List D} (sq:SqT K B a xs) (rs:Reps K B ds xs):ItD K B (Itt K a) ds where
 go:=fun i H s hi=>by
  obtain ⟨v,hv,_⟩:=rs.get (i:=i) (d:=ds[i]) (by simp [hi])
  exact ⟨xs,v,SqT.same s sq,hv⟩
 yld:=fun i H x H' d s hd y=>by
  obtain ⟨rfl,y⟩:=y
  have hx:=y xs (SqT.same s sq)
  obtain ⟨d',h1,h2⟩:=rs.getV hx
  rw [hd] at h1;cases h1
  exact .old fun O sm _=>h2.same sm
 stop:=fun H s=>⟨xs,SqT.same s sq,by rw [rs.length];exact Nat.le_refl _⟩
theorem ziS {a:Addr} {xs:List V} {ds:List D} (sq:SqL K B a xs) (rs:Reps K B ds xs):ItD K B (Itl K a) ds where
 go:=fun i H s hi=>by
  obtain ⟨v,hv,_⟩:=rs.get (i:=i) (d:=ds[i]) (by simp [hi])
  exact ⟨xs,v,SqL.same s sq,hv⟩
 yld:=fun i H x H' d s hd y=>by
  obtain ⟨rfl,y⟩:=y
  have hx:=y xs (SqL.same s sq)
  obtain ⟨d',h1,h2⟩:=rs.getV hx
  rw [hd] at h1;cases h1
  exact .old fun O sm _=>h2.same sm
 stop:=fun H s=>⟨xs,SqL.same s sq,by rw [rs.length];exact Nat.le_refl _⟩
theorem qC (lo:Int) (n:Nat):(zT lo n).length=n:=by simp [zT]
theorem zeO (lo:Int) (n:Nat):ItD K B (Itr lo n) (zT lo n) where
 go:=fun i H s hi=>by rw [qC] at hi;exact hi
 yld:=fun i H x H' d s hd y=>by
  obtain ⟨rfl,rfl⟩:=y
  have hi:i < n:=by
   have:=(List.getElem?_eq_some_iff.mp hd).1
   rw [qC] at this
   exact this
  have e:(zT lo n)[i]?=some (.int (lo + i)):=by simp [zT,hi]
  rw [hd] at e;cases e
  exact .old fun _ _ _=>.int _
 stop:=fun H s=>by rw [qC];exact Nat.le_refl _
end
section
variable {X:Cx} {tg e:Expr} {pos p:Pos} {ge:Env'→Option D}
theorem jM (h:PD X e ge):PId X tg e (gIt seqD ge):=by
 intro pins s σ H R I hZq
 obtain ⟨F,O,ρ,ds,r,e,k⟩:=hZq
 obtain ⟨d,e1,e2⟩:=Option.bind_eq_some_iff.mp e
 refine thn (h pins s σ H (fun v H1=>Same H H1∧Rep X.K (hide O H1) d v) I ⟨F,O,ρ,d,r,e1,fun v H1 s1 rb=>⟨s1,rb⟩⟩) fun v s1 ⟨x,H1,I1,r1,sm,rb⟩ => ?_
 cases d with
 | tuple es =>
  cases e2
  cases rb with
  | tup sq rs =>
   rename_i a xs
   obtain rfl:v=Value.ref a:=r1
   have sq' : SqT X.K (hide O H1) a xs:=.inl (.inl sq)
   obtain ⟨its,rv,p,hz⟩:=I1.tuple (SqT.same jd sq')
   refine wpAny_pyIter_tuple (show s1.heap.IsTuple a its.toArray from p) ?_
   refine ⟨s1.heap.objs.size,[s1.heap.objs.size],_,_,H1,rfl,I1.kept (t':=s1.toks) fun b o e=>Heap.get?_push_of_some _ e,zdG a _,⟨_,Heap.get?_push_size _ rfl,rfl,rfl⟩,fun b hb => ?_,k _ H1 sm (ziT sq' rs)⟩
   have e:b=s1.heap.objs.size:=by simpa using hb
   subst e
   exact I1.fpOk (Nat.le_refl _) (I1.hok.fresh (Nat.le_refl _))
 | list es =>
  cases e2
  cases rb with
  | lst sq rs =>
   rename_i a xs
   obtain rfl:v=Value.ref a:=r1
   obtain ⟨its,rv,p,hz⟩:=I1.list (SqL.same jd (.inl sq))
   refine wpAny_pyIter_list p.isList ?_
   refine ⟨s1.heap.objs.size,[s1.heap.objs.size],_,_,H1,rfl,I1.kept (t':=s1.toks) fun b o e=>Heap.get?_push_of_some _ e,zf7 a _,⟨_,Heap.get?_push_size _ rfl,rfl,rfl⟩,fun b hb => ?_,k _ H1 sm (ziS (.inl sq) rs)⟩
   have e:b=s1.heap.objs.size:=by simpa using hb
   subst e
   exact I1.fpOk (Nat.le_refl _) (I1.hok.fresh (Nat.le_refl _))
 | _=>cases e2
theorem wI {a:Expr} {ga:Env'→Option (List D)} (hg:Gl X "range") (hm:X.mg "range" = none) (ha:PAd X [a] ga) (hs:autoParam (starEach [a] X.env=[(false,eval a X.env)]) aTc) :
  PId X tg (.Call (.Name "range" p) [a] [] pos) (gItA wK ga):=PI.imp (zfq (tg:=tg) hg hm ha hs) fun σ H R hZq=>by
 obtain ⟨F,O,ρ,ds,r,e,k⟩:=hZq
 obtain ⟨as,e1,e2⟩:=Option.bind_eq_some_iff.mp e
 refine ⟨F,O,ρ,as,r,e1,fun vs H1 s1 rb => ?_⟩
 unfold wK at e2
 split at e2
 ·split at e2
  ·rename_i j hj
   cases e2
   obtain ⟨v,rfl,rv⟩:=rb.inv1
   cases rv
   exact ⟨j,rfl,hj.1,hj.2,k _ H1 s1 (zeO 0 _)⟩
  ·cases e2
 ·cases e2
theorem qB {a b:Expr} {ga:Env'→Option (List D)} (hg:Gl X "range") (hm:X.mg "range" = none) (ha:PAd X [a,b] ga) (hs:autoParam (starEach [a,b] X.env=[(false,eval a X.env),(false,eval b X.env)]) aTc) (hs2:autoParam (starEach [b] X.env=[(false,eval b X.env)]) aTc) :
  PId X tg (.Call (.Name "range" p) [a,b] [] pos) (gItA qE ga):=PI.imp (zfr (tg:=tg) hg hm ha hs hs2) fun σ H R hZq=>by
 obtain ⟨F,O,ρ,ds,r,e,k⟩:=hZq
 obtain ⟨as,e1,e2⟩:=Option.bind_eq_some_iff.mp e
 refine ⟨F,O,ρ,as,r,e1,fun vs H1 s1 rb => ?_⟩
 unfold qE at e2
 split at e2
 ·split at e2
  ·rename_i i j hj
   cases e2
   cases rb with
   | cons r1 rb =>
    obtain ⟨v,rfl,rv⟩:=rb.inv1
    cases r1
    cases rv
    exact ⟨i,j,rfl,hj,k _ H1 s1 (zeO i _)⟩
  ·cases e2
 ·cases e2
theorem zdc {K:Frag} {F:Fx} {O:List Addr} {ρ:Env'} {σ:St} {H H' : Hp} {d:D} {x:V} (r:SR K F O ρ σ H) (y:Yield K F.V0 H d x H'):Same H H'∧SR K F O ρ σ H'∧Rep K (hide O H') d x:=by
 cases y with
 | old h=>exact ⟨Same.refl _,r,h O r.vb r.dom⟩
 | new hp rs=>exact ⟨jg hp,r.same (jg hp),xZ hp (r.fresh hp) (rs.same r.vb)⟩
theorem ziH {K:Frag} {g:Env'→Option (List D)} {h:GT} {gb:GS} {D:Ends} {σ:St} {H:Hp} (q:tSd K (sFor g h gb) D σ H):tFor (tId K g) (tGd K h) (tSd K gb) D σ H:=by
 obtain ⟨F,O,ρ,out,r,e,k⟩:=q
 obtain ⟨ds,e1,e2⟩:=Option.bind_eq_some_iff.mp e
 refine ⟨F,O,ρ,ds,r,e1,fun J H1 s1 it => ?_⟩
 have r1:=r.same s1
 have sb:Same F.V0 (hide O H1):=r1.vb
 refine ⟨fun i m σ H=>m=ds.length - i∧i ≤ ds.length∧∃ O' ρ',SR K { F with V0:=hide O H1 } O' ρ' σ H∧forF h gb (ds.drop i) ρ'=some out,⟨ds.length,rfl,Nat.zero_le _,O,ρ,r1.base,e2⟩,?_⟩
 rintro i m σ2 H2 ⟨rfl,hi,O',ρ',r2,e3⟩
 have sB:Same (hide O H1) H2:=r2.vb.trans jd
 by_cases hlt:i < ds.length
 ·refine .inr ⟨it.go i H2 sB hlt,?_⟩
  rw [List.drop_eq_getElem_cons hlt] at e3
  obtain ⟨ρ3,e4,e5⟩:=Option.bind_eq_some_iff.mp e3
  obtain ⟨o1,e6,e7⟩:=Option.bind_eq_some_iff.mp e5
  refine ⟨fun σ' H'=>∃ O' ρ',SR K { F with V0:=hide O H1 } O' ρ' σ' H'∧forF h gb (ds.drop (i + 1)) ρ'=some out,fun σ' H' ⟨O4,ρ4,r4,e8⟩=>⟨ds.length - (i + 1),by omega,rfl,hlt,O4,ρ4,r4,e8⟩,fun x H' y => ?_⟩
  obtain ⟨s5,r5,b5⟩:=zdc r2 (it.yld i H2 x H' ds[i] sB (by simp [hlt]) y)
  refine ⟨_,O',ρ',ds[i],ρ3,r5,b5,e4,fun σ' r6=>⟨_,O',ρ3,o1,r6,e6,?_⟩⟩
  cases o1 with
  | nxt ρ7=>exact fun O8 σ8 H8 r8=>⟨O8,ρ7,r8,e7⟩
  | cnt ρ7=>exact fun O8 σ8 H8 r8=>⟨O8,ρ7,r8,e7⟩
  | brk ρ7=>cases e7;exact fun O8 σ8 H8 r8=>k O8 σ8 H8 (r8.back sb)
  | ret d=>cases e7;exact k
 ·have ei:i=ds.length:=by omega
  subst ei
  rw [List.drop_length] at e3
  cases e3
  exact .inl ⟨it.stop H2 sB,k O' σ2 H2 (r2.back sb)⟩
theorem qK {iter:Expr} {body:List Stmt} {g:Env'→Option (List D)} {h:GT} {gb:GS} (hp:PassesOwn (model X.prog X.w) X.A X.env X.xe) (hc:X.calm=true) (hi:PId X tg iter g) (hg:PGd X tg h) (hb:PSsd X body gb)
  (hs:autoParam (∀ x,foldedSetIterable iter X.env x=pure x) aTd):PSd X (.For tg iter body [] pos) (sFor g h gb):=PS.imp (zkO hp hc hi hg hb hs) fun _ _ _ q=>ziH q
theorem zcf {c:Env'→Option Bool} {gb:GS} {ρ:Env'} {o:Out} (h:wM c gb ρ=some o):∃ n,jZ c gb n ρ=some o:=by
 unfold wM at h
 split at h
 ·rename_i hx
  cases h
  exact ⟨hx.choose,hx.choose_spec.choose_spec⟩
 ·cases h
theorem zgf {K:Frag} {c:Env'→Option Bool} {gb:GS} {D:Ends} {σ:St} {H:Hp} (q:tSd K (wM c gb) D σ H):zir (tTd K c) (tSd K gb) D σ H:=by
 obtain ⟨F,O,ρ,out,r,e,k⟩:=q
 obtain ⟨n,e1⟩:=zcf e
 refine ⟨fun m σ H=>∃ O' ρ',SR K F O' ρ' σ H∧jZ c gb m ρ'=some out,⟨n,O,ρ,r,e1⟩,?_⟩
 rintro m σ2 H2 ⟨O',ρ',r2,e2⟩
 cases m with
 | zero=>cases e2
 | succ m =>
  unfold jZ at e2
  obtain ⟨b,e3,e4⟩:=Option.bind_eq_some_iff.mp e2
  refine ⟨F,O',ρ',b,r2,e3,fun H3 s3 => ?_⟩
  cases b with
  | false =>
   simp only [Bool.false_eq_true,if_false] at e4 ⊢
   cases e4
   exact k O' σ2 H3 (r2.same s3)
  | true =>
   simp only [if_true] at e4 ⊢
   obtain ⟨o1,e5,e6⟩:=Option.bind_eq_some_iff.mp e4
   refine ⟨fun σ' H'=>∃ O' ρ',SR K F O' ρ' σ' H'∧jZ c gb m ρ'=some out,fun σ' H' ⟨O4,ρ4,r4,e8⟩=>⟨m,by omega,O4,ρ4,r4,e8⟩,F,O',ρ',o1,r2.same s3,e5,?_⟩
   cases o1 with
   | nxt ρ7=>exact fun O8 σ8 H8 r8=>⟨O8,ρ7,r8,e6⟩
   | cnt ρ7=>exact fun O8 σ8 H8 r8=>⟨O8,ρ7,r8,e6⟩
   | brk ρ7=>cases e6;exact fun O8 σ8 H8 r8=>k O8 σ8 H8 r8
   | ret d=>cases e6;exact k
theorem vY {c:Expr} {body:List Stmt} {gc:Env'→Option Bool} {gb:GS} (hp:PassesOwn (model X.prog X.w) X.A X.env X.xe) (hc:PTd X c gc) (hb:PSsd X body gb):PSd X (.While c body [] pos) (wM gc gb) :=
 PS.imp (zhl hp hc hb) fun _ _ _ q=>zgf q
theorem wF {i:Nat} {ρ:Env'} {ds:List D} (h:ownL i ρ=some ds):ρ[i]?=some (some (.own (.list ds))):=by
 unfold ownL at h
 split at h
 ·cases h;assumption
 ·cases h
end
end L2.Y
namespace L2.Y
open PySem PySem.Spec PyProof.Rows
section
variable {X:Cx} {pins:List (Addr × Obj)} {σ:St} {H:Hp} {s:Shared}
theorem Rep.reads (I:Inv X pins σ H s) {d:D} {v:V} {u:Value} (r0:Rep X.K H d v):RelV v u→d.canLay0=true→∃ as,Reads s.heap u d as :=
 Rep.rec (motive_1:=fun d v _=>∀ u,RelV v u→d.canLay0=true→∃ as,Reads s.heap u d as) (motive_2:=fun ds vs _=>∀ us,Vals vs us→PyData.canLayAll0 ds=true→∃ as,ReadsAll s.heap us ds as)
  (fun u r _=>by cases r;exact ⟨_,.none⟩) (fun b u r _=>by cases r;exact ⟨_,.bool b⟩) (fun i u r _=>by obtain ⟨t,rfl⟩:=r;exact ⟨_,.int i t⟩) (fun x u r _=>by obtain ⟨t,rfl⟩:=r;exact ⟨_,.str x t⟩)
  (fun h _ ih u r hc=>by
   cases r
   obtain ⟨its,rv,⟨o,e,c,n,dd⟩,_⟩:=I.tuple (.inl (.inl h))
   obtain ⟨as,q⟩:=ih _ rv (by simpa [PyData.canLay0] using hc)
   exact ⟨_,.tuple e c dd (by simpa using q)⟩)
  (fun h _ ih u r hc=>by
   cases r
   obtain ⟨its,rv,⟨o,n,e,c,_,dd⟩,_⟩:=I.list (SqL.same (Same.refl _) (.inl h))
   obtain ⟨as,q⟩:=ih _ rv (by simpa [PyData.canLay0] using hc)
   exact ⟨_,.list e c dd (by simpa using q)⟩)
  (fun _ _ _ _ _ hc=>by simp [PyData.canLay0] at hc) (fun _ _ _ _ _ hc=>by simp [PyData.canLay0] at hc) (fun _ _ _ _ _ hc=>by simp [PyData.canLay0] at hc) (fun _ _ _ hc=>by simp [PyData.canLay0] at hc) (fun _ _ _ _ _ hc=>by simp [PyData.canLay0] at hc)
  (fun u r _=>by cases r;exact ⟨_,.nil⟩)
  (fun _ _ a b us r hc=>by
   cases r with
   | cons r rr =>
    simp only [PyData.canLayAll0,Bool.and_eq_true] at hc
    have hc':=hc
    obtain ⟨as,q⟩:=a _ r hc'.1
    obtain ⟨bs,q'⟩:=b _ rr hc'.2
    exact ⟨_,.cons q q'⟩) r0 u
theorem RepB.full {K:Frag} {O:List Addr} {d:D} {v:V} (h:RepB K O H d v):Rep K H d v:=by
 cases h with
 | val h=>exact h.same jd
 | own _ h =>
  cases h with
  | lst h r=>exact .lst (.inl h) (r.same jd)
  | dK h r=>exact .dK h (r.same jd)
  | dT h r=>exact .dT h (r.same jd)
theorem RepB.reads {O:List Addr} {d:D} {v:V} {u:Value} (I:Inv X pins σ H s) (h:RepB X.K O H d v) (r:RelV v u) (hc:d.canLay0=true):∃ as,Reads s.heap u d as:=h.full.reads I r hc
end
section
variable {X:Cx}
theorem wo {pins:List (Addr × Obj)} {σ:St} {H:Hp} {s:Shared} {O:List Addr} {b:Bool} {Q:VK} (I:Inv X pins σ H s) (k:∀ z H',Same H H'→Rep X.K (hide O H') (.bool b) z→Q z H'):EP X pins σ Q (.bool b) s :=
 ⟨.bl b,H,I,rfl,k _ H (Same.refl _) (.bl b)⟩
theorem zcz {pins:List (Addr × Obj)} {σ:St} {H:Hp} {s:Shared} {O:List Addr} {i:Int} {t:Tok} {Q:VK} (I:Inv X pins σ H s) (k:∀ z H',Same H H'→Rep X.K (hide O H') (.int i) z→Q z H'):EP X pins σ Q (.int i t) s :=
 ⟨.int i,H,I,⟨t,rfl⟩,k _ H (Same.refl _) (.int i)⟩
theorem kX (hu:X.A.units + 64 < cLine):OpD X (compareOp .Eq) eqD:=by
 intro pins s σ H O x y v u dx dy d Q I hO rx ry bx by' e k
 unfold eqD at e
 split at e
 ·rename_i hs
  obtain ⟨h1,h2⟩:=Bool.and_eq_true_iff.mp hs
  cases e
  obtain ⟨as,ra⟩:=bx.reads I rx (SeqAt.canLay_of_shaped h1)
  obtain ⟨bs,rb⟩:=by'.reads I ry (SeqAt.canLay_of_shaped h2)
  exact SeqAt.compareEq_shaped ra rb h1 h2 hu (wo I k)
 ·cases e
theorem yH (hu:X.A.units + 64 < cLine):OpD X (compareOp .NotEq) neD:=by
 intro pins s σ H O x y v u dx dy d Q I hO rx ry bx by' e k
 unfold neD at e
 split at e
 ·rename_i hs
  obtain ⟨h1,h2⟩:=Bool.and_eq_true_iff.mp hs
  cases e
  obtain ⟨as,ra⟩:=bx.reads I rx (SeqAt.canLay_of_shaped h1)
  obtain ⟨bs,rb⟩:=by'.reads I ry (SeqAt.canLay_of_shaped h2)
  exact SeqAt.compareNe_shaped ra rb h1 h2 hu (wo I k)
 ·cases e
theorem zeU {d:D} {k:Key} (h:keyQ d=some k):d=keyD k:=by
 cases d <;> first | (cases h;rfl) | cases h
theorem zbp:∀ {ds:List D} {ks:List Key},ds.mapM keyQ=some ks→ds=ks.map keyD
 | [],ks,h=>by cases h;rfl
 | d :: ds,ks,h=>by
  rw [List.mapM_cons] at h
  obtain ⟨k,h1,h⟩:=Option.bind_eq_some_iff.mp h
  obtain ⟨r,h2,h⟩:=Option.bind_eq_some_iff.mp h
  cases h
  rw [zeU h1,zbp h2];rfl
theorem kQ {d:D} {ks:List Key} (h:ziV d=some ks):d=wC ks:=by
 cases d with
 | tuple ds=>rw [zbp (show ds.mapM keyQ=some ks from h)];rfl
 | _=>cases h
theorem zgB (a b:Key):PyData.eqv (keyD a) (keyD b)=decide (a=b):=by
 cases a <;> cases b
 ·rename_i i j
  by_cases e:i=j
  ·subst e;simp [keyD,PyData.eqv]
  ·simp [keyD,PyData.eqv,e]
 ·simp [keyD,PyData.eqv]
 ·simp [keyD,PyData.eqv]
 ·rename_i i j
  by_cases e:i=j
  ·subst e;simp [keyD,PyData.eqv]
  ·simp [keyD,PyData.eqv,e]
theorem vE:∀ (a b:List Key),PyData.eqvAll (a.map keyD) (b.map keyD)=decide (a=b)
 | [],[]=>by simp [PyData.eqvAll]
 | [],_ :: _=>by simp [PyData.eqvAll]
 | _ :: _,[]=>by simp [PyData.eqvAll]
 | x :: xs,y :: ys=>by
  simp only [List.map_cons,PyData.eqvAll,zgB,vE xs ys]
  by_cases e:x=y <;> by_cases e' : xs=ys <;> simp [e,e']
theorem zbc (a b:List Key):PyData.eqv (wC a) (wC b)=decide (a=b):=by
 unfold wC
 rw [show PyData.eqv (.tuple (a.map keyD)) (.tuple (b.map keyD))=PyData.eqvAll (a.map keyD) (b.map keyD) from by simp only [PyData.eqv],vE]
section
variable {κ:Type} [DecidableEq κ] {f:κ→D} {K:Frag} {H:Hp}
theorem zcL (hf:∀ a b,PyData.eqv (f a) (f b)=decide (a=b)) (k:κ):∀ {kvs:List (κ × V)} {ds:List D},Reps K H ds (kvs.map (·.2)) →
  (∀ d,zaC ((kvs.map fun p=>f p.1).zip ds) (f k)=some d→∃ v,valV kvs k=some v∧Rep K H d v)∧(zaC ((kvs.map fun p=>f p.1).zip ds) (f k)=none→valV kvs k=none)
 | [],_,r=>by cases r;exact ⟨fun d h=>(nomatch h),fun _=>rfl⟩
 | (k',v) :: kvs,_,r=>by
  cases r with
  | cons r rr =>
   rename_i d ds
   have ih:=zcL hf k rr
   have e1:zaC (((k',v) :: kvs).map (fun p=>f p.1) |>.zip (d :: ds)) (f k)=if k'=k then some d else zaC ((kvs.map fun p=>f p.1).zip ds) (f k):=by
    simp only [List.map_cons,List.zip_cons_cons,zaC,List.find?_cons,hf]
    by_cases e:k'=k <;> simp [e]
   rw [e1]
   by_cases e:k'=k
   ·rw [if_pos e]
    exact ⟨fun d' h=>by cases h;exact ⟨v,yZ (p:=(k',v)) e,r⟩,fun h=>(nomatch h)⟩
   ·rw [if_neg e,yY (p:=(k',v)) e]
    exact ih
theorem zd4 (hf:∀ a b,PyData.eqv (f a) (f b)=decide (a=b)) (k:κ):∀ {kvs:List (κ × V)} {ds:List D},Reps K H ds (kvs.map (·.2)) →
  (((kvs.map fun p=>f p.1).zip ds).any fun p=>PyData.eqv p.1 (f k))=kvs.any fun kv=>decide (kv.1=k)
 | [],_,r=>by cases r;rfl
 | (k',v) :: kvs,_,r=>by
  cases r with
  | cons r rr=>simp only [List.map_cons,List.zip_cons_cons,List.any_cons,hf,zd4 hf k rr]
theorem zjB (hf:∀ a b,PyData.eqv (f a) (f b)=decide (a=b)) (k:κ) {y:D} {w:V} (ry:Rep K H y w) {kvs:List (κ × V)} {ds:List D} (r:Reps K H ds (kvs.map (·.2))) :
  ∃ ds',putD ((kvs.map fun p=>f p.1).zip ds) (f k) y=((putK kvs k w).map fun p=>f p.1).zip ds'∧Reps K H ds' ((putK kvs k w).map (·.2)):=by
 have ha:=zd4 (f:=f) hf k r
 unfold putD putK
 rw [ha]
 by_cases e:(kvs.any fun kv=>decide (kv.1=k))=true
 ·rw [if_pos e,if_pos e]
  clear ha e
  have go:∀ {kvs:List (κ × V)} {ds:List D},Reps K H ds (kvs.map (·.2))→∃ ds',(((kvs.map fun p=>f p.1).zip ds).map fun p=>if PyData.eqv p.1 (f k)=true then (p.1,y) else p) =
    ((kvs.map fun kv=>if kv.1=k then (kv.1,w) else kv).map fun p=>f p.1).zip ds'∧Reps K H ds' ((kvs.map fun kv=>if kv.1=k then (kv.1,w) else kv).map (·.2)):=by
   intro kvs
   induction kvs with
   | nil=>intro ds r;cases r;exact ⟨[],rfl,.nil⟩
   | cons p kvs ih =>
    intro ds r
    obtain ⟨k',v⟩:=p
    cases r with
    | cons r rr =>
     rename_i d1 ds1
     obtain ⟨ds',e1,e2⟩:=ih rr
     by_cases e:k'=k
     ·refine ⟨y :: ds',?_,?_⟩
      ·simp only [List.map_cons,List.zip_cons_cons,e1,hf,e,decide_true,if_true]
      ·simp only [List.map_cons,e,if_true];exact .cons ry e2
     ·refine ⟨d1 :: ds',?_,?_⟩
      ·simp only [List.map_cons,List.zip_cons_cons,e1,hf,e,decide_false,Bool.false_eq_true,if_false]
      ·simp only [List.map_cons,e,if_false];exact .cons r e2
  exact go r
 ·rw [if_neg e,if_neg e]
  refine ⟨ds ++ [y],?_,?_⟩
  ·rw [List.map_append,List.zip_append (by rw [List.length_map,r.length,List.length_map])];rfl
  ·rw [List.map_append];exact r.append (.cons ry .nil)
end
end
end L2.Y
namespace L2.Y
open PySem PySem.Spec PyProof.Rows
section
variable {X:Cx}
theorem wO {ds:List D} (h:ds.all SeqAt.shaped=true):PyData.canLayAll0 ds=true∧PyData.depthAll ds ≤ 64:=by
 induction ds with
 | nil=>exact ⟨rfl,Nat.zero_le _⟩
 | cons d ds ih =>
  simp only [List.all_cons,Bool.and_eq_true] at h
  obtain ⟨h1,h2⟩:=ih h.2
  have a:=SeqAt.canLay_of_shaped h.1
  have b:=SeqAt.depth_of_shaped h.1
  refine ⟨by simp only [PyData.canLayAll0,a,h1,Bool.and_self],?_⟩
  simp only [PyData.depthAll]
  omega
theorem room_in {A:Around} {ds:List D} {x:D} (hu:A.units + 66 < cLine) (h:PyData.depthAll ds ≤ 64):A.units + 1 + min (PyData.depthAll ds) x.depth < cLine:=by
 have:min (PyData.depthAll ds) x.depth ≤ PyData.depthAll ds:=Nat.min_le_left _ _
 omega
theorem zij (hu:X.A.units + 66 < cLine):OpD X (compareOp .In) inD:=by
 intro pins s σ H O x y v u dx dy d Q I hO rx ry bx by' e k
 obtain ⟨b,e1,rfl⟩:=Option.map_eq_some_iff.mp e
 cases dy with
 | list ds =>
  have e1:(if (ds.all SeqAt.shaped && SeqAt.shaped dx)=true then some (ds.any fun y=>PyData.eqv y dx) else none)=some b:=e1
  split at e1
  ·rename_i hs
   obtain ⟨h1,h2⟩:=Bool.and_eq_true_iff.mp hs
   obtain ⟨c1,c2⟩:=wO h1
   cases e1
   obtain ⟨as,ra⟩:=bx.reads I rx (SeqAt.canLay_of_shaped h2)
   obtain ⟨bs,rb⟩:=by'.reads I ry (by simpa only [PyData.canLay0] using c1)
   exact SeqAt.in_list_reads rb ra c1 (SeqAt.canLay_of_shaped h2) (room_in hu c2) (wo I k)
  ·cases e1
 | tuple ds =>
  have e1:(if (ds.all SeqAt.shaped && SeqAt.shaped dx)=true then some (ds.any fun y=>PyData.eqv y dx) else none)=some b:=e1
  split at e1
  ·rename_i hs
   obtain ⟨h1,h2⟩:=Bool.and_eq_true_iff.mp hs
   obtain ⟨c1,c2⟩:=wO h1
   cases e1
   obtain ⟨as,ra⟩:=bx.reads I rx (SeqAt.canLay_of_shaped h2)
   obtain ⟨bs,rb⟩:=by'.reads I ry (by simpa only [PyData.canLay0] using c1)
   exact SeqAt.in_tuple_reads rb ra c1 (SeqAt.canLay_of_shaped h2) (room_in hu c2) (wo I k)
  ·cases e1
 | _=>cases e1
theorem qX (hu:X.A.units + 66 < cLine):OpD X (compareOp .NotIn) jX:=by
 intro pins s σ H O x y v u dx dy d Q I hO rx ry bx by' e k
 obtain ⟨b,e1,rfl⟩:=Option.map_eq_some_iff.mp e
 cases dy with
 | list ds =>
  have e1:(if (ds.all SeqAt.shaped && SeqAt.shaped dx)=true then some (ds.any fun y=>PyData.eqv y dx) else none)=some b:=e1
  split at e1
  ·rename_i hs
   obtain ⟨h1,h2⟩:=Bool.and_eq_true_iff.mp hs
   obtain ⟨c1,c2⟩:=wO h1
   cases e1
   obtain ⟨as,ra⟩:=bx.reads I rx (SeqAt.canLay_of_shaped h2)
   obtain ⟨bs,rb⟩:=by'.reads I ry (by simpa only [PyData.canLay0] using c1)
   exact SeqAt.notIn_list_reads rb ra c1 (SeqAt.canLay_of_shaped h2) (room_in hu c2) (wo I k)
  ·cases e1
 | tuple ds =>
  have e1:(if (ds.all SeqAt.shaped && SeqAt.shaped dx)=true then some (ds.any fun y=>PyData.eqv y dx) else none)=some b:=e1
  split at e1
  ·rename_i hs
   obtain ⟨h1,h2⟩:=Bool.and_eq_true_iff.mp hs
   obtain ⟨c1,c2⟩:=wO h1
   cases e1
   obtain ⟨as,ra⟩:=bx.reads I rx (SeqAt.canLay_of_shaped h2)
   obtain ⟨bs,rb⟩:=by'.reads I ry (by simpa only [PyData.canLay0] using c1)
   exact SeqAt.notIn_tuple_reads rb ra c1 (SeqAt.canLay_of_shaped h2) (room_in hu c2) (wo I k)
  ·cases e1
 | _=>cases e1
theorem yn {f:Value→Value→Sem Value} {C:Int→Int→Prop} {g:Int→Int→V} {h:D→D→Option D} (ho:OpR X f (rI C g)) (hd:∀ dx dy d,h dx dy=some d→∃ i j,dx=.int i∧dy=.int j∧C i j∧∀ K H,Rep K H d (g i j)):OpD X f h:=by
 intro pins s σ H O x y v u dx dy d Q I hO rx ry bx by' e k
 obtain ⟨i,j,rfl,rfl,hc,r⟩:=hd dx dy d e
 cases bx.int
 cases by'.int
 exact ho pins s σ H _ _ v u Q I rx ry ⟨i,j,rfl,rfl,hc,k _ H (Same.refl _) (r _ _)⟩
theorem zcX {f:Value→Value→Sem Value} {g:Int→Int→V} (h:OpR X f (rI0 g)):OpR X f (rI (fun _ _=>True) g):=fun pins s σ H x y v u Q I rx ry ⟨i,j,e1,e2,_,q⟩=>h pins s σ H x y v u Q I rx ry ⟨i,j,e1,e2,q⟩
theorem qh {f:Int→Int→Option D} {a b d:D} (h:xN f a b=some d):∃ i j,a=.int i∧b=.int j∧f i j=some d:=by
 unfold xN at h
 split at h
 ·exact ⟨_,_,rfl,rfl,h⟩
 ·cases h
theorem vX:OpD X (binaryOp .Sub) subD:=yn (zcX zkx) fun dx dy d h=>by
 obtain ⟨i,j,rfl,rfl,e⟩:=qh h
 cases e
 exact ⟨i,j,rfl,rfl,trivial,fun _ _=>.int _⟩
theorem zaJ:OpD X (binaryOp .FloorDiv) zdj:=yn zja fun dx dy d h=>by
 obtain ⟨i,j,rfl,rfl,e⟩:=qh h
 split at e
 ·cases e;exact ⟨i,j,rfl,rfl,by assumption,fun _ _=>.int _⟩
 ·cases e
theorem jy:OpD X (binaryOp .Mod) modD:=yn zku fun dx dy d h=>by
 obtain ⟨i,j,rfl,rfl,e⟩:=qh h
 split at e
 ·cases e;exact ⟨i,j,rfl,rfl,by assumption,fun _ _=>.int _⟩
 ·cases e
theorem zcZ {pins:List (Addr × Obj)} {σ:St} {H:Hp} {s:Shared} {a:Addr} {xs:List V} (I:Inv X pins σ H s) (h:Rd H a (.lst xs)):xs.length ≤ sizeLine∧∃ its n,Vals xs its∧s.heap.get? a=some { cls:=.type "list",data:=.seq its.toArray n }:=by
 obtain ⟨z,its,n,r,e⟩:=h.ok I.hok
 exact ⟨z,its,n,r,e⟩
end
end L2.Y
namespace L2.Y
open PySem PySem.Spec PyProof.Rows
section
variable {X:Cx}
theorem Inv.newL {pins:List (Addr × Obj)} {σ:St} {H:Hp} {s:Shared} {xs:List V} {its:List Value} (I:Inv X pins σ H s) (r:Vals xs its) (hz:xs.length ≤ sizeLine) (t' : Nat) :
  Inv X pins σ (upd H s.heap.objs.size (.lst xs)) { s with heap:=s.heap.push { cls:=.type "list",data:=.seq its.toArray },toks:=t' } :=
 I.laid (t':=t') (fun b u e=>Heap.get?_push_of_some _ e) (Nat.le_refl _) ⟨hz,its,0,r,Heap.get?_push_size _ rfl⟩
theorem Inv.newT {pins:List (Addr × Obj)} {σ:St} {H:Hp} {s:Shared} {xs:List V} {its:List Value} (I:Inv X pins σ H s) (r:Vals xs its) (hz:xs.length ≤ sizeLine) (t' : Nat) :
  Inv X pins σ (upd H s.heap.objs.size (.tup xs)) { s with heap:=s.heap.push { cls:=.type "tuple",data:=.seq its.toArray },toks:=t' } :=
 I.laid (t':=t') (fun b u e=>Heap.get?_push_of_some _ e) (Nat.le_refl _) ⟨hz,its,r,IsTup.new _ _⟩
theorem zey {pins:List (Addr × Obj)} {σ:St} {H:Hp} {s:Shared} {O:List Addr} {xs:List V} {its:List Value} {ds:List D} {Q:VK} {t' : Nat} (I:Inv X pins σ H s) (hO:Dom O H) (r:Vals xs its) (hz:xs.length ≤ sizeLine) (rs:Reps X.K (hide O H) ds xs)
  (k:∀ z H',Same H H'→Rep X.K (hide O H') (.list ds) z→Q z H'):EP X pins σ Q (.ref s.heap.objs.size) { s with heap:=s.heap.push { cls:=.type "list",data:=.seq its.toArray },toks:=t' }:=by
 have hf:H s.heap.objs.size=none:=I.hok.fresh (Nat.le_refl _)
 exact ⟨.ref s.heap.objs.size,_,Inv.newL I r hz t',rfl,k _ _ (jg hf) (yV hf (hO.out hf) rs)⟩
theorem zez {pins:List (Addr × Obj)} {σ:St} {H:Hp} {s:Shared} {O:List Addr} {xs:List V} {its:List Value} {ds:List D} {Q:VK} {t' : Nat} (I:Inv X pins σ H s) (hO:Dom O H) (r:Vals xs its) (hz:xs.length ≤ sizeLine) (rs:Reps X.K (hide O H) ds xs)
  (k:∀ z H',Same H H'→Rep X.K (hide O H') (.tuple ds) z→Q z H'):EP X pins σ Q (.ref s.heap.objs.size) { s with heap:=s.heap.push { cls:=.type "tuple",data:=.seq its.toArray },toks:=t' }:=by
 have hf:H s.heap.objs.size=none:=I.hok.fresh (Nat.le_refl _)
 exact ⟨.ref s.heap.objs.size,_,Inv.newT I r hz t',rfl,k _ _ (jg hf) (xZ hf (hO.out hf) rs)⟩
theorem wW {O:List Addr} {H:Hp} {ds:List D} {v:V} (h:RepB X.K O H (.tuple ds) v):Rep X.K (hide O H) (.tuple ds) v:=by
 cases h with
 | val h=>exact h
 | own _ h=>cases h
theorem zA:OpD X (binaryOp .Add) addD:=by
 intro pins s σ H O x y v u dx dy d Q I hO rx ry bx by' e k
 unfold addD at e
 split at e
 ·rename_i i j
  cases e
  cases bx.int
  cases by'.int
  exact zkt pins s σ H _ _ v u Q I rx ry ⟨i,j,rfl,rfl,k _ H (Same.refl _) (.int _)⟩
 ·rename_i xs ys
  split at e
  ·rename_i hl
   cases e
   obtain ⟨a,vx,rfl,sa,ra⟩:=bx.tup
   obtain ⟨b,vy,rfl,sb,rb⟩:=by'.tup
   obtain rfl:v=Value.ref a:=rx
   obtain rfl:u=Value.ref b:=ry
   obtain ⟨its,r1,p1,_⟩:=I.tuple sa
   obtain ⟨its2,r2,p2,_⟩:=I.tuple sb
   by_cases he:its=[]
   ·have:vx=[]:=(r1.nil_iff).mp he
    subst this
    cases ra
    obtain ⟨⟨cls,dd,data,sl⟩,ho,hc,n,hd⟩:=id p1
    obtain ⟨⟨cls2,dd2,data2,sl2⟩,ho2,hc2,n2,hd2⟩:=id p2
    simp only at hc hd hc2 hd2
    subst hc hd hc2 hd2
    refine concat_meets ⟨_,ho,rfl⟩ ⟨_,ho2,rfl⟩ noFill_tuple_add seq_tuple_add PySem.F.slot_tuple_add PySem.F.entry_tuple_add (PySem.F.args_tuple_add_2 _ _)
     (tuple_addW0 a b its.toArray its2.toArray n n2 dd dd2 sl sl2 (by simp [he])) ⟨ho,ho2,?_⟩
    exact ⟨.ref b,H,I,rfl,k _ H (Same.refl _) (wW by')⟩
   ·refine HT.cat_tup p1 p2 he (fun z => ?_) (fun z => ?_) (by rw [← r1.length,← r2.length,← ra.length,← rb.length];exact hl)
    ·have:vy=[]:=(r2.nil_iff).mp z
     subst this
     cases rb
     rw [List.append_nil] at k
     exact ⟨.ref a,H,I,rfl,k _ H (Same.refl _) (wW bx)⟩
    ·exact zez (t':=s.toks) I hO (r1.append r2) (by rw [List.length_append,← ra.length,← rb.length];exact hl) (ra.append rb) k
  ·cases e
 ·rename_i xs ys
  split at e
  ·rename_i hl
   cases e
   obtain ⟨a,vx,rfl,sa,ra⟩:=bx.lstR
   obtain ⟨b,vy,rfl,sb,rb⟩:=by'.lstR
   obtain rfl:v=Value.ref a:=rx
   obtain rfl:u=Value.ref b:=ry
   obtain ⟨_,its,n,r1,e1⟩:=zcZ I sa
   obtain ⟨_,its2,n2,r2,e2⟩:=zcZ I sb
   refine PySem.P.add_list e1 e2 ?_ (by rw [List.size_toArray,List.size_toArray,← r1.length,← r2.length,← ra.length,← rb.length];exact hl)
   have ea:its.toArray ++ its2.toArray=(its ++ its2).toArray:=by simp
   rw [ea]
   exact zey (t':=s.toks) I hO (r1.append r2) (by rw [List.length_append,← ra.length,← rb.length];exact hl) (ra.append rb) k
  ·cases e
 ·cases e
theorem qe:∀ {ds:List D} {is:List Int},wB ds=some is→ds=is.map PyData.int
 | [],_,h=>by cases h;rfl
 | d :: ds,_,h=>by
  unfold wB at h
  rw [List.mapM_cons] at h
  obtain ⟨i,h1,h⟩:=Option.bind_eq_some_iff.mp h
  obtain ⟨r,h2,h⟩:=Option.bind_eq_some_iff.mp h
  cases h
  cases d <;> first | (cases h1;rw [qe (ds:=ds) h2];rfl) | cases h1
theorem zkz:OpD X (compareOp .LtE) leD:=yn (zcX zlp) fun dx dy d h=>by
 obtain ⟨i,j,rfl,rfl,e⟩:=qh h
 cases e
 exact ⟨i,j,rfl,rfl,trivial,fun _ _=>.bl _⟩
theorem zfg (hu:X.A.units < cLine):OpD X (compareOp .Lt) ltD:=yn (zcX zlq) fun dx dy d h=>by
 obtain ⟨i,j,rfl,rfl,e⟩:=qh h
 cases e
 exact ⟨i,j,rfl,rfl,trivial,fun _ _=>.bl _⟩
end
end L2.Y
namespace L2.Y
open PySem PySem.Spec PyProof.Rows
section
open PySem.SeqAt
open PySem.AutoSeq1 (wpAny_loadPart')
open PySem.MeetsSeq PySem.MeetsSeq2 PySem.MeetsSeq3
end
section
variable {X:Cx}
theorem zky (hu:X.A.units < cLine):OpD X (compareOp .GtE) geD:=yn (zcX zlo) fun dx dy d h=>by
 obtain ⟨i,j,rfl,rfl,e⟩:=qh h
 cases e
 exact ⟨i,j,rfl,rfl,trivial,fun _ _=>.bl _⟩
theorem zaT:UnD X (unaryOp .USub) negD:=by
 intro pins s σ H O x v dx d Q I hO rx bx e k
 cases dx with
 | int i =>
  cases e
  cases bx.int
  obtain ⟨t,rfl⟩:=rx
  exact neg_int (zcz (I.tok _) k)
 | _=>cases e
theorem atI_get {K:Frag} {H:Hp} {ds:List D} {xs:List V} {i:Int} {d:D} (r:Reps K H ds xs) (e:atI ds i=some d):∃ v,atI xs i=some v∧Rep K H d v:=by
 unfold atI at e ⊢
 rw [← r.length]
 obtain ⟨j,e1,e2⟩:=Option.bind_eq_some_iff.mp e
 obtain ⟨v,h1,h2⟩:=r.get e2
 exact ⟨v,by rw [e1];exact h1,h2⟩
theorem jL {a b:Expr} {pos:Pos} {ga gb:Env'→Option D} (ha:PB X a ga) (hb:PB X b gb) (hs:zbS b):PD X (.Subscript a b pos) (g2 ixD ga gb) :=
 PE.imp (zkF zkd ha hb hs) fun σ H Q hZq=>by
  obtain ⟨F,O,ρ,d,r,e,k⟩:=hZq
  obtain ⟨dx,dy,e1,e2,e3⟩:=zaq e
  refine ⟨F,O,ρ,dx,r,e1,fun x H1 s1 b1=>⟨F,O,ρ,dy,r.same s1,e2,fun y H2 s2 b2 => ?_⟩⟩
  have b1':=b1.same s2
  unfold ixD at e3
  split at e3
  ·rename_i ds i
   obtain ⟨p,xs,rfl,sq,rs⟩:=b1'.tup
   cases b2.int
   obtain ⟨v,h1,h2⟩:=atI_get rs e3
   exact .inr (.inl ⟨p,xs,i,v,rfl,rfl,sq,h1,k v H2 (s1.trans s2) h2⟩)
  ·rename_i ds i
   obtain ⟨p,xs,rfl,sq,rs⟩:=b1'.lst
   cases b2.int
   obtain ⟨v,h1,h2⟩:=atI_get rs e3
   exact .inl ⟨p,xs,i,v,rfl,rfl,sq,h1,k v H2 (s1.trans s2) h2⟩
  ·cases e3
theorem zO {x:Str} {p pos:Pos} {e:Expr} {es:List Expr} {id:String} {h:List D→Option D} {g:Env'→Option (List D)} (hc:wX X (.builtin id) h) (hg:Gl X x) (hm:X.mg x=none) (hv:bootBuiltins x=some (.builtin id)) (ha:PAb X (e :: es) g) (hn:autoParam (x ≠ "__name__") aTb) (hdb:autoParam ((x == ("__debug__" : Str))=false) aTb)
  (he:autoParam (starEach (e :: es) X.env=(false,eval e X.env) :: starEach es X.env) aTe) (hpl:autoParam ((backTo pos (starEach es X.env)).any (·.1)=false) aTc):PD X (.Call (.Name x p) (e :: es) [] pos) (gA h g) :=
 PE.imp (zaK hc.r hg hm hv ha hn hdb he hpl) fun σ H Q hZq=>by
  obtain ⟨F,O,ρ,d,r,e,k⟩:=hZq
  obtain ⟨ds,e1,e2⟩:=yf e
  exact ⟨F,O,ρ,ds,r,e1,fun vs H1 s1 b1=>⟨O,ds,d,(r.same s1).dom,b1,e2,fun z H' s2 b2=>k z H' (s1.trans s2) b2⟩⟩
theorem jb {x:Str} {p pos:Pos} {e:Expr} {es:List Expr} {T:String} {h:List D→Option D} {g:Env'→Option (List D)} (hc:wX X (.type T) h) (hg:Gl X x) (hm:X.mg x=none) (hv:bootBuiltins x=some (.type T)) (ha:PAb X (e :: es) g) (hn:autoParam (x ≠ "__name__") aTb) (hdb:autoParam ((x == ("__debug__" : Str))=false) aTb)
  (he:autoParam (starEach (e :: es) X.env=(false,eval e X.env) :: starEach es X.env) aTe) (hpl:autoParam ((backTo pos (starEach es X.env)).any (·.1)=false) aTc):PD X (.Call (.Name x p) (e :: es) [] pos) (gA h g) :=
 PE.imp (zfn hc.r hg hm hv ha hn hdb he hpl) fun σ H Q hZq=>by
  obtain ⟨F,O,ρ,d,r,e,k⟩:=hZq
  obtain ⟨ds,e1,e2⟩:=yf e
  exact ⟨F,O,ρ,ds,r,e1,fun vs H1 s1 b1=>⟨O,ds,d,(r.same s1).dom,b1,e2,fun z H' s2 b2=>k z H' (s1.trans s2) b2⟩⟩
theorem RepBs.inv1 {O:List Addr} {H:Hp} {d:D} {vs:List V} (h:RepBs X.K O H [d] vs):∃ v,vs=[v]∧RepB X.K O H d v:=by
 cases h with
 | cons h r=>cases r;exact ⟨_,rfl,h⟩
theorem RepBs.inv2 {O:List Addr} {H:Hp} {d e:D} {vs:List V} (h:RepBs X.K O H [d,e] vs):∃ v w,vs=[v,w]∧RepB X.K O H d v∧RepB X.K O H e w:=by
 cases h with
 | cons h r =>
  obtain ⟨w,rfl,hw⟩:=r.inv1
  exact ⟨_,w,rfl,h,hw⟩
theorem qI:wX X (.builtin "len") lenD:=by
 intro pins s σ H O xs us ds d Q I hO rv bs e k
 unfold lenD at e
 split at e
 ·cases e
  obtain ⟨v,rfl,b⟩:=bs.inv1
  obtain ⟨a,ys,rfl,sq,rs⟩:=b.tup
  exact xD pins s σ H _ us Q I rv ⟨a,ys,rfl,.inr sq,by rw [← rs.length];exact k _ H (Same.refl _) (.int _)⟩
 ·cases e
  obtain ⟨v,rfl,b⟩:=bs.inv1
  obtain ⟨a,ys,rfl,sq,rs⟩:=b.lst
  exact xD pins s σ H _ us Q I rv ⟨a,ys,rfl,.inl sq,by rw [← rs.length];exact k _ H (Same.refl _) (.int _)⟩
 ·cases e
theorem za7 (hc:X.calm=true):wX X (.builtin "min") minD:=by
 intro pins s σ H O xs us ds d Q I hO rv bs e k
 unfold minD at e
 split at e
 ·rename_i i j
  cases e
  obtain ⟨v,w,rfl,b1,b2⟩:=bs.inv2
  cases b1.int
  cases b2.int
  exact zee hc pins s σ H _ us Q I rv ⟨i,j,rfl,k _ H (Same.refl _) (.int _)⟩
 ·cases e
theorem wx (hc:X.calm=true):wX X (.builtin "max") maxD:=by
 intro pins s σ H O xs us ds d Q I hO rv bs e k
 unfold maxD at e
 split at e
 ·rename_i i j
  cases e
  obtain ⟨v,w,rfl,b1,b2⟩:=bs.inv2
  cases b1.int
  cases b2.int
  exact zed hc pins s σ H _ us Q I rv ⟨i,j,rfl,k _ H (Same.refl _) (.int _)⟩
 ·cases e
theorem zK:wX X (.type "tuple") jR:=by
 intro pins s σ H O xs us ds d Q I hO rv bs e k
 unfold jR at e
 split at e
 ·cases e
  obtain ⟨v,rfl,b⟩:=bs.inv1
  obtain ⟨a,ys,rfl,sq,rs⟩:=b.tup
  exact ww pins s σ H _ us Q I rv ⟨a,ys,rfl,.inr ⟨sq,k _ H (Same.refl _) (wW b)⟩⟩
 ·cases e
  obtain ⟨v,rfl,b⟩:=bs.inv1
  obtain ⟨a,ys,rfl,sq,rs⟩:=b.lst
  exact ww pins s σ H _ us Q I rv ⟨a,ys,rfl,.inl ⟨sq,fun l hl=>k _ _ (jg hl) (xZ hl (hO.out hl) rs)⟩⟩
 ·cases e
end
end L2.Y
namespace L2.Y
open PySem PySem.Spec PyProof.Rows
theorem yJ {env:Env}:∀ {names:List (Str × NameKind)} {x:Str},names.lookup x=some .free →
  ((names.map fun (n,k)=>if (k == NameKind.free && env.scope.kind == .function && env.kindOf n == some .cell) then (n,NameKind.cell) else (n,k)).lookup x=some .cell ∨
    (names.map fun (n,k)=>if (k == NameKind.free && env.scope.kind == .function && env.kindOf n == some .cell) then (n,NameKind.cell) else (n,k)).lookup x=some .free)
 | [],_,h=>by simp at h
 | (n,k) :: r,x,h=>by
  have ih:=@yJ env r x
  rw [List.map_cons]
  cases hx:x == n with
  | true =>
   simp only [List.lookup_cons,hx] at h
   cases h
   by_cases hc:(NameKind.free == NameKind.free && env.scope.kind == .function && env.kindOf n == some .cell)=true
   ·left;simp only [hc,if_true,List.lookup_cons,hx]
   ·right;simp only [hc,Bool.false_eq_true,if_false,List.lookup_cons,hx]
  | false =>
   simp only [List.lookup_cons,hx] at h
   by_cases hc:(k == NameKind.free && env.scope.kind == .function && env.kindOf n == some .cell)=true
   ·simp only [hc,if_true,List.lookup_cons,hx];exact ih h
   ·simp only [hc,Bool.false_eq_true,if_false,List.lookup_cons,hx];exact ih h
theorem yI {env:Env}:∀ {names:List (Str × NameKind)} {x:Str},(∀ y ∈ names,y.2 ≠ .cell) →
  ((names.map fun (n,k)=>if (k == NameKind.free && env.scope.kind == .function && env.kindOf n == some .cell) then (n,NameKind.cell) else (n,k)).lookup x=some .cell ∨
    (names.map fun (n,k)=>if (k == NameKind.free && env.scope.kind == .function && env.kindOf n == some .cell) then (n,NameKind.cell) else (n,k)).lookup x=some .free)→names.lookup x=some .free
 | [],_,_,h=>by simp at h
 | (n,k) :: r,x,hn,h=>by
  have ih:=@yI env r x fun y hy=>hn y (List.mem_cons_of_mem _ hy)
  rw [List.map_cons] at h
  cases hx:x == n with
  | true =>
   simp only [List.lookup_cons,hx]
   by_cases hc:(k == NameKind.free && env.scope.kind == .function && env.kindOf n == some .cell)=true
   ·simp only [Bool.and_eq_true,beq_iff_eq] at hc
    rw [hc.1.1]
   ·simp only [hc,Bool.false_eq_true,if_false,List.lookup_cons,hx] at h
    rcases h with h | h
    ·cases h;exact absurd rfl (hn (n,.cell) List.mem_cons_self)
    ·exact h
  | false =>
   simp only [List.lookup_cons,hx]
   by_cases hc:(k == NameKind.free && env.scope.kind == .function && env.kindOf n == some .cell)=true
   ·simp only [hc,if_true,List.lookup_cons,hx] at h;exact ih h
   ·simp only [hc,Bool.false_eq_true,if_false,List.lookup_cons,hx] at h;exact ih h
theorem ye {env:Env}:∀ (names:List (Str × NameKind)) (acc:List (Str × Addr)),(∀ y ∈ names,y.2=.free→∃ c,env.cells.lookup y.1=some c)→(∀ x c,acc.lookup x=some c→env.cells.lookup x=some c) →
  ∃ cl,(forIn names acc fun (x:Str × NameKind) (cs:List (Str × Addr))=>if (x.2 == NameKind.free)=true then (do let c ← cellOf env x.1;pure (ForInStep.yield ((x.1,c) :: cs)):Sem (ForInStep (List (Str × Addr)))) else pure (ForInStep.yield cs))=pure cl ∧
   (∀ x c,cl.lookup x=some c→env.cells.lookup x=some c)∧(∀ x,(acc.lookup x).isSome=true→(cl.lookup x).isSome=true)∧∀ x,names.lookup x=some .free→(cl.lookup x).isSome=true
 | [],acc,_,ha=>⟨acc,rfl,ha,fun _ h=>h,fun x h=>by simp at h⟩
 | (n,k) :: r,acc,hn,ha=>by
  have hr:∀ y ∈ r,y.2=.free→∃ c,env.cells.lookup y.1=some c:=fun y hy=>hn y (List.mem_cons_of_mem _ hy)
  by_cases hk:k=.free
  ·subst hk
   obtain ⟨c,hc⟩:=hn (n,.free) List.mem_cons_self rfl
   have ha' : ∀ x d,((n,c) :: acc).lookup x=some d→env.cells.lookup x=some d:=fun x d h=>by
    cases hx:x == n with
    | true =>
     simp only [List.lookup_cons,hx] at h
     cases h
     rw [eq_of_beq hx];exact hc
    | false =>
     simp only [List.lookup_cons,hx] at h
     exact ha x d h
   obtain ⟨cl,e,h1,h2,h3⟩:=ye r ((n,c) :: acc) hr ha'
   refine ⟨cl,?_,h1,fun x h=>h2 x ?_,fun x h => ?_⟩
   ·rw [List.forIn_cons]
    have ec:cellOf env n=pure c:=by unfold cellOf;rw [hc]
    simp only [beq_self_eq_true,if_true,ec,pure_bind]
    exact e
   ·cases hx:x == n with
    | true=>simp only [List.lookup_cons,hx,Option.isSome_some]
    | false=>simp only [List.lookup_cons,hx];exact h
   ·cases hx:x == n with
    | true=>exact h2 x (by simp only [List.lookup_cons,hx,Option.isSome_some])
    | false=>simp only [List.lookup_cons,hx] at h;exact h3 x h
  ·obtain ⟨cl,e,h1,h2,h3⟩:=ye r acc hr ha
   refine ⟨cl,?_,h1,h2,fun x h => ?_⟩
   ·rw [List.forIn_cons]
    have:(k == NameKind.free)=false:=by simpa using hk
    simp only [this,Bool.false_eq_true,if_false,pure_bind]
    exact e
   ·cases hx:x == n with
    | true=>simp only [List.lookup_cons,hx] at h;cases h;exact absurd rfl hk
    | false=>simp only [List.lookup_cons,hx] at h;exact h3 x h
theorem wy {env:Env} {scope:Scope} (h:∀ y ∈ scope.names,y.2=.free→∃ c,env.cells.lookup y.1=some c) :
  ∃ cl,closureFor scope env=pure cl∧(∀ x c,cl.lookup x=some c→env.cells.lookup x=some c)∧∀ x,scope.names.lookup x=some .free→(cl.lookup x).isSome=true:=by
 obtain ⟨cl,e,h1,_,h3⟩:=ye scope.names [] h (fun x c h=>by simp at h)
 refine ⟨cl,?_,h1,h3⟩
 unfold closureFor
 simp only [bind_pure]
 exact e
structure CompOk (X:Cx) (scope:Scope) (own:List Str) (caps:List Nat) (N:List Str):Prop where
 kind:scope.kind=.function
 nocell:∀ y ∈ scope.names,y.2 ≠ .cell
 names:∀ y ∈ scope.names,y.2=.local→scope.names.lookup y.1=some .local
 free:∀ y ∈ scope.names,y.2=.free→X.env.kindOf y.1=some .cell ∨ X.env.kindOf y.1=some .free
 nd:N.Nodup
 len:N.length=own.length + caps.length
 cap:∀ (k j:Nat),caps[k]?=some j→∃ x,X.N[j]?=some x∧N[own.length + k]?=some x∧scope.names.lookup x=some .free
noncomputable def cxC (X:Cx) (N:List Str) (scope:Scope) (cl:List (Str × Addr)) (C:Addr) (s:Shared) (H:Hp) (fp:List Addr):Cx where
 prog:=X.prog
 w:=X.w
 K:=X.K
 mg:=X.mg
 base:=X.base
 A:=X.A
 N:=N
 s₀:=s
 H₀:=H
 env:=compEnvC scope cl C X.env
 outer:=X.stack
 stack:=X.stack
 ex:=fp
 fn:=fun _=>false
 calm:=X.calm
 pn:=[]
 xe:=fun _ _=>False
section
variable {X:Cx} {pins:List (Addr × Obj)} {σ:St} {H:Hp} {s s1:Shared} {scope:Scope} {own N:List Str} {caps:List Nat} {cl:List (Str × Addr)} {fp:List Addr}
theorem qO {α:Type} {n:Nat} {σ:List (Option α)} {i:Nat} {v:α} (h:(capS n caps σ)[i]?=some (some v)):∃ k j,i=n + k∧caps[k]?=some j∧σ[j]?=some (some v):=by
 unfold capS at h
 by_cases hi:i < n
 ·rw [List.getElem?_append_left (by simpa using hi),List.getElem?_replicate,if_pos hi] at h
  cases h
 ·rw [List.getElem?_append_right (by simpa using hi),List.length_replicate,List.getElem?_map] at h
  obtain ⟨j,h1,h2⟩:=Option.map_eq_some_iff.mp h
  refine ⟨i - n,j,by omega,h1,?_⟩
  cases e:σ[j]? with
  | none=>rw [e] at h2;cases h2
  | some o=>rw [e] at h2;exact congrArg some h2
theorem zgQ (S:CompOk X scope own caps N) (I:Inv X pins σ H s) (hcl1:∀ x c,cl.lookup x=some c→X.env.cells.lookup x=some c) (hcl2:∀ x,scope.names.lookup x=some .free→(cl.lookup x).isSome=true)
  (hfp:∀ b ∈ fp,FpOk X pins H b) (hlt:∀ b ∈ fp,b < s.heap.objs.size) {h1:Heap} {m:Str→Option Value} {tk:Nat} (hn:h1.Ns s.heap.objs.size m) (hk:∀ b o,s.heap.get? b=some o→h1.get? b=some o) :
  Inv (cxC X N scope cl s.heap.objs.size s H fp) [] (capS own.length caps σ) H { s with heap:=h1,toks:=tk }:=by
 have cellEq:∀ {x:Str} {c c' : Addr},cl.lookup x=some c→X.env.cells.lookup x=some c'→c=c':=fun h1 h2=>by rw [hcl1 _ _ h1] at h2;exact Option.some.inj h2
 refine ⟨⟨I.ok.mod,S.kind,I.ok.glob,I.ok.blt,Nat.le_refl _,fun x y c e1 e2=>I.ok.inj x y c (hcl1 _ _ e1) (hcl1 _ _ e2),fun x hx => ?_,fun x c h _=>absurd (show false=true from h) (by decide),I.ok.hd,I.ok.frames,.inl rfl,fun b hb=>⟨Nat.ne_of_lt (hlt b hb),fun x c e=>(hfp b hb).2.2.2.2.1 x c (hcl1 _ _ e)⟩,
  I.bs,Nat.le_trans I.ok.bsz I.sz,fun b o e hb => ?_,fun b hb hb' => ?_,I.stack,I.stkFree⟩,rfl,I.bare,Un.kept hk,⟨m,hn,fun i x v e1 e2 e3 => ?_⟩,fun x c e => ?_,I.hok.fresh (Nat.le_refl _),fun x c e=>I.freeC x c (hcl1 _ _ e),fun p hp=>absurd (show p ∈ ([]:List (Addr × Obj)) from hp) (by simp),I.hok.kept hk,?_⟩
 ·have hx' : (relabel scope X.env).names.lookup x=some .cell ∨ (relabel scope X.env).names.lookup x=some .free:=hx
  have hf:=yI S.nocell hx'
  exact Option.isSome_iff_exists.mp (hcl2 x hf)
 ·obtain ⟨_,_,_,f3,_,_⟩:=hfp b hb
  rcases f3 with z | z
  ·exact I.ok.noex b o e z
  ·exact absurd (Nat.lt_of_lt_of_le (Heap.lt_size e) (Nat.le_trans I.ok.bsz z)) (Nat.lt_irrefl _)
 ·obtain ⟨_,f1,f2,_⟩:=hfp b hb
  rcases List.mem_cons.mp (I.stkSub b hb') with z | z
  ·exact f1 z
  ·exact f2 z
 ·obtain ⟨k,j,rfl,hj,hv⟩:=qO e2
  obtain ⟨y,hy,hy2,hfree⟩:=S.cap k j hj
  have e1:N[own.length + k]?=some x:=e1
  have hxy:y=x:=Option.some.inj (hy2.symm.trans e1)
  subst hxy
  have hkind:=S.free (y,.free) (PySem.mem_of_lookup hfree) rfl
  obtain ⟨m0,_,hl⟩:=I.loc
  have hvis:Vis X.env.scope y:=Or.inr hkind
  obtain ⟨u,ru,lk⟩:=hl j y v hy hv hvis
  refine ⟨u,ru,?_⟩
  rcases lk with ⟨kk,_⟩ | ⟨_,c,hc,hcell⟩
  ·rcases hkind with z | z <;> (rw [z] at kk;cases kk)
  ·refine .inr ⟨yJ hfree,?_⟩
   obtain ⟨c',hc'⟩:=Option.isSome_iff_exists.mp (hcl2 y hfree)
   have:=cellEq hc' hc
   subst this
   obtain ⟨o,ho,hd⟩:=hcell
   exact ⟨c',hc',o,hk _ _ ho,hd⟩
 ·obtain ⟨v,o,ho,hd⟩:=I.cell x c (hcl1 _ _ e)
  exact ⟨v,o,hk _ _ ho,hd⟩
 ·show (capS own.length caps σ).length=N.length
  rw [S.len]
  unfold capS
  simp
theorem zdm {H' : Hp} {σ' : St} (I:Inv X pins σ H s) (hfp:∀ b ∈ fp,FpOk X pins H b) (J:Inv (cxC X N scope cl s.heap.objs.size s H fp) [] σ' H' s1):Inv X pins σ H' s1 :=
 I.call' (ch:=fp) J.os J.base J.hok J.bare fun b hb=>let ⟨_,f1,_,f3,f4,f5⟩:=hfp b hb;⟨f3,f1,f4,f5⟩
end
noncomputable def PIf (X:Cx) (ifs:List Expr) (t:TT):Prop :=
 ∀ (pins:List (Addr × Obj)) (s:Shared) (σ:St) (H:Hp) (Q:Bool→Hp→Prop),Inv X pins σ H s→t σ H Q →
  wpAny (model X.prog X.w) X.A (forIn ifs true fun c r=>if r=true then do let ok ← isTrue c X.env (eval c X.env);pure (ForInStep.yield ok) else pure (ForInStep.yield r)) (TP X pins σ Q) X.xe s
theorem zjk {X:Cx}:PIf X [] (fun _ H Q=>Q true H):=fun pins s σ H Q I h=>wpAny_tests_nil ⟨H,I,h⟩
theorem zjl {X:Cx} {c:Expr} {t:TT} (hc:PT X c t):PIf X [c] t:=fun pins s σ H Q I h=>wpAny_tests_one (hc pins s σ H Q I h)
noncomputable def zfZ (g:TG) (tt:TT) (te:TE) (J:It) (D:Addr) (σ:St) (H:Hp) (Q:Hp→Prop):Prop :=
 ∃ W:Nat→Nat→St→Hp→Prop,(∃ m,W 0 m σ H)∧∀ i m σ H,W i m σ H →
  (J.stop i H∧Q H) ∨ (J.go i H∧∃ Nx:St→Hp→Prop,(∀ σ' H',Nx σ' H'→∃ m',m' < m∧W (i + 1) m' σ' H')∧∀ x H',J.yld i H x H'→g x σ H' fun σ2 H2=>tt σ2 H2 fun b H3 =>
   if b=true then te σ2 H3 fun y H4=>∃ ys,H4 D=some (.lst ys)∧ys.length < sizeLine∧Nx σ2 (upd H4 D (.lst (ys ++ [y]))) else Nx σ2 H3)
section
variable {X:Cx} {pins:List (Addr × Obj)} {σ:St} {H:Hp} {s:Shared} {scope:Scope} {own N:List Str} {caps:List Nat} {cl:List (Str × Addr)} {fp:List Addr}
variable {tg iter elt:Expr} {ifs:List Expr} {pos:Pos} {g:TG} {tt:TT} {te:TE} {J:It} {it:Addr} {tn:Nat→Heap→Prop}
theorem zen {D C:Addr} {R:Result→Shared→Prop} (hc:X.calm=true) (T:Turn X.prog X.w X.K tg J fp it tn)
  (hg:PG (cxC X N scope cl C s H fp) tg g) (ht:PIf (cxC X N scope cl C s H fp) ifs tt) (he:PE (cxC X N scope cl C s H fp) elt te) {Q:Hp→Prop} {σ0:St} {H0:Hp} {s1:Shared} (I0:Inv (cxC X N scope cl C s H fp) [] σ0 H0 s1) (t0:tn 0 s1.heap)
  (f0:∀ b ∈ fp,H0 b=none) (hfp:∀ b ∈ fp,b ≠ C∧b ∉ frs X.stack∧∀ x c,cl.lookup x=some c→c ≠ b) (hw:zfZ g tt te J D σ0 H0 Q)
  (hR:∀ σ' H' s',Inv (cxC X N scope cl C s H fp) [] σ' H' s'→Q H'→R (.ok .next) s') :
  codeAny (model X.prog X.w) X.A (.compLoop (.ListComp elt [⟨tg,iter,ifs,0⟩] scope pos) 0 (.ref it) (.ref D) (compEnvC scope cl C X.env)) R s1:=by
 obtain ⟨W,⟨m0,w0⟩,turn⟩:=hw
 have stat:∀ {H' : Hp},(∀ b ∈ fp,H' b=none)→∀ b ∈ fp,FpOk (cxC X N scope cl C s H fp) [] H' b:=fun hn b hb=>⟨hn b hb,(hfp b hb).1,(hfp b hb).2.1,.inl hb,(hfp b hb).2.2,fun p hp=>absurd (show p ∈ ([]:List (Addr × Obj)) from hp) (by simp)⟩
 have nox:∀ {α:Type} {t:Sem α} {Q:α→Shared→Prop} {E:Value→Shared→Prop} {s:Shared},wpAny (model X.prog X.w) X.A t Q (fun _ _=>False) s→wpAny (model X.prog X.w) X.A t Q E s:=fun h=>wpAny_mono h (fun _ _ q=>q) fun _ _ q=>q.elim
 refine codeAny_loop rfl (fun n s'=>∃ i σ' H',Inv (cxC X N scope cl C s H fp) [] σ' H' s'∧tn i s'.heap∧(∀ b ∈ fp,H' b=none)∧W i n σ' H') (fun n s3 hI => ?_) m0 ⟨0,σ0,H0,I0,t0,f0,w0⟩
 obtain ⟨i,σ3,H3,I3,st3,fr3,w3⟩:=hI
 show wpAny _ X.A ((compTurn (.ListComp elt [⟨tg,iter,ifs,0⟩] scope pos) 0 (.ref it) (.ref D) (compEnvC scope cl C X.env)).onRaise (fun x=>do noteFrame x (compEnvC scope cl C X.env);theTreesLotGoes x)) _ _ s3
 refine wpAny_noted ?_
 rw [compTurn_list]
 refine wpAny_bind (wpAny_standAt (wpAny_bind ?_))
 rcases turn i n σ3 H3 w3 with ⟨stop,qn⟩ | ⟨go,Nx,hN,step⟩
 ·refine nox (thn (T.done (cxC X N scope cl C s H fp) rfl rfl rfl hc i [] s3 σ3 H3 _ I3 (stat fr3) st3 stop) fun r s4 ⟨hr,I4⟩ => ?_)
  subst hr
  exact wpAny_pure (hR _ _ _ I4 qn)
 ·refine nox (thn (T.item (cxC X N scope cl C s H fp) rfl rfl rfl hc i [] s3 σ3 H3 _ I3 (stat fr3) st3 go) fun r s4 ⟨u,hr,h4⟩ => ?_)
  subst hr
  refine wpAny_bind (nox (thn h4 fun _ s5 hZq => ?_))
  obtain ⟨x,H5,I5,r5,y5,st5,fr5⟩:=hZq
  have I5':=I5.pinned (stat fr5) (T.obj _ _ st5)
  refine wpAny_bind (nox (thn (hg _ s5 σ3 H5 x u _ I5' r5 (step x H5 y5)) fun _ s6=>xe4 fun σ6 H6 I6 q6 => ?_))
  refine wpAny_bind (nox (thn (ht _ s6 σ6 H6 _ I6 q6) fun ok s7=>xe3 fun H7 I7 q7 => ?_))
  have again:∀ {σ7:St} {H7:Hp} {s7:Shared},Inv (cxC X N scope cl C s H fp) ([] ++ zbx fp s5.heap) σ7 H7 s7→Nx σ7 H7→∃ m,m < n∧∃ i σ' H',Inv (cxC X N scope cl C s H fp) [] σ' H' s7∧tn i s7.heap∧(∀ b ∈ fp,H' b=none)∧W i m σ' H':=fun {σ7 H7 s7} I7 n7=>by
   obtain ⟨m',hm,w7⟩:=hN σ7 H7 n7
   refine ⟨m',hm,i + 1,σ7,H7,I7.unpinned,T.keep _ _ _ st5 fun b hb o e=>(I7.pin (b,o) (List.mem_append_right _ (List.mem_append_right _ (xW hb e)))).1,fun b hb => ?_,w7⟩
   obtain ⟨o,e,d⟩:=T.obj _ _ st5 b hb
   exact (I7.pin (b,o) (List.mem_append_right _ (List.mem_append_right _ (xW hb e)))).2.1
  cases ok with
  | false =>
   simp only [Bool.false_eq_true,if_false] at q7 ⊢
   exact wpAny_pure ⟨rfl,again I7 q7⟩
  | true =>
   simp only [if_true] at q7 ⊢
   refine wpAny_bind (wpAny_bind (nox (thn (he _ s7 σ6 H7 _ I7 q7) fun v s8 hZq => ?_)))
   obtain ⟨y,H8,I8,r8,ys,e8,z8,n8⟩:=hZq
   refine wpAny_bind (nox (thn (zbq (X:=cxC X N scope cl C s H fp) _ s8 σ6 H8 (.ref D) [y] (.ref D) [v] (fun _ H'=>Nx σ6 H') I8 rfl (.cons r8 .nil) ⟨D,ys,y,rfl,rfl,e8,z8,n8⟩) fun _ s9 hZq => ?_))
   obtain ⟨_,H9,I9,_,n9⟩:=hZq
   exact wpAny_pure (wpAny_pure ⟨rfl,again I9 n9⟩)
noncomputable def zjR (n:Nat) (caps:List Nat) (wi:TI) (g:TG) (tt:TT) (te:TE):TE:=fun σ H Q=>wi σ H fun J H1=>∀ D,H1 D=none→zfZ g tt te J D (capS n caps σ) (upd H1 D (.lst [])) fun H'=>Q (.ref D) H'
noncomputable def jw (X:Cx) (N:List Str) (scope:Scope) (P:Cx→Prop):Prop:=∀ cl C s H fp,P (cxC X N scope cl C s H fp)
theorem za8 {Q:VK} {use:Option (Value→Sem Unit)} {Qu:Value→Shared→Prop} {E:Value→Shared→Prop} {itv:Value} {s2:Shared} (S:CompOk X scope own caps N) (hc:X.calm=true)
  (hg:jw X N scope fun Y=>PG Y tg g) (ht:jw X N scope fun Y=>PIf Y ifs tt) (he:jw X N scope fun Y=>PE Y elt te)
  (hcl1:∀ x c,cl.lookup x=some c→X.env.cells.lookup x=some c) (hcl2:∀ x,scope.names.lookup x=some .free→(cl.lookup x).isSome=true)
  (h:PIE X pins σ tg (fun J H1=>∀ D,H1 D=none→zfZ g tt te J D (capS own.length caps σ) (upd H1 D (.lst [])) fun H'=>Q (.ref D) H') itv s2)
  (fin:∀ D C s' H',Inv X pins σ H' s'→Q (.ref D) H'→(∃ m,s'.heap.Ns C m)→FpOk X pins H' C→compPost (model X.prog X.w) X.A E use Qu (.ref D) C (.ok .next) s') :
  wpAny (model X.prog X.w) X.A (newList []) (fun acc s₃=>wpAny (model X.prog X.w) X.A (newFunctionEnv scope X.env.globals cl [] X.env.qual none .none (some X.env)) (fun cenv s₄ =>
   codeAny (model X.prog X.w) X.A (.compStart (.ListComp elt [⟨tg,iter,ifs,0⟩] scope pos) 0 itv acc { cenv with scope:=relabel scope X.env }) (compPost (model X.prog X.w) X.A E use Qu acc cenv.locals) s₄) E s₃) E s2:=by
 obtain ⟨it,fp,tn,J,H2,rfl,I2,T,st2,f2,rr⟩:=h
 have hD:H2 s2.heap.objs.size=none:=I2.hok.fresh (Nat.le_refl _)
 have ltf:∀ b ∈ fp,b < s2.heap.objs.size:=fun b hb=>by
  obtain ⟨o,e,_⟩:=T.obj _ _ st2 b hb
  exact Heap.lt_size e
 refine wpAny_newObj_type (wpAny_newFunctionEnv S.nocell (by intro y hy;simp at hy) (fun h₁ hns₁ hsb₁ => ?_) S.kind)
 dsimp only at hns₁ hsb₁ ⊢
 have I3:Inv X pins σ (upd H2 s2.heap.objs.size (.lst [])) { s2 with heap:=s2.heap.push { cls:=.type "list",dict:=none,data:=.seq ([]:List Value).toArray } }:=Inv.newL (its:=[]) I2 .nil (Nat.zero_le _) s2.toks
 generalize hs3:({ s2 with heap:=s2.heap.push { cls:=.type "list",dict:=none,data:=.seq ([]:List Value).toArray } }:Shared)=s3 at I3
 have e3:s3.heap=s2.heap.push { cls:=.type "list",dict:=none,data:=.seq ([]:List Value).toArray }:=by rw [← hs3]
 rw [← e3] at hns₁ hsb₁ ⊢
 have fp3:∀ b ∈ fp,FpOk X pins (upd H2 s2.heap.objs.size (.lst [])) b:=fun b hb=>⟨by rw [zE (Nat.ne_of_lt (ltf b hb))];exact (f2 b hb).1,(f2 b hb).2⟩
 have old3:∀ b o,s2.heap.get? b=some o→s3.heap.get? b=some o:=fun b o e=>by rw [e3];exact Heap.get?_push_of_some _ e
 have lt3:∀ b ∈ fp,b < s3.heap.objs.size:=fun b hb=>by rw [e3,Heap.size_push];exact Nat.lt_succ_of_lt (ltf b hb)
 have hk:∀ b o,s3.heap.get? b=some o→h₁.get? b=some o:=fun b o e=>hsb₁.extBut b o (Nat.ne_of_lt (Heap.lt_size e)) (Heap.get?_push_of_some _ e)
 have I4:Inv (cxC X N scope cl s3.heap.objs.size s3 (upd H2 s2.heap.objs.size (.lst [])) fp) [] (capS own.length caps σ) (upd H2 s2.heap.objs.size (.lst [])) { s3 with heap:=h₁,toks:=s3.toks + ([]:List (Str × Value)).length }:=zgQ S I3 hcl1 hcl2 fp3 lt3 hns₁ hk
 have st4:tn 0 h₁:=T.keep _ _ _ st2 fun b hb o e=>hk b o (old3 b o e)
 have loop:codeAny (model X.prog X.w) X.A (.compLoop (.ListComp elt [⟨tg,iter,ifs,0⟩] scope pos) 0 (.ref it) (.ref s2.heap.objs.size) (compEnvC scope cl s3.heap.objs.size X.env)) (compPost (model X.prog X.w) X.A E use Qu (.ref s2.heap.objs.size) s3.heap.objs.size) { s3 with heap:=h₁,toks:=s3.toks + ([]:List (Str × Value)).length }:=by
  refine zen (D:=s2.heap.objs.size) hc T (hg _ _ _ _ _) (ht _ _ _ _ _) (he _ _ _ _ _) I4 st4 (fun b hb=>(fp3 b hb).1) (fun b hb=>⟨Nat.ne_of_lt (lt3 b hb),fun hb' => ?_,fun x c e=>(fp3 b hb).2.2.2.2.1 x c (hcl1 _ _ e)⟩) (rr _ hD) fun σ' H' s' J q => ?_
  ·obtain ⟨_,f1,f2,_⟩:=fp3 b hb
   rcases List.mem_cons.mp (I3.stkSub b hb') with z | z
   ·exact f1 z
   ·exact f2 z
  ·obtain ⟨m,hm,_⟩:=J.loc
   exact fin _ _ s' H' (zdm I3 fp3 J) q ⟨m,hm⟩ (I3.fpOk (Nat.le_refl _) J.free)
 have es:({ s2 with heap:=h₁,toks:=s2.toks + ([]:List (Str × Value)).length }:Shared)={ s3 with heap:=h₁,toks:=s3.toks + ([]:List (Str × Value)).length }:=by rw [← hs3]
 rw [es]
 exact codeAny_compStart_list loop (T.self X.A 0 _ _ _ st4 loop)
theorem zjh {wi:TI} (S:CompOk X scope own caps N) (hc:X.calm=true) (hi:PI X tg iter wi) (hg:jw X N scope fun Y=>PG Y tg g) (ht:jw X N scope fun Y=>PIf Y ifs tt) (he:jw X N scope fun Y=>PE Y elt te)
  (hs:autoParam (∀ x,foldedSetIterable iter X.env x=pure x) aTd):PE X (.ListComp elt [⟨tg,iter,ifs,0⟩] scope pos) (zjR own.length caps wi g tt te):=by
 intro pins s σ H Q I h
 obtain ⟨cl,hcl,hcl1,hcl2⟩:=wy (env:=X.env) (scope:=scope) fun y hy hf=>I.ok.has y.1 (S.free y hy hf)
 rw [eval_ListComp]
 refine wpAny_comprehension_free (use:=none) rfl hs hcl S.kind S.names (thn (hi pins s σ H _ I h) fun xv s1 h1=>thn h1 fun itv s2 h2 => ?_)
 refine za8 (Q:=Q) S hc hg ht he hcl1 hcl2 h2 fun D C s' H' I' q hm f => ?_
 obtain ⟨m,hm⟩:=hm
 refine ⟨m,hm,fun h' sb=>⟨.ref D,H',?_,rfl,q⟩⟩
 obtain ⟨f0,f1,f2,f3,f4,f5⟩:=f
 exact I'.turned (t':=s'.toks) (fun b o hb e=>(sb.2 b hb).trans e) f0 f1 f3 f4 f5
theorem zcU {wi:TI} {i:Nat} {x:Str} {px spos:Pos} (S:CompOk X scope own caps N) (hc:X.calm=true) (hi:PI X tg iter wi) (hg:jw X N scope fun Y=>PG Y tg g) (ht:jw X N scope fun Y=>PIf Y ifs tt) (he:jw X N scope fun Y=>PE Y elt te)
  (hN:X.N.Nodup) (hx:X.N[i]?=some x) (hl:X.env.scope.names.lookup x=some .local) (hsw:swapsWith (.ListComp elt [⟨tg,iter,ifs,0⟩] scope pos) (some (.Name x px)) spos.line X.env=pure true)
  (hs:autoParam (∀ x,foldedSetIterable iter X.env x=pure x) aTd):PS X (.Assign [.Name x px] (.ListComp elt [⟨tg,iter,ifs,0⟩] scope pos) spos) (tAsg (zjR own.length caps wi g tt te) (zbg i)):=by
 intro pins s σ H D I h
 obtain ⟨cl,hcl,hcl1,hcl2⟩:=wy (env:=X.env) (scope:=scope) fun y hy hf=>I.ok.has y.1 (S.free y hy hf)
 rw [exec_Assign_Name_used _ _ _ _ hsw]
 refine wpAny_bind (wpAny_standAt (wpAny_bind ?_))
 show wpAny _ X.A (do let _ ← comprehension (.ListComp elt [⟨tg,iter,ifs,0⟩] scope pos) scope X.env _ (newList []) false (eval iter X.env) (some (assign (.Name x px) X.env))) _ _ s
 refine wpAny_bind (wpAny_mono (wpAny_comprehension_free (use:=some (assign (.Name x px) X.env)) (Q:=fun _ s'=>SP X pins D .next s') rfl hs hcl S.kind S.names
  (thn (hi pins s σ H _ I h) fun xv s1 h1=>thn h1 fun itv s2 h2 => ?_)) (fun _ s' hq=>wpAny_pure (wpAny_pure hq)) fun _ _ e=>e)
 refine za8 (Q:=fun v H'=>D.nx (σ.set i (some v)) H') S hc hg ht he hcl1 hcl2 h2 fun D' C s' H' I' q hm f => ?_
 obtain ⟨m,hm⟩:=hm
 obtain ⟨f0,f1,f2,f3,f4,f5⟩:=f
 refine wpAny_assign_Name (zbK (v:=.ref D') I' hN hx (.inl hl) rfl (fun s'' I'' ⟨a,sb,ha⟩ => ?_) (.inr hl))
 have hCa:C ≠ a:=by
  rcases ha with z | z
  ·rw [z];exact f1
  ·exact Ne.symm (f4 _ _ z)
 refine ⟨m,hm.sameBut sb hCa,fun h' sb'=>⟨_,H',?_,q⟩⟩
 exact I''.turned (t':=s''.toks) (fun b o hb e=>(sb'.2 b hb).trans e) f0 f1 f3 f4 f5
end
end L2.Y
namespace L2.Y
open PySem PySem.Spec PyProof.Rows
noncomputable def Over (n:Nat) (h:GT):Prop:=∀ d ρ ρ1,h d ρ=some ρ1→ρ1.length=ρ.length∧∀ i,n ≤ i→ρ1[i]?=ρ[i]?
noncomputable def zgn (n:Nat) (h:List D→Env'→Option Env'):Prop:=∀ d ρ ρ1,h d ρ=some ρ1→ρ1.length=ρ.length∧∀ i,n ≤ i→ρ1[i]?=ρ[i]?
theorem zx {n i:Nat} (hi:i < n):Over n (hName i):=fun d ρ ρ1 e=>by
 cases e
 exact ⟨List.length_set ..,fun j hj=>List.getElem?_set_ne (by omega)⟩
theorem xX {n:Nat}:zgn n hNil:=fun d ρ ρ1 e=>by
 unfold hNil at e
 split at e
 ·cases e;exact ⟨rfl,fun _ _=>rfl⟩
 ·cases e
theorem jo {n:Nat} {h:GT} {k:List D→Env'→Option Env'} (h1:Over n h) (h2:zgn n k):zgn n (jD h k):=fun d ρ ρ1 e=>by
 unfold jD at e
 split at e
 ·obtain ⟨ρ2,e1,e2⟩:=Option.bind_eq_some_iff.mp e
  obtain ⟨a1,a2⟩:=h1 _ _ _ e1
  obtain ⟨b1,b2⟩:=h2 _ _ _ e2
  exact ⟨b1.trans a1,fun i hi=>(b2 i hi).trans (a2 i hi)⟩
 ·cases e
theorem xY {n m:Nat} {k:List D→Env'→Option Env'} (h2:zgn n k):Over n (hTup m k):=fun d ρ ρ1 e=>by
 unfold hTup at e
 split at e
 ·split at e
  ·exact h2 _ _ _ e
  ·cases e
 ·cases e
section
variable {K:Frag} {F:Fx} {O:List Addr} {ρ ρ0:Env'} {σ:St} {H:Hp}
theorem SR.forget (r:SR K F O ρ σ H) (hl:ρ0.length=ρ.length) (h:∀ (i:Nat) e,ρ0[i]?=some (some e)→ρ[i]?=some (some e)):SR K F O ρ0 σ H :=
 ⟨r.hb,r.vb,r.oc,r.dom,r.len.trans hl.symm,fun i d e=>r.val i d (h i _ e),fun i d e=>r.own i d (h i _ e),fun i j d d' p e1 e2=>r.sep i j d d' p (h i _ e1) (h j _ e2)⟩
theorem zcp {α:Type} {n:Nat} {caps:List Nat} {l:List (Option α)}:(capS n caps l).length=n + caps.length:=by unfold capS;simp
theorem zej {α:Type} {n:Nat} {caps:List Nat} {l:List (Option α)} {k j:Nat} {o:Option α} (h:caps[k]?=some j) (e:l[j]?=some o):(capS n caps l)[n + k]?=some o:=by
 unfold capS
 rw [List.getElem?_append_right (by simp),List.length_replicate,Nat.add_sub_cancel_left,List.getElem?_map,h]
 simp [e]
theorem SR.comp {D:Addr} {n:Nat} {caps:List Nat} (nd:caps.Nodup) (r:SR K F O ρ σ H) (hD:H D=none):SR K { H0:=F.H0,Oc:=D :: F.Oc,V0:=hide O H } (D :: O) (capS n caps ρ) (capS n caps σ) (upd H D (.lst [])):=by
 have eh:hide (D :: O) (upd H D (.lst []))=hide O H:=by rw [je List.mem_cons_self,qR hD]
 have hO:D ∉ O:=r.fresh hD
 refine ⟨r.hb.trans (jg hD),by rw [eh];exact Same.refl _,fun q hq => ?_,fun q hq => ?_,by rw [zcp,zcp],fun i d e => ?_,fun i d e => ?_,fun i j d d' p e1 e2 f1 f2 => ?_⟩
 ·rcases List.mem_cons.mp hq with z | z
  ·rw [z];exact List.mem_cons_self
  ·exact List.mem_cons_of_mem _ (r.oc q z)
 ·by_cases e:q=D
  ·subst e;exact ⟨_,jh,fun _ z=>nomatch z⟩
  ·rw [zE e];exact r.dom q ((List.mem_cons.mp hq).resolve_left e)
 ·obtain ⟨k,j,rfl,hj,hv⟩:=qO e
  obtain ⟨v,h1,h2⟩:=r.val j d hv
  exact ⟨v,zej hj h1,by rw [eh];exact h2⟩
 ·obtain ⟨k,j,rfl,hj,hv⟩:=qO e
  obtain ⟨p,h1,h2,h3,h4⟩:=r.own j d hv
  have hp:p ≠ D:=fun z=>hO (z ▸ h2)
  refine ⟨p,zej hj h1,List.mem_cons_of_mem _ h2,⟨fun z=>(List.mem_cons.mp z).elim hp h3.1,h3.2⟩,?_⟩
  cases h4 with
  | lst h r=>exact .lst (by rw [zE hp];exact h) (by rw [eh];exact r)
  | dK h r=>exact .dK (by rw [zE hp];exact h) (by rw [eh];exact r)
  | dT h r=>exact .dT (by rw [zE hp];exact h) (by rw [eh];exact r)
 ·obtain ⟨k,a,rfl,ha,hva⟩:=qO e1
  obtain ⟨l,b,rfl,hb,hvb⟩:=qO e2
  obtain ⟨k',a',ek,ha',ga⟩:=qO f1
  obtain ⟨l',b',el,hb',gb⟩:=qO f2
  have:k'=k:=by omega
  subst this
  have:l'=l:=by omega
  subst this
  rw [ha] at ha';cases ha'
  rw [hb] at hb';cases hb'
  have:=r.sep a b d d' p hva hvb ga gb
  subst this
  have h1:=(List.getElem?_eq_some_iff.mp ha)
  have h2:=(List.getElem?_eq_some_iff.mp hb)
  have:=(List.getElem_inj (h₀:=h1.1) (h₁:=h2.1) nd).mp (h1.2.trans h2.2.symm)
  omega
theorem SR.accUpd {D:Addr} {o:HO} (r:SR K F (D :: O) ρ σ H) (h0:F.H0 D=none) (hc:D ∈ F.Oc) (ho:∀ xs,o ≠ .tup xs):SR K F (D :: O) ρ σ (upd H D o):=by
 have eh:hide (D :: O) (upd H D o)=hide (D :: O) H:=je List.mem_cons_self
 refine ⟨fun b u e => ?_,by rw [eh];exact r.vb,r.oc,fun q hq => ?_,r.len,fun i d e => ?_,fun i d e => ?_,r.sep⟩
 ·rw [zE (zV e h0)];exact r.hb _ _ e
 ·by_cases e:q=D
  ·subst e;exact ⟨_,jh,ho⟩
  ·rw [zE e];exact r.dom q hq
 ·rw [eh];exact r.val i d e
 ·obtain ⟨p,h1,h2,h3,h4⟩:=r.own i d e
  have hp:p ≠ D:=fun z=>h3.1 (z ▸ hc)
  refine ⟨p,h1,h2,h3,?_⟩
  cases h4 with
  | lst h r=>exact .lst (by rw [zE hp];exact h) (by rw [eh];exact r)
  | dK h r=>exact .dK (by rw [zE hp];exact h) (by rw [eh];exact r)
  | dT h r=>exact .dT (by rw [zE hp];exact h) (by rw [eh];exact r)
end
theorem zan {K:Frag} {n:Nat} {caps:List Nat} {gi:Env'→Option (List D)} {h:GT} {gt:Env'→Option Bool} {ge:Env'→Option D} {σ:St} {H:Hp} {Q:VK} (nd:caps.Nodup) (ov:Over n h) (q:tFr K (jx n caps gi h gt ge) σ H Q) :
  zjR n caps (tId K gi) (tGd K h) (tTd K gt) (tD K ge) σ H Q:=by
 obtain ⟨F,O,ρ,out,r,e,k⟩:=q
 obtain ⟨ds,e1,e2⟩:=Option.bind_eq_some_iff.mp e
 split at e2
 ·rename_i hz
  refine ⟨F,O,ρ,ds,r,e1,fun J H1 s1 it D hD => ?_⟩
  have r1:=r.same s1
  have hHD:H D=none:=s1.free hD
  have h0D:F.H0 D=none:=r1.hb.free hD
  have hDO:D ∉ O:=r1.fresh hD
  refine ⟨fun i m σ' H'=>m=ds.length - i∧i ≤ ds.length∧Same H1 H'∧∃ dn vs,H' D=some (.lst vs)∧Reps K (hide (D :: O) H') dn vs∧dn.length ≤ i∧SR K { H0:=F.H0,Oc:=D :: F.Oc,V0:=hide O H1 } (D :: O) (capS n caps ρ) σ' H'∧∃ rest,xF h gt ge (capS n caps ρ) (ds.drop i)=some rest∧out=dn ++ rest,
   ⟨ds.length,rfl,Nat.zero_le _,jg hD,[],[],jh,.nil,Nat.le_refl _,SR.comp nd r1 hD,out,e2,rfl⟩,?_⟩
  rintro i m σ2 H2 ⟨rfl,hi,sm,dn,vs,hD2,rd,hdn,r2,rest,e3,ho⟩
  have sB:Same (hide O H1) H2:=r2.vb.trans jd
  by_cases hlt:i < ds.length
  ·refine .inr ⟨it.go i H2 sB hlt,?_⟩
   rw [List.drop_eq_getElem_cons hlt] at e3
   obtain ⟨ρ3,e4,e5⟩:=Option.bind_eq_some_iff.mp e3
   obtain ⟨b,e6,e7⟩:=Option.bind_eq_some_iff.mp e5
   obtain ⟨ol,oo⟩:=ov _ _ _ e4
   have back:∀ {σ' H'},SR K { H0:=F.H0,Oc:=D :: F.Oc,V0:=hide O H1 } (D :: O) ρ3 σ' H'→SR K { H0:=F.H0,Oc:=D :: F.Oc,V0:=hide O H1 } (D :: O) (capS n caps ρ) σ' H':=fun {σ' H'} r'=>r'.forget ol.symm fun j en ej=>by
    obtain ⟨kk,jj,rfl,hj,hv⟩:=qO ej
    rw [oo _ (Nat.le_add_right _ _)];exact ej
   refine ⟨fun σ' H'=>Same H1 H'∧∃ dn vs,H' D=some (.lst vs)∧Reps K (hide (D :: O) H') dn vs∧dn.length ≤ i + 1∧SR K { H0:=F.H0,Oc:=D :: F.Oc,V0:=hide O H1 } (D :: O) (capS n caps ρ) σ' H'∧∃ rest',xF h gt ge (capS n caps ρ) (ds.drop (i + 1))=some rest'∧out=dn ++ rest',
    fun σ' H' hh=>⟨ds.length - (i + 1),by omega,rfl,hlt,hh⟩,fun x H' y => ?_⟩
   obtain ⟨s5,r5,b5⟩:=zdc r2 (it.yld i H2 x H' ds[i] sB (by simp [hlt]) y)
   refine ⟨_,_,_,ds[i],ρ3,r5,b5,e4,fun σ6 r6=>⟨_,_,ρ3,b,r6,e6,fun H7 s7 => ?_⟩⟩
   have s27:Same H2 H7:=s5.trans s7
   cases b with
   | false =>
    refine iteF ⟨sm.trans s27,dn,vs,s27 _ _ hD2,rd.same (zR s27),Nat.le_succ_of_le hdn,back (r6.same s7),rest,e7,ho⟩
   | true =>
    obtain ⟨yd,e8,e9⟩:=Option.bind_eq_some_iff.mp e7
    obtain ⟨rest',e10,e11⟩:=Option.map_eq_some_iff.mp e9
    refine iteT ⟨_,_,ρ3,yd,r6.same s7,e8,fun v H8 s8 b8=>⟨vs,s8 _ _ (s27 _ _ hD2),?_,?_⟩⟩
    ·rw [← rd.length];omega
    ·have s28:Same H2 H8:=s27.trans s8
     have eh:hide (D :: O) (upd H8 D (.lst (vs ++ [v])))=hide (D :: O) H8:=je List.mem_cons_self
     refine ⟨fun bb u eb => ?_,dn ++ [yd],vs ++ [v],jh,?_,?_,?_,rest',e10,?_⟩
     ·rw [zE (zV eb hD)];exact s28 _ _ (sm _ _ eb)
     ·rw [eh];exact (rd.same (zR s28)).append (.cons b8 .nil)
     ·rw [List.length_append,List.length_singleton];omega
     ·exact SR.accUpd (back ((r6.same s7).same s8)) h0D List.mem_cons_self fun _ z=>nomatch z
     ·rw [ho,← e11,List.append_assoc];rfl
  ·have ei:i=ds.length:=by omega
   subst ei
   rw [List.drop_length] at e3
   cases e3
   refine .inl ⟨it.stop H2 sB,?_⟩
   rw [List.append_nil] at ho
   subst ho
   have hH:upd (fun b=>if b=D then none else H2 b) D (.lst vs)=H2:=by
    funext b
    by_cases e:b=D
    ·subst e;rw [jh];exact hD2.symm
    ·rw [zE e];exact if_neg e
   have hh:hide O (fun b=>if b=D then none else H2 b)=hide (D :: O) H2:=by
    funext b
    unfold hide
    by_cases e:b=D
    ·subst e;simp
    ·simp [e]
   have q:=k D vs (fun b=>if b=D then none else H2 b) (fun b o eb=>by
    have:b ≠ D:=zV eb hHD
    show (if b=D then none else H2 b)=some o
    rw [if_neg this];exact sm _ _ (s1 _ _ eb)) (if_pos rfl) (by rw [hh];exact rd)
   rw [hH] at q
   exact q
 ·cases e2
section
variable {X:Cx} {scope:Scope} {own N:List Str} {caps:List Nat} {tg iter elt:Expr} {pos:Pos} {gi:Env'→Option (List D)} {h:GT} {gt:Env'→Option Bool} {ge:Env'→Option D}
noncomputable def PIfd (X:Cx) (ifs:List Expr) (g:Env'→Option Bool):Prop:=PIf X ifs (tTd X.K g)
theorem zhk:PIfd X [] (fun _=>some true):=fun pins s σ H Q I hZq=>by
 obtain ⟨F,O,ρ,b,r,e,k⟩:=hZq
 cases e
 exact zjk pins s σ H Q I (k H (Same.refl _))
theorem xj {c:Expr} {g:Env'→Option Bool} (hc:PTd X c g):PIfd X [c] g:=zjl hc
theorem jv {ifs:List Expr} (S:CompOk X scope own caps N) (nd:caps.Nodup) (ov:Over own.length h) (hc:X.calm=true) (hi:PId X tg iter gi) (hg:jw X N scope fun Y=>PGd Y tg h) (ht:jw X N scope fun Y=>PIfd Y ifs gt) (he:jw X N scope fun Y=>PD Y elt ge)
  (hs:autoParam (∀ x,foldedSetIterable iter X.env x=pure x) aTd):PFr X (.ListComp elt [⟨tg,iter,ifs,0⟩] scope pos) (jx own.length caps gi h gt ge) :=
 PE.imp (zjh (g:=tGd X.K h) (tt:=tTd X.K gt) (te:=tD X.K ge) S hc hi (fun cl C s H fp=>hg cl C s H fp) (fun cl C s H fp=>ht cl C s H fp) (fun cl C s H fp=>he cl C s H fp) hs) fun _ _ _ q=>zan nd ov q
theorem zfx {ifs:List Expr} {i:Nat} {x:Str} {px spos:Pos} (S:CompOk X scope own caps N) (nd:caps.Nodup) (ov:Over own.length h) (hc:X.calm=true) (hi:PId X tg iter gi) (hg:jw X N scope fun Y=>PGd Y tg h) (ht:jw X N scope fun Y=>PIfd Y ifs gt) (he:jw X N scope fun Y=>PD Y elt ge)
  (hN:X.N.Nodup) (hx:X.N[i]?=some x) (hl:X.env.scope.names.lookup x=some .local) (hsw:swapsWith (.ListComp elt [⟨tg,iter,ifs,0⟩] scope pos) (some (.Name x px)) spos.line X.env=pure true)
  (hs:autoParam (∀ x,foldedSetIterable iter X.env x=pure x) aTd):PSd X (.Assign [.Name x px] (.ListComp elt [⟨tg,iter,ifs,0⟩] scope pos) spos) (sOwn i (jx own.length caps gi h gt ge)) :=
 PS.imp (zcU (g:=tGd X.K h) (tt:=tTd X.K gt) (te:=tD X.K ge) S hc hi (fun cl C s H fp=>hg cl C s H fp) (fun cl C s H fp=>ht cl C s H fp) (fun cl C s H fp=>he cl C s H fp) hN hx hl hsw hs) fun D σ H q=>by
  obtain ⟨F,O,ρ,ds,r,e,k⟩:=zfk q
  exact zan nd ov ⟨F,O,ρ,ds,r,e,k⟩
end
end L2.Y
namespace L2.Y
open PySem PySem.Spec PyProof.Rows
section
variable {X:Cx}
theorem zfw {i:Nat} {x:Str} {e:Expr} {p apos cpos pos:Pos} {ge:Env'→Option D} (hv:PE X (.Name x p) (tVar i)) (he:PD X e ge)
  (hbase:autoParam (attributeBase (.Name x p) "append" X.env (eval (.Name x p) X.env)=eval (.Name x p) X.env) aTc)
  (hfew:autoParam (((backTo cpos (starEach [e] X.env)).all (fun x=>!x.1) && (backToKw cpos (keywordEach [] X.env)).all (fun x=>x.1.isSome)
   && decide (([e]:List Expr).length + ([]:List Keyword).length + (if ([]:List Keyword).isEmpty then 0 else 1) < 30))=true) aTc)
  (hline:autoParam ((apos.endLine == cpos.line)=true) aTc) (hs:autoParam (starEach [e] X.env=[(false,eval e X.env)]) aTc)
  (hsw:autoParam (swapsWith (.Call (.Attribute (.Name x p) "append" apos) [e] [] cpos) none pos.line X.env=pure false) aTc) :
  PSd X (.Expr (.Call (.Attribute (.Name x p) "append" apos) [e] [] cpos) pos) (sApp i ge) :=
 PS.imp (zce (zkD PySem.F.plainAttrs_list PySem.F.slot_list_append PySem.F.type_list_append zbq hv (yo he zbu hs) hbase hfew hline hs (by rfl)) hsw) fun D σ H hZq=>by
  obtain ⟨F,O,ρ,out,r,e,k⟩:=hZq
  obtain ⟨d,e1,e2⟩:=Option.bind_eq_some_iff.mp e
  obtain ⟨ds,e3,e4⟩:=Option.bind_eq_some_iff.mp e2
  split at e4
  ·rename_i hl
   cases e4
   have ho:=wF e3
   obtain ⟨q,h1,h2,h3,h4⟩:=r.own i _ ho
   cases h4 with
   | lst hq rq =>
    rename_i xs
    refine ⟨_,h1,.inl ⟨rfl,xs,SqL.of hq⟩,F,O,ρ,d,r,e1,fun v H1 s1 b1 => ?_⟩
    refine ⟨q,xs,v,rfl,rfl,s1 _ _ hq,by rw [← rq.length];exact hl,?_⟩
    refine k O σ _ ((r.same s1).mut ho h1 (.lst jh ?_))
    rw [je h2]
    exact (rq.same (zR s1)).append (.cons b1 .nil)
  ·cases e4
theorem zhr {i:Nat} {x:Str} {e ix:Expr} {p spos pos:Pos} {gi ge:Env'→Option D} (hv:PE X (.Name x p) (tVar i)) (hi:PB X ix gi) (he:PD X e ge)
  (hs:autoParam (swapsWithSole [.Subscript (.Name x p) ix spos] e pos.line X.env=pure false) aTc) (hw:autoParam (swappedStores [.Subscript (.Name x p) ix spos] e X.env=pure none) aTc)
  (h1:autoParam ((assignEach [.Subscript (.Name x p) ix spos] X.env).map (·.2)=[assign (.Subscript (.Name x p) ix spos) X.env]) aTc)
  (ha:autoParam (∀ v,assign (.Subscript (.Name x p) ix spos) X.env v=(do
   let ov ← holding [v] (eval (.Name x p) X.env)
   let iv ← holding [v,ov] (eval ix X.env)
   standAt spos
   holding [v,ov,iv] (setItem ov iv v)
   release [v,ov,iv] [])) aTd) :
  PSd X (.Assign [.Subscript (.Name x p) ix spos] e pos) (zhH i gi ge) :=
 PS.imp (zcT he (zkL hv hi set_list ha) hs hw h1) fun D σ H hZq=>by
  obtain ⟨F,O,ρ,out,r,e,k⟩:=hZq
  obtain ⟨d,e1,e2⟩:=Option.bind_eq_some_iff.mp e
  obtain ⟨kd,e3,e4⟩:=Option.bind_eq_some_iff.mp e2
  split at e4
  ·rename_i j
   obtain ⟨ds,e5,e6⟩:=Option.bind_eq_some_iff.mp e4
   obtain ⟨n,e7,e8⟩:=Option.bind_eq_some_iff.mp e6
   cases e8
   have ho:=wF e5
   refine ⟨F,O,ρ,d,r,e1,fun v H1 s1 b1 => ?_⟩
   have r1:=r.same s1
   obtain ⟨q,g1,g2,g3,g4⟩:=r1.own i _ ho
   cases g4 with
   | lst hq rq =>
    rename_i xs
    refine ⟨_,g1,F,O,ρ,_,r1,e3,fun iv H2 s2 b2 => ?_⟩
    cases b2.int
    refine ⟨q,xs,j,n,rfl,rfl,s2 _ _ hq,by rw [← rq.length];exact e7,?_⟩
    refine k O σ _ ((r1.same s2).mut ho g1 (.lst jh ?_))
    rw [je g2]
    exact (rq.same (zR s2)).set n (b1.same (zR s2))
  ·cases e4
end
noncomputable def spD (K:Frag) (n:Nat) (f:List D→Option D):Sp:=fun vs H Q _=>∃ O ds d,Dom O H∧Reps K (hide O H) ds vs∧ds.length=n∧f ds=some d∧∀ v H',Same H H'→Rep K (hide O H') d v→Q v H'
theorem zhO {K:Frag} {O:List Addr} {H:Hp} {N:List Str} {ds:List D} {vs:List V} (hO:Dom O H) (r:Reps K (hide O H) ds vs) (hl:ds.length ≤ N.length):SR K ⟨H,O,hide O H⟩ O (xQ N.length ds) (start N vs) H:=by
 have elen:=r.length
 have split:∀ {i:Nat} {e:En},(xQ N.length ds)[i]?=some (some e)→∃ d,ds[i]?=some d∧e=.val d:=fun {i e} h=>by
  unfold xQ at h
  by_cases hi:i < ds.length
  ·rw [List.getElem?_append_left (by simpa using hi),List.getElem?_map] at h
   obtain ⟨d,h1,h2⟩:=Option.map_eq_some_iff.mp h
   exact ⟨d,h1,(Option.some.inj h2).symm⟩
  ·rw [List.getElem?_append_right (by simpa using hi),List.getElem?_replicate] at h
   split at h <;> cases h
 refine ⟨Same.refl _,Same.refl _,fun _ h=>h,hO,?_,fun i d h => ?_,fun i d h => ?_,fun i j d d' p h => ?_⟩
 ·unfold start xQ
  rw [List.length_append,List.length_append,List.length_map,List.length_map,List.length_replicate,List.length_replicate]
  omega
 ·obtain ⟨d',h1,h2⟩:=split h
  cases h2
  obtain ⟨v,g1,g2⟩:=r.get h1
  refine ⟨v,?_,g2⟩
  unfold start
  have hi:i < vs.length:=(List.getElem?_eq_some_iff.mp g1).1
  rw [List.getElem?_append_left (by simpa using hi),List.getElem?_map,g1]
  rfl
 ·obtain ⟨d',h1,h2⟩:=split h
  cases h2
 ·obtain ⟨d',h1,h2⟩:=split h
  cases h2
noncomputable abbrev cxD (P:Program) (w:World) (K:Frag) (mg:Str→Option Value) (base:Heap) (N:List Str) (qual:Str) (st:Stmt) (f:Addr) (cdv:Value) (A:Around) (outer:List Env) (s:Shared) (H:Hp) (E:XK):Cx :=
 (cxOf CX0 P w K mg base N qual (zd st) f cdv A outer s H E).nox
section
variable {P:Program} {w:World} {K:Frag} {mg:Str→Option Value} {base:Heap}
theorem jF {x qual:Str} {st:Stmt} {f:Addr} {fd:FuncData} {N ps:List Str} {k:Nat} {g:GS} (F:Fun K x qual st f fd) (S:FnScope N ps (zd st))
  (hb:∀ (cdv:Value) (A:Around) (outer:List Env) (s:Shared) (H:Hp) (E:XK),Room k (A.deeper (envOfC qual (zd st) s.heap.objs.size f cdv))→PSsd (cxD P w K mg base N qual st f cdv A outer s H E) (zk st) g) :
  FnOk P w K mg base CX0 (k + 1) f fd ps (spD K ps.length (jn N.length g)):=by
 have hpl:ps.length ≤ N.length:=by have:=congrArg List.length S.pre;rw [List.length_take] at this;omega
 refine F.ok S (fun vs H Q E h => ?_) (fun cdv A outer s H vs Q E hr h => ?_)
 ·obtain ⟨O,ds,d,_,r,hl,_⟩:=h
  rw [← r.length];exact hl
 ·obtain ⟨O,ds,d,hO,r,hl,e,k⟩:=h
  obtain ⟨o,e1,e2⟩:=Option.bind_eq_some_iff.mp e
  refine ⟨_,hb cdv A outer s H E hr,⟨H,O,hide O H⟩,O,xQ N.length ds,o,zhO hO r (by omega),e1,?_⟩
  cases o with
  | ret d'=>cases e2;exact fun v H' s b=>k v H' s b
  | nxt ρ' =>
   cases e2
   exact fun O' σ' H' r'=>k .non H' r'.hb .non
  | brk _=>cases e2
  | cnt _=>cases e2
end
section
variable {X:Cx}
theorem zo {k n:Nat} {f:Addr} {fd:FuncData} {ps:List Str} {fn:List D→Option D} {x:Str} {p pos:Pos} {e:Expr} {es:List Expr} {g:Env'→Option (List D)} (F:FnOk X.prog X.w X.K X.mg X.base CX0 k f fd ps (spD X.K n fn)) (hr:Room k X.A) (hg:Gl X x) (hm:X.mg x=some (.ref f)) (hk:PySem.W.keepIn X.K (.ref f)=true) (hb:Binds X.K fd ps [])
  (ha:PAd X (e :: es) g) (hdb:autoParam ((x == ("__debug__" : Str))=false) aTb) (he:autoParam (starEach (e :: es) X.env=(false,eval e X.env) :: starEach es X.env) aTe) (hpl:autoParam ((backTo pos (starEach es X.env)).any (·.1)=false) aTc) :
  PD X (.Call (.Name x p) (e :: es) [] pos) (gA (zt n fn) g) :=
 PE.imp (zjf F hr hg hm hk hb .nil zlr ha hdb he hpl) fun σ H Q hZq=>by
  obtain ⟨F',O,ρ,d,r,e,k⟩:=hZq
  obtain ⟨ds,e1,e2⟩:=yf e
  unfold zt at e2
  split at e2
  ·rename_i hl
   refine ⟨F',O,ρ,ds,r,e1,fun vs H1 s1 b1 => ?_⟩
   show spD X.K n fn (vs ++ []) H1 Q E0
   rw [List.append_nil]
   exact ⟨O,ds,d,(r.same s1).dom,b1,hl,e2,fun v H' s2 b2=>k v H' (s1.trans s2) b2⟩
  ·cases e2
noncomputable def tyN:D→String
 | .none => "NoneType"
 | .bool _ => "bool"
 | .int _ => "int"
 | .str _ => "str"
 | .list _ => "list"
 | .tuple _ => "tuple"
 | .dict _ => "dict"
theorem zgV (K:Frag) (d:D):PySem.W.kitOne K (.type (tyN d)) (.type "bool")=some (zb0 d):=by cases d <;> rfl
theorem zdo {pins:List (Addr × Obj)} {σ:St} {H:Hp} {s:Shared} {d:D} {x:V} {u c:Value} {b:Bool} {Q:Value→Shared→Prop} {E:Value→Shared→Prop} (I:Inv X pins σ H s) (r:Rep X.K H d x) (nd:∀ z,d ≠ .dict z) (rx:RelV x u) (e:PySem.W.kitOne X.K (.type (tyN d)) c=some b) (h:∀ tk,Q (.bool b) { s with toks:=tk }) :
  wpAny (model X.prog X.w) X.A (call (.builtin "isinstance") [u,c]) Q E s:=by
 cases r with
 | non=>exact qV I rx .non e h
 | bl y=>exact qV I rx (.bl y) e h
 | int i=>exact qV I rx (.int i) e h
 | str y=>exact qV I rx (.str y) e h
 | @tup a xs ds sq _ =>
  obtain rfl:u=Value.ref a:=rx
  obtain ⟨its,_,⟨o,h1,h2,_⟩,_⟩:=I.tuple (.inl (.inl sq))
  exact PySem.W.kia_one PySem.W.kitx_tuple I.kIn ⟨o,h1,h2⟩ e (fun z=>nomatch z) h
 | lst rd _ =>
  rcases rd with rd | ⟨o,rd⟩
  ·exact qV I rx (.lst rd) e h
  ·exact qV I rx (.frz rd) e h
 | dK hd _=>exact absurd rfl (nd _)
 | dT hd _=>exact absurd rfl (nd _)
 | dF hd _=>exact absurd rfl (nd _)
 | scr hd _=>exact absurd rfl (nd _)
 | adr _=>exact absurd rfl (nd _)
theorem zgR {f:D→Bool} {d r:D} (h:isI f d=some r):r=.bool (f d)∧∀ z,d ≠ .dict z:=by
 cases d <;> first | (cases h;exact ⟨rfl,fun z e=>nomatch e⟩) | cases h
theorem zfl {T:String} {x:Str} {f:D→Bool} {a:Expr} {p q pos:Pos} {ga:Env'→Option D} (hk:∀ d,PySem.W.kitOne X.K (.type (tyN d)) (.type T)=some (f d)) (ha:PB X a ga) (hg:Gl X "isinstance") (hm:X.mg "isinstance" = none) (hg2:Gl X x) (hm2:X.mg x=none)
  (hv:bootBuiltins "isinstance" = some (.builtin "isinstance")) (hv2:bootBuiltins x=some (.type T)) (hn:autoParam (x ≠ "__name__") aTb) (hdb:autoParam ((x == ("__debug__" : Str))=false) aTb)
  (he:autoParam (starEach [a,.Name x q] X.env=(false,eval a X.env) :: starEach [.Name x q] X.env) aTc) (hpl:autoParam ((backTo pos (starEach [.Name x q] X.env)).any (·.1)=false) aTc):PD X (.Call (.Name "isinstance" p) [a,.Name x q] [] pos) (g1 (isI f) ga):=by
 have hc:wY X (.builtin "isinstance") (fun xs H Q=>∃ y O d,xs=[y,.ty T]∧RepB X.K O H d y∧(∀ z,d ≠ .dict z)∧Q (.bl (f d)) H):=by
  intro pins s σ H xs us Q I rv hZq
  obtain ⟨y,O,d,e,rb,nd,q⟩:=hZq
  subst e
  cases rv with
  | cons r1 rr =>
   obtain ⟨u2,rfl,r2⟩:=vals1 rr
   obtain rfl:u2=Value.type T:=r2
   exact zdo I rb.full nd r1 (hk d) fun tk=>⟨.bl (f d),H,I.tok tk,rfl,q⟩
 exact PE.imp (zaK hc hg hm hv (yo ha (yo (zje (v:=.ty T) hg2 hm2 hv2 rfl hn hdb) zbu) he) (by decide) (by decide) he hpl) fun σ H Q hZq=>by
  obtain ⟨F,O,ρ,d,r,e,k⟩:=hZq
  obtain ⟨dx,e1,e2⟩:=zeH e
  obtain ⟨rfl,nd⟩:=zgR e2
  exact ⟨F,O,ρ,dx,r,e1,fun v H1 s1 b1=>⟨v,O,dx,rfl,b1,nd,k _ H1 s1 (.bl _)⟩⟩
end
end L2.Y
namespace L2.Y
open PySem PySem.Spec PyProof.Rows
section
variable {X:Cx}
variable {a b c:Expr} {pos:Pos} {ga gb gc:Env'→Option D}
noncomputable def zj3 (oscope:Scope) (oN:List Str) (scope:Scope) (own:List Str) (caps:List Nat) (N:List Str):Bool :=
 decide (scope.kind=.function) && scope.names.all (fun y=>decide (y.2 ≠ .cell)) && scope.names.all (fun y=>decide (y.2=.local→scope.names.lookup y.1=some .local)) &&
 scope.names.all (fun y=>decide (y.2=.free→oscope.names.lookup y.1=some .cell ∨ oscope.names.lookup y.1=some .free)) && decide N.Nodup && decide (N=own ++ caps.map fun j=>oN.getD j Str.empty) &&
 caps.all (fun j=>decide (j < oN.length) && decide (scope.names.lookup (oN.getD j Str.empty)=some .free)) && decide caps.Nodup
theorem zF {oscope scope:Scope} {oN own N:List Str} {caps:List Nat} (h:zj3 oscope oN scope own caps N=true) (h1:X.env.scope=oscope) (h2:X.N=oN):CompOk X scope own caps N:=by
 unfold zj3 at h
 simp only [Bool.and_eq_true,decide_eq_true_eq,List.all_eq_true] at h
 obtain ⟨⟨⟨⟨⟨⟨⟨a1,a2⟩,a3⟩,a4⟩,a5⟩,a6⟩,a7⟩,a8⟩:=h
 subst h1 h2
 refine ⟨a1,a2,a3,a4,a5,by rw [a6];simp,fun k j hk => ?_⟩
 obtain ⟨b1,b2⟩:=a7 j (List.mem_of_getElem? hk)
 refine ⟨X.N.getD j Str.empty,by simp [List.getD,b1],?_,b2⟩
 rw [a6,List.getElem?_append_right (Nat.le_add_right _ _),Nat.add_sub_cancel_left,List.getElem?_map,hk]
 rfl
theorem vq:∀ {ds:List D} {bs:List Bool},kI ds=some bs→ds=bs.map PyData.bool
 | [],_,h=>by cases h;rfl
 | d :: ds,_,h=>by
  unfold kI at h
  rw [List.mapM_cons] at h
  obtain ⟨i,h1,h⟩:=Option.bind_eq_some_iff.mp h
  obtain ⟨r,h2,h⟩:=Option.bind_eq_some_iff.mp h
  cases h
  rw [kH h1,vq (ds:=ds) h2];rfl
theorem zcn {K:Frag} {H:Hp}:∀ {bs:List Bool} {xs:List V} {us:List Value},Reps K H (bs.map PyData.bool) xs→Vals xs us→us=bs.map Value.bool
 | [],_,_,r,v=>by cases r;cases v;rfl
 | b :: bs,_,_,r,v=>by
  cases r with
  | cons r rr =>
   cases r
   cases v with
   | cons v vv=>cases v;rw [zcn rr vv];rfl
theorem zaw {K:Frag} {H:Hp} {is:List Int} {xs:List V} {us:List Value} (r:Reps K H (is.map PyData.int) xs) (v:Vals xs us):IntsAre us is:=by
 cases r.ints
 exact intsAre_of v
theorem xE (hc:X.calm=true):wX X (.builtin "sum") sumD:=by
 intro pins s σ H O xs us ds d Q I hO rv bs e k
 have fin:∀ {is:List Int} {h' : Heap} {tk:Nat} {t' : Tok},d=.int is.sum→(∀ b o,s.heap.get? b=some o→h'.get? b=some o)→EP X pins σ Q (.int is.sum t') { s with heap:=h',toks:=tk }:=fun {is h' tk t'} ed hk=>by
  subst ed
  exact zcz (I.kept (t':=tk) hk) k
 unfold sumD at e
 split at e
 ·obtain ⟨is,e1,e2⟩:=Option.map_eq_some_iff.mp e
  cases qe e1
  obtain ⟨v,rfl,b⟩:=bs.inv1
  obtain ⟨a,ys,rfl,sq,rs⟩:=b.lst
  obtain ⟨u,rfl,ru⟩:=vals1 rv
  obtain rfl:u=Value.ref a:=ru
  obtain ⟨its,r,pl,hz⟩:=I.list sq
  have hi:=zaw rs r
  obtain ⟨zs,hx⟩:=hi.allInts.items
  have hl' : s.heap.IsList a (intItems zs):=hx ▸ pl.isList
  refine sum_intListG (I.ok.hd hc) hl' fun h' tk t' hk => ?_
  have e1:is=zs.toList.map (·.1):=by
   rw [← nums_intItems,← hx]
   exact (show numsOf its.toArray.toList=is from hi.numsOf).symm
  have e3:preSum (numAt zs) zs.size=is.sum:=by
   rw [preSum_eq,List.take_of_length_le (by simp),e1]
  rw [e3]
  exact fin e2.symm hk
 ·obtain ⟨is,e1,e2⟩:=Option.map_eq_some_iff.mp e
  cases qe e1
  obtain ⟨v,rfl,b⟩:=bs.inv1
  obtain ⟨a,ys,rfl,sq,rs⟩:=b.tup
  obtain ⟨u,rfl,ru⟩:=vals1 rv
  obtain rfl:u=Value.ref a:=ru
  obtain ⟨its,r,pl,hz⟩:=I.tuple sq
  have hi:=zaw rs r
  obtain ⟨zs,hx⟩:=hi.allInts.items
  have hl' : s.heap.IsTuple a (intItems zs):=hx ▸ pl
  refine PySem.W.ktm_sumG (I.ok.hd hc) hl' fun h' tk t' hk => ?_
  have e1:is=zs.toList.map (·.1):=by
   rw [← nums_intItems,← hx]
   exact (show numsOf its.toArray.toList=is from hi.numsOf).symm
  have e3:preSum (numAt zs) zs.size=is.sum:=by
   rw [preSum_eq,List.take_of_length_le (by simp),e1]
  rw [e3]
  exact fin e2.symm hk
 ·cases e
end
end L2.Y
namespace L2.Y
open PySem PySem.Spec PyProof.Rows
section
variable {X:Cx}
theorem zei (hc:X.calm=true):wX X (.builtin "all") allD:=by
 intro pins s σ H O xs us ds d Q I hO rv bs e k
 unfold allD at e
 split at e
 ·obtain ⟨bl,e1,e2⟩:=Option.map_eq_some_iff.mp e
  subst e2
  cases vq e1
  obtain ⟨v,rfl,b⟩:=bs.inv1
  obtain ⟨a,ys,rfl,sq,rs⟩:=b.lst
  obtain ⟨u,rfl,ru⟩:=vals1 rv
  obtain rfl:u=Value.ref a:=ru
  obtain ⟨its,r,pl,hz⟩:=I.list sq
  have hb:=zcn rs r
  subst hb
  have hl:=pl.isList
  have hlt:a < s.heap.objs.size:=by obtain ⟨_,e,_⟩:=hl;exact Heap.lt_size e
  refine call_all_walk (wpAny_pyIter_list hl ?_)
  refine ⟨s.heap.objs.size,[s.heap.objs.size,a],[s.heap.objs.size],(bl.map Value.bool).toArray.size,_,_,fun i=>(bl[i]?).getD true,rfl,Walks.list (A:=X.A.in1) (I.ok.hd hc) _ a (Nat.ne_of_lt hlt) _,
   ⟨⟨_,Heap.get?_push_size _ rfl,rfl,rfl⟩,hl.push _⟩,fun i v s' Q' E' hP hQ => ?_,fun h' tk hk => ?_⟩
  ·have hP' : (bl.map Value.bool)[i]?=some v:=by simpa using hP
   rw [List.getElem?_map] at hP'
   obtain ⟨b0,hb0,rfl⟩:=Option.map_eq_some_iff.mp hP'
   simp only [hb0,Option.getD_some] at hQ
   exact wpAny_truthy_bool hQ
  ·have e:((List.range (bl.map Value.bool).toArray.size).all fun i=>(bl[i]?).getD true)=bl.all id:=by
    rw [List.size_toArray,List.length_map];exact PyProof.Rows.LSm.range_all bl
   rw [e]
   exact wo (I.kept (t':=tk) (PyProof.Rows.LSm.kept_iter hk)) k
 ·cases e
noncomputable def tOd (K:Frag) (g:GO):TO:=fun σ H Q=>∃ F O ρ o,SR K F O ρ σ H∧g ρ=some o∧∀ H',Same H H'→Q o H'
noncomputable def POd (X:Cx) (e:Option Expr) (g:GO):Prop:=PO X e (tOd X.K g)
theorem PO.imp {e:Option Expr} {t t' : TO} (h:PO X e t) (k:∀ σ H Q,t' σ H Q→t σ H Q):PO X e t':=fun pins s σ H Q I q=>h pins s σ H Q I (k σ H Q q)
theorem qm:POd X none qq:=PO.imp zjn fun σ H Q hZq=>by
 obtain ⟨F,O,ρ,o,r,e,k⟩:=hZq
 cases e
 exact k H (Same.refl _)
theorem qo {e:Expr} {g:Env'→Option D} (h:PB X e g):POd X (some e) (jU g):=PO.imp (zjo h) fun σ H Q hZq=>by
 obtain ⟨F,O,ρ,o,r,e,k⟩:=hZq
 obtain ⟨d,e1,e2⟩:=Option.bind_eq_some_iff.mp e
 split at e2
 ·rename_i i
  cases e2
  exact ⟨F,O,ρ,_,r,e1,fun v H' s b=>⟨i,b.int,k H' s⟩⟩
 ·cases e2
theorem wq {t sl:Addr} {items:Array Value} {vl vu:Value} {lo hi:Option Int} {prog:Program} {w:World} {A:Around} {E:Value→Shared→Prop} {s:Shared} {Q:Value→Shared→Prop} (ht:IsTup s.heap t items) (hs:s.heap.IsSliceOf sl vl vu .none) (pl:IsPart vl lo) (pu:IsPart vu hi)
  (hw:HT.sIx items.size 0 lo=0∧HT.sIx items.size items.size hi=items.size) (h:Q (.ref t) s):wpAny (model prog w) A (getItem (.ref t) (.ref sl)) Q E s:=by
 obtain ⟨os,hos,hcs,hds⟩:=id hs
 have hTs:s.TypeIs (.ref sl) "slice" := ⟨os,hos,hcs⟩
 unfold getItem
 try with_reducible refine wpAny_holding ?_
 first | refine wpAny_bind (wpAny_pure ?_) | skip
 refine wpAny_bind (wpAny_sequenceKey ht.typeIs (by decide) ?_)
 refine wpAny_bind (wpAny_callSpecial?_slot (name:=Str.ofString "__getitem__") ht.typeIs PyProof.Rows.slot_tuple_getitem
  (wpAny_call_entry PyProof.Rows.slot_tuple_getitem ht.typeIs entry_tuple_getitem ?_ (args_tuple_getitem _ _)))
 show wpAny _ _ (Builtin.Tuple.tupleItemsOf (.ref t) >>= _) _ _ s
 refine wpAny_bind (tupleItemsOf_ ht ?_)
 refine wpAny_bind (wpAny_typeOf hTs ?_)
 rw [if_pos (by decide)]
 refine wpAny_bind (HT.sliceApplied_gen hs pl pu ?_)
 have hyes:(((HT.sIx items.size 0 lo:Nat):Int) == 0 && (1:Int) == 1 && (HT.sIx items.size items.size hi - HT.sIx items.size 0 lo) == items.size)=true:=by
  rw [hw.1,hw.2];simp
 show wpAny _ _ (if (((HT.sIx items.size 0 lo:Nat):Int) == 0 && (1:Int) == 1 && (HT.sIx items.size items.size hi - HT.sIx items.size 0 lo) == items.size)=true then _ else _) _ _ s
 rw [if_pos hyes]
 refine wpAny_bind ?_
 unfold Builtin.Tuple.tupleIsExact
 refine wpAny_bind (wpAny_typeOf ht.typeIs (wpAny_pure ?_))
 rw [if_pos (by decide)]
 exact wpAny_bind (wpAny_rule (wpAny_pure ⟨_,rfl,wpAny_pure h⟩))
theorem za9 {K:Frag} {H:Hp} {ds:List D} {xs:List V} {lo hi:Option Int} (r:Reps K H ds xs):Reps K H (cutD ds lo hi) (cutV xs lo hi):=by
 unfold cutD cutV
 rw [r.length]
 exact (r.drop _).take _
theorem zlB:SlR X (fun x lo hi H Q=>∃ O dx d,Dom O H∧RepB X.K O H dx x∧slD dx lo hi=some d∧∀ z H',Same H H'→Rep X.K (hide O H') d z→Q z H'):=by
 intro pins s σ H x v vl vu lo hi sl Q I rx hs pl pu hZq
 obtain ⟨O,dx,d,hO,b,e,k⟩:=hZq
 unfold slD at e
 split at e
 ·rename_i ds
  cases e
  obtain ⟨a,xs,rfl,sq,rs⟩:=b.tup
  by_cases hw:HT.sIx xs.length 0 lo=0∧HT.sIx xs.length xs.length hi=xs.length
  ·obtain rfl:v=Value.ref a:=rx
   obtain ⟨its,r,ht,hz⟩:=I.tuple sq
   have hlen:its.toArray.size=xs.length:=by rw [List.size_toArray];exact r.length.symm
   refine ⟨"tuple",_,PyProof.Rows.slot_tuple_getitem.lookup,ht.typeIs,?_⟩
   refine wq ht hs pl pu (by rw [hlen];exact hw) ⟨.ref a,H,I,rfl,k _ H (Same.refl _) ?_⟩
   have:cutD ds lo hi=ds:=by
    unfold cutD
    rw [rs.length,hw.1,hw.2,Nat.sub_zero,List.drop_zero,← rs.length,List.take_length]
   rw [this]
   exact wW b
  ·exact zk2 pins s σ H _ v vl vu lo hi sl Q I rx hs pl pu ⟨a,xs,rfl,sq,hw,fun p hp=>k _ _ (jg hp) (xZ hp (hO.out hp) (za9 rs))⟩
 ·cases e
  obtain ⟨a,xs,rfl,sq,rs⟩:=b.lst
  exact zjK pins s σ H _ v vl vu lo hi sl Q I rx hs pl pu ⟨a,xs,rfl,sq,fun p hp=>k _ _ (jg hp) (yV hp (hO.out hp) (za9 rs))⟩
 ·cases e
theorem qj {e:Expr} {lo hi:Option Expr} {p2 pos:Pos} {ga:Env'→Option D} {gl gh:GO} (he:PB X e ga) (hl:POd X lo gl) (hu:POd X hi gh):PD X (.Subscript e (.Slice lo hi none p2) pos) (gSl ga gl gh) :=
 PE.imp (zhg zlB he hl hu) fun σ H Q hZq=>by
  obtain ⟨F,O,ρ,d,r,e,k⟩:=hZq
  obtain ⟨dx,e1,e⟩:=Option.bind_eq_some_iff.mp e
  obtain ⟨l,e2,e⟩:=Option.bind_eq_some_iff.mp e
  obtain ⟨h,e3,e⟩:=Option.bind_eq_some_iff.mp e
  refine ⟨F,O,ρ,dx,r,e1,fun x H1 s1 b1=>⟨F,O,ρ,l,r.same s1,e2,fun H2 s2=>⟨F,O,ρ,h,(r.same s1).same s2,e3,fun H3 s3 => ?_⟩⟩⟩
  exact ⟨O,dx,d,(((r.same s1).same s2).same s3).dom,b1.same (s2.trans s3),e,fun z H' s4 b4=>k z H' (s1.trans (s2.trans (s3.trans s4))) b4⟩
end
end L2.Y
namespace L2.Y
open PySem PySem.Spec PyProof.Rows
theorem yL:fillsNumberSlot (.type "tuple") "mul" = pure false :=
 PySem.fillsNumberSlot_seq (id := "tuple.__mul__") (r:=some (.builtin "tuple.__rmul__")) PySem.F.slot_tuple_mul.lookup (by decide +kernel) PySem.F.slot_tuple_rmul.lookup (by decide +kernel)
theorem zbC:seqRepeat? (.type "tuple")=pure (some (.builtin "tuple.__mul__")):=by
 unfold seqRepeat?
 rw [PySem.seqSlot_of (T := "tuple") (name := "__mul__") (id := "tuple.__mul__") PySem.F.slot_tuple_mul.lookup (by decide +kernel),PySem.seqSlot_of (T := "tuple") (name := "__rmul__") (id := "tuple.__rmul__") PySem.F.slot_tuple_rmul.lookup (by decide +kernel)]
 rfl
section
open PySem.SeqAt
open PySem.AutoSeq1 (wpAny_loadPart')
open PySem.MeetsSeq PySem.MeetsSeq2 PySem.MeetsSeq3
theorem ky (a:Int) (t:Tok) (l:Addr) (items:Array Value) (n:Nat) (dd:Option Addr) (sl:Array (Option Value)) :
  Meets (Builtin.«int.__rmul__» ⟨[.int a t,.ref l],[]⟩) (fun _ R s=>s.heap.get? l=some { cls:=.type "tuple",dict:=dd,data:=.seq items n,slots:=sl }∧R (.ok (.ret Value.notImplemented)) s) :=
 .of_wp fun prog w A R s h=>by obtain ⟨hp,g,d,tk,os⟩:=s;obtain ⟨hl,h⟩:=h;wp_walk;exact ⟨_,rfl,h⟩
theorem kE (l:Addr) (items:Array Value) (n:Nat) (dd:Option Addr) (sl:Array (Option Value)) (x:Int) (u:Tok) (h1:(decide (x < -(2 ^ 63)) || decide (x ≥ 2 ^ 63))=false) (h2:(items.isEmpty || x == 1)=true) :
  Meets (Builtin.«tuple.__mul__» ⟨[.ref l,.int x u],[]⟩) (fun _ R s=>s.heap.get? l=some { cls:=.type "tuple",dict:=dd,data:=.seq items n,slots:=sl }∧R (.ok (.ret (.ref l))) s) :=
 .of_wp fun prog w A R s h=>by
  obtain ⟨hp,g,d,tk,os⟩:=s;obtain ⟨hl,h⟩:=h
  have f1:=AutoSeq1.idx_int
  have f2:=AutoSeq1.sub_tuple_tuple
  wp_walk using wpAny_loadPart' hl
  rw [if_neg (by rw [h1];exact Bool.false_ne_true)]
  wp_walk using wpAny_loadPart' hl
  exact ⟨_,rfl,h⟩
theorem kD (l:Addr) (items:Array Value) (n:Nat) (dd:Option Addr) (sl:Array (Option Value)) (x:Int) (u:Tok) (h1:(decide (x < -(2 ^ 63)) || decide (x ≥ 2 ^ 63))=false) (h2:(items.isEmpty || x == 1)=false) (h3:(decide (x ≤ 0) || items.isEmpty)=false)
  (h4:¬ (items.size:Int) * x > (2 ^ 63 - 1) / 8) (h5:Builtin.Tuple.tupleTooMany (items.size * x)=false) (hsz:(List.foldl (fun x1 x2=>x1 ++ x2) #[] (List.replicate x.toNat items)).size ≤ sizeLine) :
  Meets (Builtin.«tuple.__mul__» ⟨[.ref l,.int x u],[]⟩) (fun _ R s=>s.heap.get? l=some { cls:=.type "tuple",dict:=dd,data:=.seq items n,slots:=sl } ∧
   R (.ok (.ret (.ref s.heap.objs.size))) { s with heap:=s.heap.push { cls:=.type "tuple",data:=.seq (List.foldl (fun x1 x2=>x1 ++ x2) #[] (List.replicate x.toNat items)) } }) :=
 .of_wp fun prog w A R s h=>by
  obtain ⟨hp,g,d,tk,os⟩:=s;obtain ⟨hl,h⟩:=h
  have f1:=AutoSeq1.idx_int
  have f2:=AutoSeq1.sub_tuple_tuple
  wp_walk using wpAny_loadPart' hl
  rw [if_neg (by rw [h1];exact Bool.false_ne_true)]
  wp_walk using wpAny_loadPart' hl
  rw [if_neg h4]
  wp_walk
  exact ⟨_,rfl,h⟩
end
section
variable {X:Cx}
theorem Reps.rep {K:Frag} {H:Hp} {ds:List D} {xs:List V} (r:Reps K H ds xs):∀ k:Nat,Reps K H (List.replicate k ds).flatten (List.replicate k xs).flatten
 | 0=>.nil
 | k + 1=>by
  rw [List.replicate_succ,List.replicate_succ,List.flatten_cons,List.flatten_cons]
  exact r.append (Reps.rep r k)
theorem zap (its:List Value) (m:Nat):List.foldl (fun x1 x2=>x1 ++ x2) #[] (List.replicate m its.toArray)=(List.replicate m its).flatten.toArray:=by
 have:=foldl_rep its m []
 rw [List.nil_append] at this
 exact this
theorem jY:OpD X (binaryOp .Mult) qW:=by
 intro pins s σ H O x y v u dx dy d Q I hO rx ry bx by' e k
 unfold qW at e
 split at e
 ·rename_i i j
  unfold mulI at e
  split at e
  ·cases e
   cases bx.int
   cases by'.int
   exact zkv pins s σ H _ _ v u Q I rx ry ⟨i,j,rfl,rfl,by assumption,k _ H (Same.refl _) (.int _)⟩
  ·cases e
 ·rename_i ds j
  obtain ⟨es,e1,rfl⟩:=Option.map_eq_some_iff.mp e
  unfold repD at e1
  split at e1
  ·rename_i hc
   obtain ⟨c1,c2,c3⟩:=hc
   cases e1
   obtain ⟨l,xs,rfl,sq,rs⟩:=bx.lstR
   cases by'.int
   obtain rfl:v=Value.ref l:=rx
   obtain ⟨t,rfl⟩:=ry
   obtain ⟨z,its,n,r,e⟩:=zcZ I sq
   have hlen:its.toArray.size * j.toNat ≤ sizeLine:=by rw [List.size_toArray,← r.length,← rs.length];exact c3
   have hcap:¬ its.toArray.size * j.toNat > (2 ^ 63 - 1) / 8:=by
    have:(sizeLine:Nat) ≤ (2 ^ 63 - 1) / 8:=by decide
    omega
   have hfit:¬ (!Builtin.List.listFitsIndex j)=true:=by
    rw [fitsIndex_both c1 c2]
    exact Bool.false_ne_true
   have hlong:¬ Builtin.List.listTooLong (its.toArray.size * j.toNat)=true:=by
    rw [zaE hlen]
    exact Bool.false_ne_true
   have hnew:List.foldl (fun x1 x2=>x1 ++ x2) #[] (List.replicate (if its.toArray.isEmpty=true then 0 else j.toNat) its.toArray)=(List.replicate j.toNat its).flatten.toArray:=by
    rw [zap]
    cases its with
    | nil=>simp
    | cons a r'=>rw [if_neg (by simp)]
   refine wpAny_binaryOp_repeat_ref (T := "list") (U := "int") (by decide) ⟨_,e,rfl⟩ (fun s'=>typeIs_int s' j t) noFill_list_mul F.fills_int_mul F.slot_int_rmul repeat_list F.slot_int_index.lookup
    (call_meets F.slot_int_rmul (typeIs_int s j t) F.entry_int_rmul (F.args_int_rmul_2 _ _) (int___rmul___int_list j t l its.toArray n)
     ⟨e,rfl,⟨_,e,rfl⟩,call_meets F.slot_list_mul ⟨_,e,rfl⟩ F.entry_list_mul (F.args_list_mul_2 _ _) (AutoListH.list___mul___list_int_3 l its.toArray n j t hfit hcap hlong) ⟨e,?_⟩⟩)
   rw [hnew]
   exact zey (t':=s.toks) I hO (r.rep j.toNat) (by rw [len_rep,Nat.mul_comm,← rs.length];exact c3) (rs.rep j.toNat) k
  ·cases e1
 ·rename_i ds j
  split at e
  ·rename_i hj
   obtain ⟨es,e1,rfl⟩:=Option.map_eq_some_iff.mp e
   unfold repD at e1
   split at e1
   ·rename_i hc
    obtain ⟨c1,c2,c3⟩:=hc
    cases e1
    obtain ⟨l,xs,rfl,sq,rs⟩:=bx.tup
    cases by'.int
    obtain rfl:v=Value.ref l:=rx
    obtain ⟨t,rfl⟩:=ry
    obtain ⟨its,r,ht,hz⟩:=I.tuple sq
    obtain ⟨⟨cls,dd,data,sl⟩,ho,hcl,n,hd⟩:=id ht
    simp only at hcl hd
    subst hcl hd
    have hlen:its.toArray.size * j.toNat ≤ sizeLine:=by rw [List.size_toArray,← r.length,← rs.length];exact c3
    have h1:(decide (j < -(2 ^ 63)) || decide (j ≥ 2 ^ 63))=false:=by simp;omega
    refine wpAny_binaryOp_repeat_ref (T := "tuple") (U := "int") (by decide) ⟨_,ho,rfl⟩ (fun s'=>typeIs_int s' j t) yL F.fills_int_mul F.slot_int_rmul zbC F.slot_int_index.lookup
     (call_meets F.slot_int_rmul (typeIs_int s j t) F.entry_int_rmul (F.args_int_rmul_2 _ _) (ky j t l its.toArray n dd sl) ⟨ho,rfl,⟨_,ho,rfl⟩,?_⟩)
    by_cases h2:(its.toArray.isEmpty || j == 1)=true
    ·refine call_meets F.slot_tuple_mul ⟨_,ho,rfl⟩ F.entry_tuple_mul (F.args_tuple_mul_2 _ _) (kE l its.toArray n dd sl j t h1 h2) ⟨ho,?_⟩
     have eq:(List.replicate j.toNat ds).flatten=ds:=by
      rcases Bool.or_eq_true_iff.mp h2 with q | q
      ·have:its=[]:=by simpa using q
       have:xs=[]:=(r.nil_iff).mp this
       subst this
       cases rs
       simp
      ·have:j=1:=by simpa using q
       subst this
       simp
     rw [eq] at k
     exact ⟨.ref l,H,I,rfl,k _ H (Same.refl _) (wW bx)⟩
    ·have h2:(its.toArray.isEmpty || j == 1)=false:=by simpa using h2
     have h2':=Bool.or_eq_false_iff.mp h2
     have ej:((its.toArray.size:Nat):Int) * j=((its.toArray.size * j.toNat:Nat):Int):=by
      rw [Int.natCast_mul,Int.toNat_of_nonneg (by omega)]
     refine call_meets F.slot_tuple_mul ⟨_,ho,rfl⟩ F.entry_tuple_mul (F.args_tuple_mul_2 _ _) (kD l its.toArray n dd sl j t h1 h2 ?_ ?_ ?_ ?_) ⟨ho,?_⟩
     ·rw [h2'.1,Bool.or_false];exact decide_eq_false (by omega)
     ·rw [ej]
      have:(sizeLine:Nat) ≤ (2 ^ 63 - 1) / 8:=by decide
      omega
     ·unfold Builtin.Tuple.tupleTooMany
      rw [ej]
      exact decide_eq_false (by omega)
     ·rw [zap,List.size_toArray,len_rep,Nat.mul_comm]
      simpa using hlen
     ·rw [zap]
      exact zez (t':=s.toks) I hO (r.rep j.toNat) (by rw [len_rep,Nat.mul_comm,← rs.length];exact c3) (rs.rep j.toNat) k
   ·cases e1
  ·cases e
 ·cases e
end
end L2.Y
namespace L2.Y
open PySem PySem.Spec PyProof.Rows
theorem vH {A:Around} {k:Nat} (hr:Room k A):A.units + 66 < cLine:=by have:=hr.un;omega
theorem zat {A:Around} {k:Nat} (hr:Room k A):A.units + 64 < cLine:=by have:=hr.un;omega
theorem zcC {A:Around} {k:Nat} (hr:Room k A):A.units < cLine:=by have:=hr.un;omega
end L2.Y
namespace L2.Y
open PySem PySem.Spec PyProof.Rows
theorem zis (kvs:List (Key × V)) (ds:List D):tabT (.dict ((kvs.map fun p=>keyD p.1).zip ds))=none:=by
 cases kvs with
 | nil=>rfl
 | cons p r =>
  obtain ⟨k,v⟩:=p
  cases ds with
  | nil=>rfl
  | cons d ds=>cases k <;> rfl
theorem zlb {κ:Type} {f:κ→D} {K:Frag} {H:Hp} {kvs:List (κ × V)} {ds:List D} (r:Reps K H ds (kvs.map (·.2))):((kvs.map fun p=>f p.1).zip ds).length=kvs.length:=by
 have:=r.length
 rw [List.length_map] at this
 rw [List.length_zip,List.length_map,this,Nat.min_self]
section
variable {K:Frag} {O:List Addr} {H:Hp} {d:D} {v:V} {p:Addr} {kds:List (D × D)}
theorem OwnAt.tabT (h:OwnAt K O H d p) (e:Y.tabT d=some kds):∃ kvs ds,H p=some (.dT kvs)∧Reps K (hide O H) ds (kvs.map (·.2))∧kds=(kvs.map fun q=>wC q.1).zip ds:=by
 cases h with
 | lst h r=>cases e
 | dK h r=>rw [zis] at e;cases e
 | dT h r=>cases e;exact ⟨_,_,h,r,rfl⟩
theorem RepB.tabT (h:RepB K O H d v) (e:Y.tabT d=some kds):∃ a kvs ds,v=.ref a∧Rd H a (.dT kvs)∧Reps K (hide O H) ds (kvs.map (·.2))∧kds=(kvs.map fun q=>wC q.1).zip ds:=by
 cases h with
 | val h =>
  cases h with
  | dK h r=>rw [zis] at e;cases e
  | dT h r=>cases e;exact ⟨_,_,_,rfl,.inl (qt h).2,r,rfl⟩
  | dF h r=>cases e;exact ⟨_,_,_,rfl,.inr ⟨_,(qt h).2⟩,r,rfl⟩
  | _=>cases e
 | own _ h =>
  obtain ⟨kvs,ds,h1,h2,h3⟩:=h.tabT e
  exact ⟨_,kvs,ds,rfl,.inl h1,h2,h3⟩
theorem Rep.keyV {k:Key} (h:Rep K H (keyD k) v):v=kV k:=by
 cases k with
 | inl i=>cases h;rfl
 | inr x=>cases h;rfl
theorem RepB.keyV {k:Key} (h:RepB K O H (keyD k) v):v=kV k:=by
 cases k with
 | inl i=>exact RepB.int h
 | inr x=>exact RepB.str h
theorem Reps.keysV:∀ {ks:List Key} {vs:List V},Reps K H (ks.map keyD) vs→vs=ks.map kV
 | [],_,h=>by cases h;rfl
 | k :: ks,_,h=>by
  cases h with
  | cons h r=>rw [h.keyV,Reps.keysV r];rfl
theorem RepB.tupH {ds:List D} (h:RepB K O H (.tuple ds) v):∃ a xs,v=.ref a∧H a=some (.tup xs)∧Reps K (hide O H) ds xs:=by
 cases h with
 | val h =>
  cases h with
  | tup h r=>exact ⟨_,_,rfl,(qt h).2,r⟩
 | own _ h=>cases h
theorem RepB.keysV {ks:List Key} (h:RepB K O H (wC ks) v):∃ b,v=.ref b∧H b=some (.tup (ks.map kV)):=by
 obtain ⟨a,xs,e,h1,h2⟩:=RepB.tupH h
 rw [h2.keysV] at h1
 exact ⟨a,e,h1⟩
end
section
variable {X:Cx}
theorem zhd {a b:Expr} {pos:Pos} {ga gb:Env'→Option D} (hu:X.A.units + 1 < cLine) (ha:PB X a ga) (hb:PB X b gb) (hs:NoSl b):PD X (.Subscript a b pos) (g2 zgx ga gb) :=
 PE.imp (zji hu ha hb hs) fun σ H Q hZq=>by
  obtain ⟨F,O,ρ,d,r,e,k⟩:=hZq
  obtain ⟨dx,dy,e1,e2,e3⟩:=zaq e
  refine ⟨F,O,ρ,dx,r,e1,fun x H1 s1 b1=>⟨F,O,ρ,dy,r.same s1,e2,fun y H2 s2 b2 => ?_⟩⟩
  obtain ⟨kds,e4,e⟩:=Option.bind_eq_some_iff.mp e3
  obtain ⟨key,e5,e⟩:=Option.bind_eq_some_iff.mp e
  obtain ⟨a,kvs,ds,rfl,ha,rs,rfl⟩:=(b1.same s2).tabT e4
  cases kQ e5
  obtain ⟨b,rfl,hb⟩:=b2.keysV
  obtain ⟨v,hv,rv⟩:=(zcL zbc key rs).1 d e
  exact ⟨a,v,rfl,.inr ⟨kvs,key,b,ha,rfl,hb,hv.symm⟩,k v H2 (s1.trans s2) rv⟩
theorem zfj {i:Nat} {ρ:Env'} {d:D} (h:ownD i ρ=some d):ρ[i]?=some (some (.own d)):=by
 unfold ownD at h
 split at h
 ·cases h;assumption
 ·cases h
theorem zbz {i:Nat} {x:Str} {e ix:Expr} {p spos pos:Pos} {gk ge:Env'→Option D} (hu:X.A.units + 1 < cLine) (hv:PE X (.Name x p) (tVar i)) (hk:PD X ix gk) (he:PD X e ge)
  (hs:autoParam (swapsWith e (some (.Subscript (.Name x p) ix spos)) pos.line X.env=pure false) aTc):PSd X (.Assign [.Subscript (.Name x p) ix spos] e pos) (zbG i gk ge) :=
 PS.imp (zjr hu hv hk he hs) fun D σ H hZq=>by
  obtain ⟨F,O,ρ,out,r,e,k⟩:=hZq
  obtain ⟨d,e1,e⟩:=Option.bind_eq_some_iff.mp e
  obtain ⟨key,e2,e⟩:=Option.bind_eq_some_iff.mp e
  obtain ⟨dd,e3,e⟩:=Option.bind_eq_some_iff.mp e
  obtain ⟨kds,e4,e⟩:=Option.bind_eq_some_iff.mp e
  obtain ⟨kk,e5,e⟩:=Option.bind_eq_some_iff.mp e
  split at e
  ·rename_i hl
   cases e
   have ho:=zfj e3
   refine ⟨F,O,ρ,d,r,e1,fun v H1 s1 b1 => ?_⟩
   have r1:=r.same s1
   obtain ⟨q,g1,g2,g3,g4⟩:=r1.own i _ ho
   refine ⟨_,g1,F,O,ρ,key,r1,e2,fun y H2 s2 b2 => ?_⟩
   obtain ⟨kvs,ds,hq,rq,rfl⟩:=(g4.same s2).tabT e4
   cases kQ e5
   obtain ⟨b,rfl,hb⟩:=(RepB.val b2).keysV
   obtain ⟨ds',e',rs'⟩:=zjB zbc kk (b1.same (zR s2)) rq
   refine ⟨q,_,rfl,DPut.t hq hb (by rw [zlb rq] at hl;exact hl),k O σ _ ((r1.same s2).mut ho g1 ?_)⟩
   rw [e']
   exact .dT jh (by rw [je g2];exact rs')
  ·cases e
theorem zfy {tg:Expr} {i:Nat} {dpos pos:Pos} (hg:PG X tg (zbg i)) (hs:autoParam (swapsWithSole [tg] (.Dict [] [] dpos) pos.line X.env=pure false) aTc) (hw:autoParam (swappedStores [tg] (.Dict [] [] dpos) X.env=pure none) aTc)
  (h1:autoParam ((assignEach [tg] X.env).map (·.2)=[assign tg X.env]) aTc):PSd X (.Assign [tg] (.Dict [] [] dpos) pos) (zin i):=PS.imp (zcT zhf hg hs hw h1) fun D σ H hZq=>by
 obtain ⟨F,O,ρ,out,r,e,k⟩:=hZq
 cases e
 intro p hp
 exact k (p :: O) _ _ (r.newOwn hp (.dT (kvs:=[]) (ds:=[]) jh .nil))
theorem RepB.scr {K:Frag} {O:List Addr} {H:Hp} {d:D} {v:V} {ds:List D} (h:RepB K O H d v) (e:scrQ d=some ds):∃ a xs,v=.ref a∧SqL K H a xs∧Reps K (hide O H) ds xs:=by
 cases h with
 | val h =>
  cases h with
  | @dK a kvs es h r =>
   cases kvs with
   | nil=>cases e
   | cons p r =>
    obtain ⟨k,w⟩:=p
    cases es with
    | nil=>cases e
    | cons d es=>cases k <;> cases e
  | dT h r=>cases e
  | @scr a xs es h r =>
   have e':=(zfJ es).symm.trans e
   cases e'
   exact ⟨_,_,rfl,SqL.same jd h,r⟩
  | _=>cases e
 | own _ h =>
  cases h with
  | lst h r=>cases e
  | @dK p kvs es h r =>
   cases kvs with
   | nil=>cases e
   | cons p r =>
    obtain ⟨k,w⟩:=p
    cases es with
    | nil=>cases e
    | cons d es=>cases k <;> cases e
  | dT h r=>cases e
theorem zkC {a b:Expr} {pos:Pos} {ga gb:Env'→Option D} (ha:PB X a ga) (hb:PB X b gb) (hs:zbS b):PD X (.Subscript a b pos) (g2 ixS ga gb) :=
 PE.imp (zkF zeR ha hb hs) fun σ H Q hZq=>by
  obtain ⟨F,O,ρ,d,r,e,k⟩:=hZq
  obtain ⟨dx,dy,e1,e2,e3⟩:=zaq e
  obtain ⟨ds,e4,e5⟩:=Option.bind_eq_some_iff.mp e3
  refine ⟨F,O,ρ,dx,r,e1,fun x H1 s1 b1=>⟨F,O,ρ,dy,r.same s1,e2,fun y H2 s2 b2 => ?_⟩⟩
  split at e5
  ·rename_i i
   obtain ⟨p,xs,rfl,sq,rs⟩:=(b1.same s2).scr e4
   cases b2.int
   obtain ⟨v,h1,h2⟩:=atI_get rs e5
   exact ⟨p,xs,i,v,rfl,rfl,sq,h1,k v H2 (s1.trans s2) h2⟩
  ·cases e5
theorem zdh:wX X (.builtin "len") lenS:=by
 intro pins s σ H O xs us ds d Q I hO rv bs e k
 unfold lenS at e
 split at e
 ·obtain ⟨es,e1,rfl⟩:=Option.map_eq_some_iff.mp e
  obtain ⟨v,rfl,b⟩:=bs.inv1
  obtain ⟨a,ys,rfl,sq,rs⟩:=b.scr e1
  exact xD pins s σ H _ us Q I rv ⟨a,ys,rfl,.inl sq,by rw [← rs.length];exact k _ H (Same.refl _) (.int _)⟩
 ·cases e
end
end L2.Y
namespace L2.Y
open PySem PySem.Spec PyProof.Rows PySem.W
noncomputable def jV {α:Type} (lt:Nat→Nat→Bool):KasT α→α
 | .ret a=>a
 | .ask i j k=>jV lt (k (lt i j))
theorem qg {α β:Type} {lt:Nat→Nat→Bool} {f:α→KasT β}:∀ t:KasT α,jV lt (t.bind f)=jV lt (f (jV lt t))
 | .ret _=>rfl
 | .ask i j k=>qg (k (lt i j))
section
variable {O:KeyOrd} (key:Nat→O.α)
noncomputable def kLt (i j:Nat):Bool:=O.blt (key i) (key j)
noncomputable def kk (p:Array Nat) (i:Nat):O.α:=key (p.getD i 0)
noncomputable def SoT (p:Array Nat) (n:Nat):Prop:=∀ i j,i ≤ j→j < n→O.kle (kk key p i) (kk key p j)
noncomputable def NiT (p:Array Nat) (n:Nat):Prop:=∀ i j,i ≤ j→j < n→O.kle (kk key p j) (kk key p i)
variable {key}
theorem zeY {p q:Array Nat} {i j:Nat} (h:p[i]?=q[j]?):kk key p i=kk key q j:=by
 unfold kk
 rw [Array.getD_eq_getD_getElem?,Array.getD_eq_getD_getElem?,h]
theorem zbl {p:Array Nat} {src d:Nat} (hs:src < p.size) (hd:d ≤ src) (k:Nat) :
  kk key (bubble p src d) k=if k=src - d then kk key p src else if src - d < k∧k ≤ src then kk key p (k - 1) else kk key p k:=by
 have e:=getElem?_bubble hs d hd k
 by_cases h1:k=src - d
 ·rw [if_pos h1] at e ⊢;exact zeY e
 ·rw [if_neg h1] at e ⊢
  by_cases h2:src - d < k∧k ≤ src
  ·rw [if_pos h2] at e ⊢;exact zeY e
  ·rw [if_neg h2] at e ⊢;exact zeY e
theorem zeZ {p:Array Nat} {i j:Nat} (hj:j ≤ p.size) (k:Nat):kk key (kas_rev p i j) k=if i ≤ k∧k < j then kk key p (i + j - 1 - k) else kk key p k:=by
 have e:=getElem?_mirror_all (i:=i) hj k
 by_cases h1:i ≤ k∧k < j
 ·rw [if_pos h1] at e ⊢;exact zeY e
 ·rw [if_neg h1] at e ⊢;exact zeY e
theorem xL {p:Array Nat} {i j:Nat} (hj:j ≤ p.size) (heq:∀ k,i ≤ k→k < j→kk key p k=kk key p (j - 1)) (k:Nat):kk key (kas_rev p i j) k=kk key p k:=by
 rw [zeZ hj]
 split
 ·rw [heq _ (by omega) (by omega),heq k (by omega) (by omega)]
 ·rfl
theorem qD (p:Array Nat) (i j:Nat):(kas_rev p i j).Perm p:=mirror_perm _ _ _ _
theorem yW (p:Array Nat) (i j:Nat):(kas_rev p i j).size=p.size:=mirror_size _ _ _ _
theorem zfT {p:Array Nat}:∀ (f n:Nat),1 ≤ n→n + f ≤ p.size→SoT key p n→∃ m,jV (kLt key) (kas_asc p f n)=m∧n ≤ m∧m ≤ n + f∧SoT key p m∧(m=n + f ∨ O.klt (kk key p m) (kk key p (m - 1)))
 | 0,n,h1,hz,hs=>⟨n,rfl,Nat.le_refl _,Nat.le_refl _,hs,.inl rfl⟩
 | f + 1,n,h1,hz,hs=>by
  show ∃ m,jV (kLt key) (if kLt key (p.getD n 0) (p.getD (n - 1) 0)=true then .ret n else kas_asc p f (n + 1))=m∧_
  cases hless:kLt key (p.getD n 0) (p.getD (n - 1) 0) with
  | true =>
   rw [if_pos rfl]
   exact ⟨n,rfl,Nat.le_refl _,by omega,hs,.inr hless⟩
  | false =>
   rw [if_neg (by simp)]
   obtain ⟨m,e,a1,a2,a3,a4⟩:=zfT (p:=p) f (n + 1) (by omega) (by omega) (fun i j hij hj=>by
    by_cases hjx:j < n
    ·exact hs i j hij hjx
    ·have hj' : j=n:=by omega
     subst hj'
     by_cases hi' : i=j
     ·subst hi';exact KeyOrd.kle_refl _
     ·exact KeyOrd.kle_trans (hs i (j - 1) (by omega) (by omega)) hless)
   exact ⟨m,e,by omega,by omega,a3,a4.imp (fun z=>by omega) id⟩
theorem zc6 {p:Array Nat} {n nrem:Nat} (h1:1 ≤ n) (hn:n ≤ nrem) (hz:nrem ≤ p.size) (hs:NiT key p n):∃ m q,jV (kLt key) (kas_tail3 n nrem p)=(m,q)∧1 ≤ m∧m ≤ nrem∧q.Perm p∧SoT key q m:=by
 unfold kas_tail3
 rw [qg]
 have hsz:n ≤ p.size:=by omega
 obtain ⟨m,e,a1,a2,a3,_⟩:=zfT (key:=key) (p:=kas_rev p 0 n) (nrem - n) n h1 (by rw [yW];omega) (fun i j hij hj=>by
  rw [zeZ hsz,zeZ hsz,if_pos (by omega),if_pos (by omega)]
  exact hs _ _ (by omega) (by omega))
 rw [e]
 exact ⟨m,_,rfl,by omega,by omega,qD _ _ _,a3⟩
theorem zaP:∀ (f:Nat) (p:Array Nat) (n q:Nat),1 ≤ n→n + f ≤ p.size→NiT key p n→q + 1 ≤ n→(∀ i,n - (q + 1) ≤ i→i < n→kk key p i=kk key p (n - 1)) →
  ∃ p' m q',jV (kLt key) (kas_desc f p n q)=(p',m,q')∧p'.Perm p∧n ≤ m∧m ≤ n + f∧NiT key p' m∧q' + 1 ≤ m∧(∀ i,m - (q' + 1) ≤ i→i < m→kk key p' i=kk key p' (m - 1))
 | 0,p,n,q,h1,hz,hs,hq,he=>⟨p,n,q,rfl,.refl _,Nat.le_refl _,Nat.le_refl _,hs,hq,he⟩
 | f + 1,p,n,q,h1,hz,hs,hq,he=>by
  show ∃ p' m q',jV (kLt key) (if kLt key (p.getD n 0) (p.getD (n - 1) 0)=true then (if q > 0 then kas_desc f (kas_rev p (n - (q + 1)) n) (n + 1) 0 else kas_desc f p (n + 1) 0)
   else .ask (p.getD (n - 1) 0) (p.getD n 0) fun d=>if d=true then .ret (p,n,q) else kas_desc f p (n + 1) (q + 1))=(p',m,q')∧_
  have hsz:n ≤ p.size:=by omega
  cases hless:kLt key (p.getD n 0) (p.getD (n - 1) 0) with
  | true =>
   rw [if_pos rfl]
   have step1:∀ xs:Array Nat,(∀ k,kk key xs k=kk key p k)→NiT key xs (n + 1):=by
    intro xs hk i j hij hj
    rw [hk,hk]
    by_cases hjx:j < n
    ·exact hs i j hij hjx
    ·have hj' : j=n:=by omega
     subst hj'
     by_cases hi' : i=j
     ·subst hi';exact KeyOrd.kle_refl _
     ·exact KeyOrd.kle_trans (KeyOrd.kle_of_klt hless) (hs i (j - 1) (by omega) (by omega))
   by_cases hneq:q > 0
   ·rw [if_pos hneq]
    obtain ⟨p',m,q',e,b1,b2,b3,b4,b5,b6⟩:=zaP f (kas_rev p (n - (q + 1)) n) (n + 1) 0 (by omega) (by rw [yW];omega) (step1 _ (xL hsz he)) (by omega) (fun i h1 h2=>by congr 1;omega)
    exact ⟨p',m,q',e,b1.trans (qD _ _ _),by omega,by omega,b4,b5,b6⟩
   ·rw [if_neg hneq]
    obtain ⟨p',m,q',e,b1,b2,b3,b4,b5,b6⟩:=zaP f p (n + 1) 0 (by omega) (by omega) (step1 _ (fun _=>rfl)) (by omega) (fun i h1 h2=>by congr 1;omega)
    exact ⟨p',m,q',e,b1,by omega,by omega,b4,b5,b6⟩
  | false =>
   rw [if_neg (by simp)]
   show ∃ p' m q',jV (kLt key) (if kLt key (p.getD (n - 1) 0) (p.getD n 0)=true then .ret (p,n,q) else kas_desc f p (n + 1) (q + 1))=(p',m,q')∧_
   cases hlarger:kLt key (p.getD (n - 1) 0) (p.getD n 0) with
   | true =>
    rw [if_pos rfl]
    exact ⟨p,n,q,rfl,.refl _,Nat.le_refl _,by omega,hs,hq,he⟩
   | false =>
    rw [if_neg (by simp)]
    have heqx:kk key p n=kk key p (n - 1):=KeyOrd.kle_antisymm hlarger hless
    obtain ⟨p',m,q',e,b1,b2,b3,b4,b5,b6⟩:=zaP f p (n + 1) (q + 1) (by omega) (by omega) (fun i j hij hj=>by
      by_cases hjx:j < n
      ·exact hs i j hij hjx
      ·have hj' : j=n:=by omega
       subst hj'
       by_cases hi' : i=j
       ·subst hi';exact KeyOrd.kle_refl _
       ·rw [heqx];exact hs i (j - 1) (by omega) (by omega)) (by omega) (fun i h1 h2=>by
     rw [show n + 1 - 1=n by omega]
     by_cases hix:i=n
     ·subst hix;rfl
     ·rw [heqx];exact he i (by omega) (by omega))
    exact ⟨p',m,q',e,b1,by omega,by omega,b4,b5,b6⟩
theorem ko {p:Array Nat} {n nrem:Nat} (hn:n + 1 ≤ nrem) (hz:nrem ≤ p.size) (hs:NiT key p (n + 1)):∃ m q,jV (kLt key) (kas_descPart n nrem p)=(m,q)∧1 ≤ m∧m ≤ nrem∧q.Perm p∧SoT key q m:=by
 unfold kas_descPart
 rw [qg]
 obtain ⟨p',m,q',e,b1,b2,b3,b4,b5,b6⟩:=zaP (nrem - (n + 1)) p (n + 1) 0 (by omega) (by omega) hs (by omega) (fun i h1 h2=>by congr 1;omega)
 rw [e]
 have hpz:p'.size=p.size:=b1.size_eq
 have hsz:m ≤ p'.size:=by omega
 show ∃ m' q,jV (kLt key) (if q' > 0 then kas_tail3 m nrem (kas_rev p' (m - (q' + 1)) m) else kas_tail3 m nrem p')=(m',q)∧_
 by_cases hq:q' > 0
 ·rw [if_pos hq]
  obtain ⟨m',q2,e2,c1,c2,c3,c4⟩:=zc6 (key:=key) (p:=kas_rev p' (m - (q' + 1)) m) (n:=m) (nrem:=nrem) (by omega) (by omega) (by rw [yW];omega) (fun i j hij hj=>by
   rw [xL hsz b6,xL hsz b6]
   exact b4 i j hij hj)
  exact ⟨m',q2,e2,c1,c2,c3.trans ((qD _ _ _).trans b1),c4⟩
 ·rw [if_neg hq]
  obtain ⟨m',q2,e2,c1,c2,c3,c4⟩:=zc6 (key:=key) (p:=p') (n:=m) (nrem:=nrem) (by omega) (by omega) (by omega) b4
  exact ⟨m',q2,e2,c1,c2,c3.trans b1,c4⟩
theorem zhK {p:Array Nat} {nrem:Nat} (h1:1 ≤ nrem) (hz:nrem ≤ p.size):∃ m q,jV (kLt key) (kas_count nrem p)=(m,q)∧1 ≤ m∧m ≤ nrem∧q.Perm p∧SoT key q m:=by
 unfold kas_count
 rw [qg]
 obtain ⟨n,e,a1,a2,a3,a4⟩:=zfT (key:=key) (p:=p) (nrem - 1) 1 (Nat.le_refl _) (by omega) (fun i j hij hj=>by have:i=j:=(by omega);subst this;exact KeyOrd.kle_refl _)
 rw [e]
 by_cases hnn:n=nrem
 ·rw [if_pos (by simpa using hnn)]
  exact ⟨n,p,rfl,a1,by omega,.refl _,a3⟩
 ·rw [if_neg (by simpa using hnn)]
  have hlt:O.klt (kk key p n) (kk key p (n - 1)):=a4.resolve_left (by omega)
  by_cases hgt:n > 1
  ·rw [if_pos hgt]
   show ∃ m q,jV (kLt key) (if kLt key (p.getD 0 0) (p.getD (n - 1) 0)=true then .ret (n,p) else kas_descPart n nrem (kas_rev p 0 n))=(m,q)∧_
   cases hrose:kLt key (p.getD 0 0) (p.getD (n - 1) 0) with
   | true =>
    rw [if_pos rfl]
    exact ⟨n,p,rfl,a1,by omega,.refl _,a3⟩
   | false =>
    rw [if_neg (by simp)]
    have hsz:n ≤ p.size:=by omega
    have hall:∀ k,0 ≤ k→k < n→kk key p k=kk key p (n - 1):=by
     intro k _ hk
     have a1:=a3 0 k (by omega) hk
     have a2:=a3 k (n - 1) (by omega) (by omega)
     exact KeyOrd.kle_antisymm a2 (KeyOrd.kle_trans hrose a1)
    obtain ⟨m',q2,e2,c1,c2,c3,c4⟩:=ko (key:=key) (p:=kas_rev p 0 n) (n:=n) (nrem:=nrem) (by omega) (by rw [yW];omega) (fun i j hij hj=>by
     rw [xL hsz hall,xL hsz hall]
     by_cases hjn:j < n
     ·rw [hall i (by omega) (by omega),hall j (by omega) hjn];exact KeyOrd.kle_refl _
     ·have hj' : j=n:=by omega
      subst hj'
      by_cases hi' : i=j
      ·subst hi';exact KeyOrd.kle_refl _
      ·rw [hall i (by omega) (by omega)];exact KeyOrd.kle_of_klt hlt)
    exact ⟨m',q2,e2,c1,c2,c3.trans (qD _ _ _),c4⟩
  ·rw [if_neg hgt]
   have hn1' : n=1:=by omega
   subst hn1'
   refine ko (by omega) (by omega) ?_
   intro i j hij hj
   by_cases hi' : i=j
   ·subst hi';exact KeyOrd.kle_refl _
   ·have hi0:i=0:=by omega
    have hj1:j=1:=by omega
    subst hi0;subst hj1
    exact KeyOrd.kle_of_klt hlt
theorem zaQ {p:Array Nat} {k:Nat} (hk:k < p.size) (hs:SoT key p k):∀ (f l r:Nat),l ≤ r→r ≤ k→r - l ≤ f→(∀ i,i < l→O.kle (kk key p i) (kk key p k))→(∀ i,r ≤ i→i < k→O.klt (kk key p k) (kk key p i)) →
  ∃ m,jV (kLt key) (kas_place p k f l r)=m∧m ≤ k∧(∀ i,i < m→O.kle (kk key p i) (kk key p k))∧(∀ i,m ≤ i→i < k→O.klt (kk key p k) (kk key p i))
 | 0,l,r,hlr,hrk,hf,hlo,hhi=>⟨l,rfl,by omega,hlo,fun i h1 h2=>hhi i (by omega) h2⟩
 | f + 1,l,r,hlr,hrk,hf,hlo,hhi=>by
  unfold kas_place
  by_cases hge:l ≥ r
  ·rw [if_pos hge]
   exact ⟨l,rfl,by omega,hlo,fun i h1 h2=>hhi i (by omega) h2⟩
  ·rw [if_neg hge]
   show ∃ m,jV (kLt key) (if kLt key (p.getD k 0) (p.getD ((l + r) / 2) 0)=true then kas_place p k f l ((l + r) / 2) else kas_place p k f ((l + r) / 2 + 1) r)=m∧_
   cases hless:kLt key (p.getD k 0) (p.getD ((l + r) / 2) 0) with
   | true =>
    rw [if_pos rfl]
    exact zaQ hk hs f l ((l + r) / 2) (by omega) (by omega) (by omega) hlo fun i h1 h2=>KeyOrd.klt_of_klt_of_kle hless (hs _ _ h1 h2)
   | false =>
    rw [if_neg (by simp)]
    exact zaQ hk hs f ((l + r) / 2 + 1) r (by omega) (by omega) (by omega) (fun i h1=>KeyOrd.kle_trans (hs i ((l + r) / 2) (by omega) (by omega)) (show O.kle _ _ from hless)) hhi
theorem ziq:∀ (f:Nat) (p:Array Nat) (k:Nat),k + f ≤ p.size→SoT key p k→∃ q,jV (kLt key) (kas_bin f p k)=q∧q.Perm p∧SoT key q (k + f)
 | 0,p,k,_,hs=>⟨p,rfl,.refl _,hs⟩
 | f + 1,p,k,hz,hs=>by
  unfold kas_bin
  rw [qg]
  have hk:k < p.size:=by omega
  obtain ⟨m,e,a1,a2,a3⟩:=zaQ hk hs k 0 k (by omega) (by omega) (by omega) (fun i hi=>by omega) (fun i h1 h2=>by omega)
  rw [e]
  obtain ⟨q,e2,b1,b2⟩:=ziq f (bubble p k (k - m)) (k + 1) (by rw [bubble_size];omega) (fun i j hij hj=>by
   rw [zbl hk (by omega),zbl hk (by omega),show k - (k - m)=m by omega]
   repeat' split
   all_goals first
    | (exfalso;omega)
    | exact KeyOrd.kle_refl _
    | exact a2 _ (by omega)
    | exact KeyOrd.kle_of_klt (a3 _ (by omega) (by omega))
    | exact hs _ _ (by omega) (by omega))
  exact ⟨q,e2,b1.trans (bubble_perm _ _ _),by rw [show k + (f + 1)=k + 1 + f by omega];exact b2⟩
theorem zjL {n:Nat} (h1:1 ≤ n):∃ q,jV (kLt key) (kas_sort n)=q∧q.toList.Perm (List.range n)∧SoT key q n:=by
 unfold kas_sort
 rw [qg]
 obtain ⟨m,q,e,a1,a2,a3,a4⟩:=zhK (key:=key) (p:=List.toArray (List.range n)) (nrem:=n) h1 (by simp)
 rw [e]
 have hq:q.size=n:=by rw [a3.size_eq];simp
 have pl:∀ {x:Array Nat},x.Perm (List.toArray (List.range n))→x.toList.Perm (List.range n):=fun h=>Array.perm_iff_toList_perm.mp h
 by_cases hm:m < n
 ·rw [if_pos hm]
  obtain ⟨q2,e2,b1,b2⟩:=ziq (n - max m 1) q (max m 1) (by omega) (by rw [show max m 1=m by omega];exact a4)
  exact ⟨q2,e2,pl (b1.trans a3),by rw [show max m 1 + (n - max m 1)=n by omega] at b2;exact b2⟩
 ·rw [if_neg hm]
  have:m=n:=by omega
  subst this
  exact ⟨q,rfl,pl a3,a4⟩
end
noncomputable def KIn {α:Type} (n:Nat) (P:α→Prop):KasT α→Prop
 | .ret a=>P a
 | .ask i j k=>i < n∧j < n∧∀ b,KIn n P (k b)
theorem KIn.bind {α β:Type} {n:Nat} {P:α→Prop} {R:β→Prop} {f:α→KasT β} (hf:∀ a,P a→KIn n R (f a)):∀ {t:KasT α},KIn n P t→KIn n R (t.bind f)
 | .ret a,h=>hf a h
 | .ask _ _ _,h=>⟨h.1,h.2.1,fun b=>KIn.bind hf (h.2.2 b)⟩
noncomputable def Lo (n:Nat) (p:Array Nat):Prop:=∀ k,p.getD k 0 < n
theorem zkk {n:Nat} {p:Array Nat} (h0:0 < n) (h:∀ x ∈ p.toList,x < n):Lo n p:=fun k=>by
 rw [Array.getD_eq_getD_getElem?]
 by_cases hk:k < p.size
 ·rw [Array.getElem?_eq_getElem hk];exact h _ (by simp)
 ·rw [Array.getElem?_eq_none (by omega)];exact h0
theorem Lo.perm {n:Nat} {p q:Array Nat} (h0:0 < n) (h:Lo n p) (hp:q.Perm p):Lo n q:=zkk h0 fun x hx=>by
 have hx' : x ∈ p.toList:=(Array.perm_iff_toList_perm.mp hp).mem_iff.mp hx
 obtain ⟨i,hi,e⟩:=List.getElem_of_mem hx'
 have:=h i
 rw [Array.getD_eq_getD_getElem?,Array.getElem?_eq_getElem (by simpa using hi)] at this
 rw [← e];simpa using this
theorem zeM {n:Nat} {p:Array Nat} (h:Lo n p):∀ f k,KIn n (fun _=>True) (kas_asc p f k)
 | 0,_=>trivial
 | f + 1,k=>⟨h _,h _,fun b=>by
  cases b with
  | true=>simp only [if_true];exact trivial
  | false=>simp only [Bool.false_eq_true,if_false];exact zeM h f (k + 1)⟩
theorem zau {n:Nat} (h0:0 < n):∀ (f:Nat) (p:Array Nat) (k q:Nat),Lo n p→KIn n (fun r:Array Nat × Nat × Nat=>Lo n r.1) (kas_desc f p k q)
 | 0,_,_,_,h=>h
 | f + 1,p,k,q,h=>⟨h _,h _,fun b=>by
  cases b with
  | true =>
   simp only [if_true]
   split
   ·exact zau h0 f _ _ _ (h.perm h0 (qD _ _ _))
   ·exact zau h0 f _ _ _ h
  | false =>
   simp only [Bool.false_eq_true,if_false]
   refine ⟨h _,h _,fun d => ?_⟩
   cases d with
   | true=>simp only [if_true];exact h
   | false=>simp only [Bool.false_eq_true,if_false];exact zau h0 f _ _ _ h⟩
theorem zcD {n k r:Nat} {p:Array Nat} (h0:0 < n) (h:Lo n p):KIn n (fun r:Nat × Array Nat=>Lo n r.2) (kas_tail3 k r p):=by
 unfold kas_tail3
 refine KIn.bind (P:=fun _=>True) (fun a _ => ?_) (zeM (h.perm h0 (qD _ _ _)) _ _)
 exact h.perm h0 (qD p 0 k)
theorem vJ {n k r:Nat} {p:Array Nat} (h0:0 < n) (h:Lo n p):KIn n (fun r:Nat × Array Nat=>Lo n r.2) (kas_descPart k r p) :=
 (zau h0 _ p _ _ h).bind fun a ha=>by
  split
  ·exact zcD h0 (ha.perm h0 (qD _ _ _))
  ·exact zcD h0 ha
theorem zgO {n r:Nat} {p:Array Nat} (h0:0 < n) (h:Lo n p):KIn n (fun r:Nat × Array Nat=>Lo n r.2) (kas_count r p) :=
 (zeM h _ _).bind fun a _=>by
  split
  ·exact h
  ·split
   ·refine ⟨h _,h _,fun b => ?_⟩
    cases b with
    | true=>simp only [if_true];exact h
    | false=>simp only [Bool.false_eq_true,if_false];exact vJ h0 (h.perm h0 (qD _ _ _))
   ·exact vJ h0 h
theorem zav {n:Nat} {p:Array Nat} {k:Nat} (h:Lo n p):∀ f l r,KIn n (fun _=>True) (kas_place p k f l r)
 | 0,_,_=>trivial
 | f + 1,l,r=>by
  unfold kas_place
  split
  ·exact trivial
  ·refine ⟨h _,h _,fun b => ?_⟩
   cases b with
   | true=>simp only [if_true];exact zav h f _ _
   | false=>simp only [Bool.false_eq_true,if_false];exact zav h f _ _
theorem zib {n:Nat} (h0:0 < n):∀ (f:Nat) (p:Array Nat) (k:Nat),Lo n p→KIn n (fun _=>True) (kas_bin f p k)
 | 0,_,_,_=>trivial
 | f + 1,p,k,h=>(zav h _ _ _).bind fun a _=>zib h0 f _ _ (h.perm h0 (bubble_perm _ _ _))
theorem ziM {n:Nat} (h0:0 < n):KIn n (fun _=>True) (kas_sort n) :=
 (zgO h0 (zkk h0 fun x hx=>List.mem_range.mp (by simpa using hx))).bind fun a ha=>by
  split
  ·exact zib h0 _ _ _ ha
  ·exact trivial
theorem zcI {α:Type} {n:Nat} {cmp:Nat→Nat→(Bool→Shared→Prop)→Shared→Prop} {lt:Nat→Nat→Bool} {s:Shared} {P:α→Prop} (h:∀ i j (C:Bool→Shared→Prop),i < n→j < n→C (lt i j) s→cmp i j C s) :
  ∀ (t:KasT α) (Q:α→Shared→Prop),KIn n P t→Q (jV lt t) s→t.kasWp cmp Q s
 | .ret _,_,_,q=>q
 | .ask i j k,Q,hi,q=>h i j _ hi.1 hi.2.1 (zcI h (k (lt i j)) Q (hi.2.2 _) q)
theorem range_getD {α:Type} (l:List α) (d:α):(List.range l.length).map (fun i=>l.getD i d)=l:=by
 apply List.ext_getElem
 ·simp
 ·intro i h1 h2;simp [h2]
section
variable {prog:Program} {w:World} {A:Around} {E:Value→Shared→Prop} {s:Shared}
theorem zg4 {b fin:Bool} {Q:Bool→Shared→Prop}:∀ {us vs:List Value} {is js:List Int} (i:Nat),IntsAre us is→IntsAre vs js→fin=decide (us.length < vs.length)→Q (HT.lexLt is js) s→KatLex prog w A b fin Q (us.zip vs) i s:=by
 intro us vs is js i hu
 induction hu generalizing vs js i with
 | nil =>
  intro hv hf h
  cases hv with
  | nil=>subst hf;exact kat_nil h
  | cons c u hv=>subst hf;exact kat_nil h
 | cons a t hu ih =>
  intro hv hf h
  cases hv with
  | nil=>subst hf;exact kat_nil h
  | cons c u hv =>
   rw [HT.lexLt_cons] at h
   rw [List.zip_cons_cons]
   refine kat_cons (wpAny_eqBool_int (kat_go (fun e=>kat_yes ?_) fun e=>kat_no ?_))
   ·rw [if_pos (eq_of_beq e)] at h
    exact ih (i + 1) hv (by rw [hf];simp) h
   ·have ne:¬ a=c:=fun z=>by subst z;simp at e
    rw [if_neg ne] at h
    cases hb:(b && i == 0) with
    | true=>exact oneLt_int h
    | false=>exact kat_one _ _ (lt_int h)
noncomputable def TupI (h:Heap) (v:Value) (is:List Int):Prop:=∃ b o xs m,v=.ref b∧h.get? b=some o∧o.cls=.type "tuple" ∧ o.data=.seq xs m∧IntsAre xs.toList is∧is ≠ []
theorem TupI.lt {b:Bool} {u v:Value} {is js:List Int} {Q:Bool→Shared→Prop} (h1:TupI s.heap u is) (h2:TupI s.heap v js) (h:Q (HT.lexLt is js) s):wpAny (model prog w) A (keyLt' (tuples' b) u v) Q E s:=by
 obtain ⟨x,ox,xs,n,rfl,g1,c1,d1,i1,_⟩:=h1
 obtain ⟨y,oy,ys,m,rfl,g2,c2,d2,i2,_⟩:=h2
 exact kat_lt g1 d1 g2 d2 (zg4 0 i1 i2 (by simp) h)
theorem TupI.keeps {h h' : Heap} {v:Value} {is:List Int} {a:Addr} (x:TupI h v is) (k:∀ b o,b ≠ a→h.get? b=some o→h'.get? b=some o) (hv:v ≠ .ref a):TupI h' v is:=by
 obtain ⟨b,o,xs,n,rfl,g,r⟩:=x
 exact ⟨b,o,xs,n,rfl,k b o (fun z=>hv (by rw [z])) g,r⟩
theorem zf5 {h:Heap}:∀ {vs:List Value} {ks:List (List Int)},vs.length=ks.length→(∀ (i:Nat) v k,vs[i]?=some v→ks[i]?=some k→TupI h v k)→∃ fs,KatTups h vs fs∧fs.length=vs.length∧∀ f ∈ fs,∃ z t,f=.int z t
 | [],[],_,_=>⟨[],trivial,rfl,fun _ h=>by simp at h⟩
 | [],_ :: _,hl,_=>by simp at hl
 | _ :: _,[],hl,_=>by simp at hl
 | v :: vs,k :: ks,hl,hk=>by
  obtain ⟨fs,t,l,q⟩:=zf5 (vs:=vs) (ks:=ks) (by simpa using hl) (fun i u c h1 h2=>hk (i + 1) u c (by simpa using h1) (by simpa using h2))
  obtain ⟨b,o,xs,n,rfl,g,c,d,hi,hn⟩:=hk 0 v k rfl rfl
  have hx:∃ z t,xs[0]?=some (.int z t):=by
   rw [← Array.getElem?_toList]
   generalize xs.toList=zs at hi
   cases hi with
   | nil=>exact absurd rfl hn
   | cons z t r=>exact ⟨z,t,rfl⟩
  obtain ⟨z,t',hz⟩:=hx
  exact ⟨.int z t' :: fs,.cons g c d hz t,by simp [l],fun f hf=>by
   rcases List.mem_cons.mp hf with e | e
   ·exact ⟨z,t',e⟩
   ·exact q f e⟩
theorem zg6 {M:Model} {h:Heap} (z:Int) (t:Tok):Looks M h (typeOf (.int z t)) (.type "int"):=fun _ _ _ _ _ q=>wpAny_pure q
noncomputable def xK (ks:List (List Int)) (i:Nat):List Int:=ks.getD i []
theorem zaA {a:Addr} {vs:List Value} {ks:List (List Int)} {n:Nat} {P:PySem.Fin→Shared→Prop} (ho:s.heap.get? a=some (seqObj "list" vs.toArray n)) (hl:vs.length=ks.length) (hk:∀ (i:Nat) v k,vs[i]?=some v→ks[i]?=some k→TupI s.heap v k) (ha:∀ v ∈ vs,v ≠ .ref a) (h64:vs.length < 64)
  (h:∀ p:List Nat,p.Perm (List.range vs.length)→(p.map (xK ks)).Pairwise LeL→P (.done (.ret .none)) { s with heap:=sortedHeap s.heap a vs (p.map fun i=>vs.getD i Value.none).toArray }) :
  wpAny (model prog w) A (Builtin.«list.sort» ⟨[.ref a],[]⟩) P E s:=by
 have lta:a < s.heap.objs.size:=Heap.lt_size ho
 have fit:vs.toArray.size ≤ sizeLine:=by rw [List.size_toArray,sizeLine_eq];omega
 rw [list_sort_plain]
 refine wpAny_bind (listItems_at ho rfl (wpAny_bind (listUpdate_at ho rfl ?_ fit (Nat.zero_le _))))
 obtain ⟨e1,ho1⟩:∃ e1,(s.heap.update a (Obj.mapSeq fun _=>(#[]:Array Value))).get? a=some (seqObj "list" #[] e1):=⟨_,get?_update_seq ho (fun _=>#[])⟩
 refine wpAny_bind (seqEpoch_at ho1 rfl (wpAny_bind (wpAny_newTuple ?_ fit)))
 refine wpAny_bind (wpAny_newList ?_ (Nat.zero_le _))
 refine wpAny_holding ?_
 have keep:∀ b o,b ≠ a→s.heap.get? b=some o→(((s.heap.update a (Obj.mapSeq fun _=>(#[]:Array Value))).push (seqObj "tuple" vs.toArray 0)).push (seqObj "list" #[] 0)).get? b=some o:=fun b o hb e =>
  Heap.get?_push_of_some _ (Heap.get?_push_of_some _ (by rw [Heap.get?_update_ne _ _ _ _ hb];exact e))
 have ho6:(((s.heap.update a (Obj.mapSeq fun _=>(#[]:Array Value))).push (seqObj "tuple" vs.toArray 0)).push (seqObj "list" #[] 0)).get? a=some (seqObj "list" #[] e1):=Heap.get?_push_of_some _ (Heap.get?_push_of_some _ ho1)
 show wpAny (model prog w) A _ P E { s with heap:=((s.heap.update a (Obj.mapSeq fun _=>(#[]:Array Value))).push (seqObj "tuple" vs.toArray 0)).push (seqObj "list" #[] 0) }
 generalize hg:({ s with heap:=((s.heap.update a (Obj.mapSeq fun _=>(#[]:Array Value))).push (seqObj "tuple" vs.toArray 0)).push (seqObj "list" #[] 0) }:Shared)=s6
 have eh:s6.heap=((s.heap.update a (Obj.mapSeq fun _=>(#[]:Array Value))).push (seqObj "tuple" vs.toArray 0)).push (seqObj "list" #[] 0):=by rw [← hg]
 have fin:∀ out:Array Value,({ s6 with heap:=s6.heap.update a (Obj.mapSeq fun _=>out) }:Shared)={ s with heap:=sortedHeap s.heap a vs out }:=fun out=>by rw [← hg];rfl
 rw [← eh] at ho6 keep
 dsimp only
 by_cases h2:vs.toArray.size < 2
 ·rw [if_pos h2,if_pos h2]
  refine wpAny_bind (wpAny_pure ?_)
  rw [StateT.run_pure]
  refine wpAny_bind (wpAny_pure ?_)
  dsimp only
  have e0:(arrOf (SortSt.mk' general' (vs.toArray.zip vs.toArray) #[] 7 none)).map (·.2)=((List.range vs.length).map fun i=>vs.getD i Value.none).toArray:=by
   rw [range_getD]
   show (vs.toArray.zip vs.toArray).map (·.2)=vs.toArray
   apply Array.toList_inj.mp
   rw [Array.toList_map,Array.toList_zip]
   exact List.map_snd_zip (Nat.le_refl _)
  rw [e0]
  refine wpAny_bind (seqEpoch_at ho6 rfl (wpAny_bind (listUpdate_at ho6 rfl ?_ (Nat.zero_le _) (by simp;rw [sizeLine_eq];omega))))
  simp only [bne_self_eq_false,Bool.false_eq_true,if_false]
  rw [fin]
  refine wpAny_pure (h (List.range vs.length) (.refl _) ?_)
  rw [List.size_toArray] at h2
  match vs.length,h2 with
  | 0,_=>exact .nil
  | 1,_=>exact List.pairwise_singleton _ _
 ·rw [if_neg h2,if_neg h2]
  have h2' : 2 ≤ vs.length:=by rw [List.size_toArray] at h2;omega
  have hk6:∀ (i:Nat) v k,vs[i]?=some v→ks[i]?=some k→TupI s6.heap v k:=fun i v k g1 g2=>(hk i v k g1 g2).keeps keep (ha v (List.mem_of_getElem? g1))
  obtain ⟨fs,tf,lf,qf⟩:=zf5 hl hk6
  refine wpAny_bind (kat_kind tf (by omega) (T:=.type "int") (fun v hv=>by obtain ⟨z,t,rfl⟩:=qf v hv;exact zg6 z t) rfl ?_)
  obtain ⟨q,eq,pq,sq⟩:=zjL (O:=zbm) (key:=xK ks) (n:=vs.length) (by omega)
  have runs:=kat_run (prog:=prog) (w:=w) (A:=A) (E:=E) (s:=s6) (κ:=tuples' ((Value.type "int") != Value.type "tuple")) (ks:=vs) (vs:=vs)
   (Q:=fun st' s'=>s'=s6∧failedOf st'=none∧arrOf st'=q.map (kas_item (vs.toArray.zip vs.toArray))) (G:=fun p s'=>s'=s6∧p=q) rfl h2' h64 (fun p st' s' a1 a2 a3 a4=>by obtain ⟨rfl,rfl⟩:=a4;exact ⟨rfl,a3,a2⟩)
   (zcI (n:=vs.length) (lt:=kLt (O:=zbm) (xK ks)) (fun i j C hi hj hc=>by
    have gi:vs[i]?=some (vs.getD i Value.none):=by simp [hi]
    have gj:vs[j]?=some (vs.getD j Value.none):=by simp [hj]
    have ki:ks[i]?=some (xK ks i):=by unfold xK;simp [hl ▸ hi]
    have kj:ks[j]?=some (xK ks j):=by unfold xK;simp [hl ▸ hj]
    exact TupI.lt (hk6 i _ _ gi ki) (hk6 j _ _ gj kj) hc) _ _ (ziM (by omega)) ⟨rfl,eq⟩)
  refine wpAny_bind (wpAny_mono runs ?_ fun _ _ e=>e)
  rintro ⟨⟨⟩,st'⟩ s' ⟨rfl,hf,har⟩
  dsimp only
  have hout:=kat_snds rfl har
  have hqs:q.size=vs.length:=by have:=pq.length_eq;simpa using this
  rw [hout]
  refine wpAny_bind (seqEpoch_at ho6 rfl (wpAny_bind (listUpdate_at ho6 rfl ?_ (Nat.zero_le _) (by simp [hqs];rw [sizeLine_eq];omega))))
  rw [hf]
  simp only [bne_self_eq_false,Bool.false_eq_true,if_false]
  rw [fin]
  refine wpAny_pure (h q.toList pq ?_)
  rw [List.pairwise_map,List.pairwise_iff_getElem]
  intro i j hi hj hij
  have:=sq i j (by omega) (by rw [← hqs];simpa using hj)
  unfold kk at this
  rw [Array.getD_eq_getD_getElem?,Array.getD_eq_getD_getElem?,Array.getElem?_eq_getElem (by simpa using hi),Array.getElem?_eq_getElem (by simpa using hj)] at this
  have this' : zbm.kle (xK ks q[i]) (xK ks q[j]):=by simpa using this
  simpa using (show LeL (xK ks q[i]) (xK ks q[j]) from this')
theorem zbW {l:Addr} {T:String} {o:Obj} {vs:List Value} {n:Nat} {Q:List Value→Shared→Prop} (hT:T = "list" ∨ T = "tuple") (ho:s.heap.get? l=some o) (hc:o.cls=.type T) (hd:o.data=.seq vs.toArray n) (hz:vs.length ≤ sizeLine)
  (h:Q vs { s with heap:=(s.heap.push (seqObj "list" #[] 0)).update s.heap.objs.size (Obj.mapSeq (· ++ vs.toArray)) }):wpAny (model prog w) A (collect (.ref l)) Q E s:=by
 unfold collect
 refine wpAny_bind (wpAny_runValue (codeAny_builtin entry_proto_collect' ?_))
 show wpAny _ _ (do again (.builtin "list.__iadd__" ⟨[← newList [],.ref l],[]⟩)) _ _ s
 refine wpAny_bind (wpAny_newList (wpAny_pure ⟨Code.quiet_builtin _ (by decide +kernel),codeAny_builtin entry_list_iadd' ?_⟩))
 show wpAny _ _ (Builtin.List.listExtendWith (.ref s.heap.objs.size) (.ref l) (.ref s.heap.objs.size)) _ _ { s with heap:=s.heap.push (seqObj "list" #[] 0) }
 unfold Builtin.List.listExtendWith
 have ho' : (s.heap.push (seqObj "list" #[] 0)).get? l=some o:=Heap.get?_push_of_some _ ho
 refine wpAny_bind (wpAny_typeOf (T:=T) ⟨o,ho',hc⟩ ?_)
 have y1:(Value.type "list" == Value.type "list")=true:=rfl
 have y2:(Value.type "tuple" == Value.type "tuple")=true:=rfl
 rw [if_pos (by rcases hT with rfl | rfl <;> simp only [y1,y2,Bool.or_true,Bool.true_or])]
 refine wpAny_bind (listItems_at ho' hd (wpAny_bind (listItems_at (xs:=#[]) (n:=0) (Heap.get?_push_size _ rfl) rfl ?_)))
 rw [if_neg (by simp)]
 refine wpAny_bind (listUpdate_at (xs:=#[]) (n:=0) (Heap.get?_push_size _ rfl) rfl ?_ (Nat.zero_le _) (by show (#[] ++ vs.toArray).size ≤ sizeLine + 1;simp only [Array.size_append,List.size_toArray,List.length_nil];omega))
 refine wpAny_pure (wpAny_bind (wpAny_load (get?_update_seq (Heap.get?_push_size _ rfl) _) ?_))
 show wpAny _ _ (pure ((#[]:Array Value) ++ vs.toArray).toList) Q E _
 rw [show ((#[]:Array Value) ++ vs.toArray).toList=vs by simp]
 exact wpAny_pure h
theorem zcj {l:Addr} {T:String} {o:Obj} {vs:List Value} {ks:List (List Int)} {n:Nat} {Q:Value→Shared→Prop} (hT:T = "list" ∨ T = "tuple") (ho:s.heap.get? l=some o) (hc:o.cls=.type T) (hd:o.data=.seq vs.toArray n)
  (hl:vs.length=ks.length) (hk:∀ (i:Nat) v k,vs[i]?=some v→ks[i]?=some k→TupI s.heap v k) (h64:vs.length < 64)
  (h:∀ p:List Nat,p.Perm (List.range vs.length)→(p.map (xK ks)).Pairwise LeL→Q (.ref (s.heap.objs.size + 1)) { s with heap:=sortedAll s.heap vs (p.map fun i=>vs.getD i Value.none).toArray }) :
  wpAny (model prog w) A (call (.builtin "sorted") [.ref l]) Q E s:=by
 have fit:vs.length ≤ sizeLine:=by rw [sizeLine_eq];omega
 refine Calls.call_function_entry kind_sorted plain_sorted entry_sorted (args_sorted1 _) ?_
 unfold Builtin.«sorted»
 refine wpAny_bind (m:=checkCount "sorted" 1 1 _) (wpAny_pure (wpAny_bind (zbW hT ho hc hd fit (wpAny_bind (wpAny_newList ?_ (by simpa using fit))))))
 have hsz:((s.heap.push (seqObj "list" #[] 0)).update s.heap.objs.size (Obj.mapSeq (· ++ vs.toArray))).objs.size=s.heap.objs.size + 1:=by rw [Heap.size_update,size_push']
 have hoL:(((s.heap.push (seqObj "list" #[] 0)).update s.heap.objs.size (Obj.mapSeq (· ++ vs.toArray))).push (seqObj "list" vs.toArray 0)).get? (s.heap.objs.size + 1)=some (seqObj "list" vs.toArray 0):=by
  rw [← hsz];exact Heap.get?_push_size _ rfl
 have keep:∀ b u,s.heap.get? b=some u→(((s.heap.push (seqObj "list" #[] 0)).update s.heap.objs.size (Obj.mapSeq (· ++ vs.toArray))).push (seqObj "list" vs.toArray 0)).get? b=some u:=fun b u e =>
  Heap.get?_push_of_some _ (by rw [Heap.get?_update_ne _ _ _ _ (Nat.ne_of_lt (Heap.lt_size e))];exact Heap.get?_push_of_some _ e)
 have ltv:∀ v ∈ vs,v ≠ .ref (s.heap.objs.size + 1):=fun v hv z=>by
  obtain ⟨i,hi,e⟩:=List.getElem_of_mem hv
  obtain ⟨b,ob,_,_,eb,g,_⟩:=hk i v (ks[i]'(by omega)) (by rw [← e];simp [hi]) (by simp [← hl,hi])
  rw [z] at eb;cases eb
  exact absurd (Nat.lt_of_succ_lt (Heap.lt_size g)) (Nat.lt_irrefl _)
 show wpAny _ _ _ _ _ { s with heap:=((s.heap.push (seqObj "list" #[] 0)).update s.heap.objs.size (Obj.mapSeq (· ++ vs.toArray))).push (seqObj "list" vs.toArray 0) }
 rw [hsz]
 refine wpAny_bind (wpAny_holding (wpAny_call_entry slot_list_sort ⟨_,hoL,rfl⟩ entry_list_sort (zaA (ks:=ks) hoL hl (fun i v k g1 g2 => ?_) ltv h64 fun p a1 a2=>⟨_,rfl,wpAny_pure ⟨_,rfl,h p a1 a2⟩⟩) (args_list_sort _)))
 obtain ⟨b,ob,xs,m,eb,g,r⟩:=hk i v k g1 g2
 exact ⟨b,ob,xs,m,eb,keep b ob g,r⟩
end
section
variable {X:Cx}
theorem zbN {d:D} {is:List Int} (h:wu d=some is):d=.tuple (is.map PyData.int)∧is ≠ []:=by
 unfold wu at h
 split at h
 ·obtain ⟨js,e1,e2⟩:=Option.bind_eq_some_iff.mp h
  split at e2
  ·cases e2
  ·cases e2;exact ⟨by rw [qe e1],by assumption⟩
 ·cases h
theorem zcN:∀ {ds:List D} {ks:List (List Int)},ds.mapM wu=some ks→ds=ks.map (fun k=>.tuple (k.map PyData.int))∧∀ k ∈ ks,k ≠ []
 | [],_,h=>by cases h;exact ⟨rfl,fun _ h=>by simp at h⟩
 | d :: ds,_,h=>by
  rw [List.mapM_cons] at h
  obtain ⟨k,h1,h⟩:=Option.bind_eq_some_iff.mp h
  obtain ⟨r,h2,h⟩:=Option.bind_eq_some_iff.mp h
  cases h
  obtain ⟨e1,e2⟩:=zbN h1
  obtain ⟨e3,e4⟩:=zcN (ds:=ds) h2
  exact ⟨by rw [e1,e3];rfl,fun k' hk=>by
   rcases List.mem_cons.mp hk with e | e
   ·subst e;exact e2
   ·exact e4 k' e⟩
theorem zbE {K:Frag} {H:Hp} {ds:List D} {vs:List V} (r:Reps K H ds vs):∀ p:List Nat,(∀ i ∈ p,i < ds.length)→Reps K H (p.map fun i=>ds.getD i .none) (p.map fun i=>vs.getD i .non)
 | [],_=>.nil
 | i :: p,h=>by
  have hi:=h i List.mem_cons_self
  obtain ⟨v,h1,h2⟩:=r.get (i:=i) (d:=ds[i]) (by simp [hi])
  refine .cons ?_ (zbE r p fun j hj=>h j (List.mem_cons_of_mem _ hj))
  have e1:ds.getD i .none=ds[i]:=by simp [hi]
  have e2:vs.getD i .non=v:=by rw [List.getD_eq_getElem?_getD,h1];rfl
  show Rep K H (ds.getD i .none) (vs.getD i .non)
  rw [e1,e2];exact h2
theorem zgc {vs:List V} {us:List Value} {i:Nat} {u:Value} (r:Vals vs us) (h:us[i]?=some u):∃ v,vs[i]?=some v∧RelV v u:=by
 have hi:i < us.length:=(List.getElem?_eq_some_iff.mp h).1
 have hl:vs.length=us.length:=r.length
 obtain ⟨u',h1,h2⟩:=r.get (i:=i) (x:=vs[i]'(by omega)) (by simp [hl,hi])
 rw [h] at h1;cases h1
 exact ⟨_,by simp [hl,hi],h2⟩
theorem zbO {vs:List V} {us:List Value} (r:Vals vs us):∀ p:List Nat,(∀ i ∈ p,i < vs.length)→Vals (p.map fun i=>vs.getD i .non) (p.map fun i=>us.getD i Value.none)
 | [],_=>.nil
 | i :: p,h=>by
  have hi:=h i List.mem_cons_self
  obtain ⟨u,h1,h2⟩:=r.get (i:=i) (x:=vs[i]) (by simp [hi])
  refine .cons ?_ (zbO r p fun j hj=>h j (List.mem_cons_of_mem _ hj))
  have e1:vs.getD i .non=vs[i]:=by simp [hi]
  have e2:us.getD i Value.none=u:=by rw [List.getD_eq_getElem?_getD,h1];rfl
  show RelV (vs.getD i .non) (us.getD i Value.none)
  rw [e1,e2];exact h2
theorem zhh {α:Type} {p:List Nat} {n:Nat} (h:p.Perm (List.range n)) (f:Nat→α):(p.map f).Perm ((List.range n).map f):=h.map f
theorem zfp {p pos:Pos} {e:Expr} {g:Env'→Option (List D)} (hg:Gl X "sorted") (hm:X.mg "sorted" = none) (ha:PAb X [e] g) (he:autoParam (starEach [e] X.env=[(false,eval e X.env)]) aTc) :
  PFr X (.Call (.Name "sorted" p) [e] [] pos) (gItL zaR g):=by
 have hc:wY X (.builtin "sorted") (fun xs H Q=>∃ O a ds ks ys,xs=[.ref a]∧Dom O H∧(SqL X.K H a ys ∨ SqT X.K H a ys)∧Reps X.K (hide O H) ds ys∧ds.mapM wu=some ks∧ks.length < 64 ∧
   ∀ l zs,H l=none→Reps X.K (hide O H) ((yr ks).map fun k=>.tuple (k.map PyData.int)) zs→Q (.ref l) (upd H l (.lst zs))):=by
  intro pins s σ H xs us Q I rv hZq
  obtain ⟨O,a,ds,ks,ys,e,hO,sq,rs,em,h64,k⟩:=hZq
  subst e
  obtain ⟨u,rfl,ru⟩:=vals1 rv
  obtain rfl:u=Value.ref a:=ru
  obtain ⟨eds,kne⟩:=zcN em
  have hseq:∃ T o its n,(T = "list" ∨ T = "tuple")∧s.heap.get? a=some o∧o.cls=.type T∧o.data=.seq its.toArray n∧Vals ys its:=by
   rcases sq with sq | sq
   ·obtain ⟨its,r,⟨o,n,e,c,_,dd⟩,_⟩:=I.list sq
    exact ⟨"list",o,its,n,.inl rfl,e,c,dd,r⟩
   ·obtain ⟨its,r,⟨o,e,c,n,dd⟩,_⟩:=I.tuple sq
    exact ⟨"tuple",o,its,n,.inr rfl,e,c,dd,r⟩
  obtain ⟨T,o,its,n,hT,ho,hcl,hd,rv⟩:=hseq
  have l1:ds.length=ys.length:=rs.length
  have l2:ys.length=its.length:=rv.length
  have l3:ds.length=ks.length:=by rw [eds];simp
  have hfree:H (s.heap.objs.size + 1)=none:=I.hok.fresh (Nat.le_succ _)
  refine zcj hT ho hcl hd (ks:=ks) (by omega) (fun i v c g1 g2 => ?_) (by omega) fun q pq sq => ?_
  ·obtain ⟨y,gy,ry⟩:=zgc rv g1
   obtain ⟨d,gd,rd⟩:=rs.getV gy
   rw [eds,List.getElem?_map,g2] at gd
   cases gd
   cases rd with
   | tup ht rt =>
    rename_i b zs
    obtain rfl:v=Value.ref b:=ry
    cases rt.ints
    obtain ⟨its',r',⟨o',e',c',n',dd'⟩,_⟩:=I.tuple (.inl (.inl (jd _ _ ht)))
    exact ⟨b,o',its'.toArray,n',rfl,e',c',dd',by simpa using intsAre_of r',kne c (List.mem_of_getElem? g2)⟩
  ·have inq:∀ i ∈ q,i < ys.length:=fun i hi=>by have:=List.mem_range.mp (pq.mem_iff.mp hi);omega
   obtain ⟨e2,he2⟩:=sortedAll_at s.heap its (q.map fun i=>its.getD i Value.none).toArray
   have ek:q.map (xK ks)=yr ks:=zhM (by
    have:=zhh pq (xK ks)
    rw [show its.length=ks.length by omega] at this
    unfold xK at this ⊢
    rw [range_getD] at this
    exact this) sq
   have hR:Reps X.K (hide O H) ((yr ks).map fun k=>.tuple (k.map PyData.int)) (q.map fun i=>ys.getD i .non):=by
    have:=zbE rs q (fun i hi=>by have:=inq i hi;omega)
    rw [← ek,List.map_map]
    have ee:q.map (fun i=>ds.getD i .none)=q.map ((fun k=>PyData.tuple (k.map PyData.int)) ∘ xK ks):=by
     apply List.map_congr_left
     intro i hi
     have hi' : i < ks.length:=by have:=inq i hi;omega
     unfold xK
     simp [eds,hi']
    rw [← ee];exact this
   refine ⟨.ref (s.heap.objs.size + 1),upd H (s.heap.objs.size + 1) (.lst (q.map fun i=>ys.getD i .non)),?_,rfl,k _ _ hfree hR⟩
   refine I.laid (t':=s.toks) (fun b u e=>sortedAll_old e) (Nat.le_succ _) ⟨by rw [List.length_map,pq.length_eq,List.length_range,sizeLine_eq];omega,q.map fun i=>its.getD i Value.none,e2,zbO rv q inq,he2⟩
 exact PE.imp (zaK hc hg hm boot_sorted ha (by decide) (by decide) he (by rfl)) fun σ H Q hZq=>by
  obtain ⟨F,O,ρ,ds,r,e,k⟩:=hZq
  obtain ⟨as,e1,e2⟩:=Option.bind_eq_some_iff.mp e
  refine ⟨F,O,ρ,as,r,e1,fun vs H1 s1 b1 => ?_⟩
  have go:∀ {es:List D},zfU es=some ds→∃ ks,es.mapM wu=some ks∧ks.length < 64∧ds=(yr ks).map fun k=>.tuple (k.map PyData.int):=fun {es} h=>by
   obtain ⟨ks,a1,a2⟩:=Option.bind_eq_some_iff.mp h
   split at a2
   ·cases a2;exact ⟨ks,a1,by assumption,rfl⟩
   ·cases a2
  unfold zaR at e2
  split at e2
  ·obtain ⟨ks,a1,a2,rfl⟩:=go e2
   obtain ⟨v,rfl,b⟩:=b1.inv1
   obtain ⟨a,ys,rfl,sq,rs⟩:=b.lst
   exact ⟨O,a,_,ks,ys,rfl,(r.same s1).dom,.inl sq,rs,a1,a2,fun l zs hl rz=>k l zs H1 s1 hl rz⟩
  ·obtain ⟨ks,a1,a2,rfl⟩:=go e2
   obtain ⟨v,rfl,b⟩:=b1.inv1
   obtain ⟨a,ys,rfl,sq,rs⟩:=b.tup
   exact ⟨O,a,_,ks,ys,rfl,(r.same s1).dom,.inr sq,rs,a1,a2,fun l zs hl rz=>k l zs H1 s1 hl rz⟩
  ·cases e2
end
end L2.Y
namespace L2.Y
open PySem PySem.Spec PyProof.Rows
section
variable {prog:Program} {w:World} {A:Around} {E:Value→Shared→Prop} {s:Shared} {it d:Addr} {i ep:Nat} {es:Array DictEntry} {od:Obj} {Q:Option Value→Shared→Prop}
theorem zeX {Q:Value→Shared→Prop} (hT:s.TypeIs (.ref d) "dict") (hd:(d == sysModules)=false) (hod:s.heap.get? d=some od) (hdd:od.data=.dict es ep)
  (hQ:Q (.ref s.heap.objs.size) { s with heap:=s.heap.push { cls:=.type "dict_keyiterator",data:=.fields #[.ref d,.int 0 0,.int es.size 0,.int ep 0] } }):wpAny (model prog w) A (pyIter (.ref d)) Q E s:=by
 refine wpAny_pyIter_slot hT F.slot_dict_iter (wpAny_call_entry F.slot_dict_iter hT F.entry_dict_iter ?_ (F.args_dict_iter_1 _))
 unfold Builtin.«dict.__iter__» Builtin.Dict.dictSlotNone
 refine wpAny_bind (wpAny_bind (wpAny_notOrdered_dict hT (wpAny_pure ?_)))
 show wpAny _ _ (Builtin.Dict.showsAll d >>= _) _ _ s
 unfold Builtin.Dict.showsAll
 rw [if_neg (by rw [hd];exact Bool.false_ne_true)]
 refine wpAny_bind (wpAny_pure (wpAny_bind (wpAny_dictEntries hod hdd (wpAny_bind (wpAny_dictEpoch hod hdd ?_)))))
 refine wpAny_bind (wpAny_newObj_type (wpAny_pure ⟨_,rfl, "dict_keyiterator",_,⟨_,Heap.get?_push_size _ rfl,rfl⟩,F.slot_dict_keyiterator_next.lookup,?_⟩))
 simpa [rawInt] using hQ
theorem zeW {e:DictEntry} (hit:s.heap.IsKeyIter it d i es.size ep) (hod:s.heap.get? d=some od) (hdd:od.data=.dict es ep) (he:es[i]?=some e)
  (hQ:∀ h',h'.IsKeyIter it d (i + 1) es.size ep→Heap.SameBut it s.heap h'→Q (some e.key) { s with heap:=h' }):wpAny (model prog w) A (pyNext (.ref it)) Q E s:=by
 obtain ⟨o,ho,hc,hd⟩:=id hit
 have hlt:i < es.size:=(Array.getElem?_eq_some_iff.mp he).1
 have hown:Builtin.Dict_items.ownsTuple "dict_keyiterator" = false:=by decide
 unfold pyNext
 refine wpAny_bind (wpAny_attempt (wpAny_callSpecial?_slot (name:=Str.ofString "__next__") hit.typeIs F.slot_dict_keyiterator_next (wpAny_call_entry F.slot_dict_keyiterator_next hit.typeIs F.entry_dict_keyiterator_next ?_ (F.args_dict_keyiterator_next_1 _))))
 refine wpAny_bind (wpAny_pure (wpAny_bind (wpAny_bind ?_)))
 first | refine wpAny_bind (wpAny_typeNameOfWhole_keyiter hit.typeIs (wpAny_pure ?_)) | refine wpAny_bind (wpAny_typeNameOf_keyiter hit.typeIs (wpAny_pure (?_)))
 refine wpAny_bind (wpAny_fieldsOf ho hd ?_)
 simp only [hown,Bool.false_eq_true,if_false]
 show wpAny _ _ (if (Value.ref d == Value.none)=true then _ else _) _ _ s
 rw [if_neg (show ¬ ((Value.ref d == Value.none)=true) from Bool.false_ne_true)]
 refine wpAny_bind (wpAny_pure (wpAny_bind (wpAny_dictEntries hod hdd ?_)))
 rw [if_neg (by simp)]
 refine wpAny_bind (wpAny_pure (wpAny_bind (wpAny_dictEpoch hod hdd ?_)))
 rw [if_neg (by simp)]
 refine wpAny_pure ?_
 simp only [show ¬ ((i:Int) < 0) from by omega,if_false,Int.toNat_natCast,he]
 refine wpAny_bind ?_
 first | refine wpAny_bind (wpAny_typeNameOfWhole_keyiter hit.typeIs (wpAny_pure ?_)) | refine wpAny_bind (wpAny_typeNameOf_keyiter hit.typeIs (wpAny_pure (?_)))
 refine wpAny_bind (wpAny_isOneOf_keyiter hit.typeIs ?_)
 show wpAny _ _ (setField (.ref it) 1 (rawInt ((i:Int) + 1)) >>= _) _ _ s
 have hit' : (s.heap.update it (Obj.mapFields (·.setIfInBounds 1 (rawInt ((i:Int) + 1))))).IsKeyIter it d (i + 1) es.size ep :=
  ⟨_,Heap.get?_update_self _ ho (Obj.isFreed_of_fields (Obj.data_mapFields hd _)),(Obj.cls_mapFields ..).trans hc,by rw [Obj.data_mapFields hd];simp [rawInt]⟩
 refine wpAny_bind (wpAny_setField ho hd (by simp) (wpAny_bind (wpAny_holding ?_)))
 refine wpAny_bind (wpAny_isOneOf_keyiter (s:={ s with heap:=s.heap.update it (Obj.mapFields (·.setIfInBounds 1 (rawInt ((i:Int) + 1)))) }) hit'.typeIs ?_)
 show wpAny _ _ (pure e.key) _ _ _
 exact wpAny_pure (wpAny_pure ⟨_,rfl,wpAny_pure (hQ _ hit' (Heap.SameBut.update ..))⟩)
theorem zgU (hh:A.handled=none) (hit:s.heap.IsKeyIter it d i es.size ep) (hod:s.heap.get? d=some od) (hdd:od.data=.dict es ep) (he:es.size ≤ i)
  (hQ:∀ h',Heap.ExtBut it s.heap h'→Q none { s with heap:=h' }):wpAny (model prog w) A (pyNext (.ref it)) Q E s:=by
 obtain ⟨o,ho,hc,hd⟩:=id hit
 have hown:Builtin.Dict_items.ownsTuple "dict_keyiterator" = false:=by decide
 unfold pyNext
 refine wpAny_bind (wpAny_attempt (wpAny_callSpecial?_slot (name:=Str.ofString "__next__") hit.typeIs F.slot_dict_keyiterator_next (wpAny_call_entry F.slot_dict_keyiterator_next hit.typeIs F.entry_dict_keyiterator_next ?_ (F.args_dict_keyiterator_next_1 _))))
 refine wpAny_bind (wpAny_pure (wpAny_bind (wpAny_bind ?_)))
 first | refine wpAny_bind (wpAny_typeNameOfWhole_keyiter hit.typeIs (wpAny_pure ?_)) | refine wpAny_bind (wpAny_typeNameOf_keyiter hit.typeIs (wpAny_pure (?_)))
 refine wpAny_bind (wpAny_fieldsOf ho hd ?_)
 simp only [hown,Bool.false_eq_true,if_false]
 show wpAny _ _ (if (Value.ref d == Value.none)=true then _ else _) _ _ s
 rw [if_neg (show ¬ ((Value.ref d == Value.none)=true) from Bool.false_ne_true)]
 refine wpAny_bind (wpAny_pure (wpAny_bind (wpAny_dictEntries hod hdd ?_)))
 rw [if_neg (by simp)]
 refine wpAny_bind (wpAny_pure (wpAny_bind (wpAny_dictEpoch hod hdd ?_)))
 rw [if_neg (by simp)]
 refine wpAny_pure ?_
 simp only [show ¬ ((i:Int) < 0) from by omega,if_false,Int.toNat_natCast,Array.getElem?_eq_none he]
 refine wpAny_bind ?_
 first | refine wpAny_bind (wpAny_typeNameOfWhole_keyiter hit.typeIs (wpAny_pure ?_)) | refine wpAny_bind (wpAny_typeNameOf_keyiter hit.typeIs (wpAny_pure (?_)))
 show wpAny _ _ (setField (.ref it) 0 .none >>= _) _ _ s
 refine wpAny_bind (wpAny_setField ho hd (by simp) ?_)
 show wpAny _ _ (newExc (.type "StopIteration") [] >>= _) _ _ _
 refine wpAny_bind ?_
 simp only [newExc,newTuple]
 refine wpAny_bind (wpAny_newObj_type (wpAny_bind (m:=firstArgMember _ _) (wpAny_of_eq (a:=Value.none) (by first | rfl | (simp only [firstArgMember];rfl)) (wpAny_newObj_type ?_ (by size_fits)))) (by size_fits))
 simp only [raiseNew]
 refine wpAny_bind (wpAny_handled ?_)
 rw [show A.in1.handled=none from hh]
 refine wpAny_bind (wpAny_pure (wpAny_throw ?_))
 refine wpAny_bind (wpAny_isInstance (T := "StopIteration") (b:=true) ⟨_,Heap.get?_push_size _ rfl,rfl⟩ isSubtype_stop (wpAny_pure ?_))
 exact hQ _ (((Heap.SameBut.update ..).extBut.push _).push _)
end
theorem kL {P:Program} {w:World} {H:Hp} {h:Heap} {a:Addr} {kvs:List (List Key × V)} (ok:jG P w H h a (.dT kvs)):∃ o es ep,h.get? a=some o∧o.cls=.type "dict" ∧ o.data=.dict es ep∧(a == sysModules)=false∧es.size=kvs.length ∧
  ∀ (i:Nat) p,kvs[i]?=some p→∃ b ent,es[i]?=some ent∧ent.key=.ref b∧H b=some (.tup (p.1.map kV)):=by
 obtain ⟨z,hs,xs,rel,o,es,ep,h1,h2,h3,h4,h5⟩:=ok
 have hl:=Paired.length rel
 refine ⟨o,es,ep,h1,h2.1,h3,hs,?_,fun i p hp => ?_⟩
 ·have:=congrArg List.length h4
  rw [List.length_map,Array.length_toList] at this
  omega
 ·have get:∀ {kvs:List (List Key × V)} {xs:List (List Key × Addr × Value)} {i:Nat},Paired (fun (p:List Key × V) (q:List Key × Addr × Value)=>p.1=q.1∧H q.2.1=some (.tup (p.1.map kV))∧RelV p.2 q.2.2) kvs xs→kvs[i]?=some p→∃ q,xs[i]?=some q∧H q.2.1=some (.tup (p.1.map kV)):=by
   intro kvs xs i r
   induction r generalizing i with
   | nil=>intro hp;simp at hp
   | cons hh t ih =>
    intro hp
    cases i with
    | zero=>simp at hp;subst hp;exact ⟨_,rfl,hh.2.1⟩
    | succ i=>obtain ⟨q,a1,a2⟩:=ih (i:=i) (by simpa using hp);exact ⟨q,by simpa using a1,a2⟩
  obtain ⟨q,a1,a2⟩:=get rel hp
  refine ⟨q.2.1,entryOfKey (tupleKind (jK P w)) q,?_,rfl,a2⟩
  rw [← Array.getElem?_toList,h4,List.getElem?_map,a1]
  rfl
theorem Inv.hold {X:Cx} {pins:List (Addr × Obj)} {σ:St} {H:Hp} {s:Shared} {a:Addr} {kvs:List (List Key × V)} (I:Inv X pins σ H s) (e:H a=some (.dT kvs)):∃ o,Inv X pins σ (upd H a (.frz o (.dT kvs))) s:=by
 have ok:jG X.prog X.w H s.heap a (.dT kvs):=I.hok a _ e
 obtain ⟨z,hs,xs,rel,o,es,ep,h1,h2⟩:=id ok
 refine ⟨o,I.write (x:=a) (e:=a) (t':=s.toks) (h':=s.heap) (by rw [e];exact True.intro) (.inl rfl) (fun b u _ q=>q) ⟨o,h1⟩ ⟨h1,z,hs,xs,?_,o,es,ep,h1,h2⟩⟩
 exact KT.keeps rel fun c ys ec=>by
  rw [zE (zkq ec e (fun z=>nomatch z))]
  exact ec
theorem SR.hold {K:Frag} {F:Fx} {O:List Addr} {ρ:Env'} {σ:St} {H:Hp} {i:Nat} {p:Addr} {o:Obj} {kvs:List (List Key × V)} {ds:List D} {d:D} (r:SR K F O ρ σ H) (he:ρ[i]?=some (some (.own d))) (hs:σ[i]?=some (some (.ref p))) (hp:H p=some (.dT kvs)) (rd:Reps K (hide O H) ds (kvs.map (·.2))) :
  SR K F (O.filter (· ≠ p)) (ρ.set i (some (.val (.dict ((.none,.int 0) :: (kvs.map fun q=>wC q.1).zip ds))))) σ (upd H p (.frz o (.dT kvs))):=by
 obtain ⟨p',h1,hO,h0,_⟩:=r.own i _ he
 rw [hs] at h1;cases h1
 have sub:∀ q ∈ O.filter (· ≠ p),q ∈ O:=fun q hq=>(List.mem_filter.mp hq).1
 have np:p ∉ O.filter (· ≠ p):=fun z=>by simpa using (List.mem_filter.mp z).2
 have grow:Same (hide O H) (hide (O.filter (· ≠ p)) (upd H p (.frz o (.dT kvs)))):=fun b u e=>by
  obtain ⟨e1,e2⟩:=qt e
  rw [qi (fun z=>e1 (sub b z)),zE (fun z:b=p=>e1 (by rw [z];exact hO))]
  exact e2
 refine ⟨fun b u e => ?_,r.vb.trans grow,fun q hq=>List.mem_filter.mpr ⟨r.oc q hq,?_⟩,fun q hq => ?_,by rw [List.length_set];exact r.len,fun j d' e => ?_,fun j d' e => ?_,fun j k d1 d2 q e1 e2 f1 f2 => ?_⟩
 ·rw [zE (zV e h0.2)];exact r.hb _ _ e
 ·have:q ≠ p:=fun z=>h0.1 (z ▸ hq)
  simpa using this
 ·rw [zE (fun z:q=p=>np (by rw [z] at hq;exact hq))];exact r.dom q (sub q hq)
 ·rcases get_set e with ⟨rfl,e2,hl⟩ | ⟨ne,e2⟩
  ·cases e2
   exact ⟨_,hs,.dF (o:=o) (by rw [qi np,jh]) (rd.same grow)⟩
  ·obtain ⟨v,h1,h2⟩:=r.val j d' e2
   exact ⟨v,h1,h2.same grow⟩
 ·rcases get_set e with ⟨rfl,e2,hl⟩ | ⟨ne,e2⟩
  ·cases e2
  ·obtain ⟨q,h1,h2,h3,h4⟩:=r.own j d' e2
   have hq:q ≠ p:=fun z=>by subst z;exact ne (r.sep i j _ d' q he e2 hs h1)
   refine ⟨q,h1,List.mem_filter.mpr ⟨h2,by simpa using hq⟩,h3,?_⟩
   cases h4 with
   | lst h r=>exact .lst (by rw [zE hq];exact h) (r.same grow)
   | dK h r=>exact .dK (by rw [zE hq];exact h) (r.same grow)
   | dT h r=>exact .dT (by rw [zE hq];exact h) (r.same grow)
 ·rcases get_set e1 with ⟨rfl,e1,_⟩ | ⟨ne1,e1⟩
  ·cases e1
  rcases get_set e2 with ⟨rfl,e2,_⟩ | ⟨ne2,e2⟩
  ·cases e2
  exact r.sep j k d1 d2 q e1 e2 f1 f2
section
variable {X:Cx}
theorem ziJ (i:Nat) (ρ:Env'):frzT i ρ=ρ ∨ ∃ r,ρ[i]?=some (some (.own (.dict ((.none,.none) :: r))))∧frzT i ρ=ρ.set i (some (.val (.dict ((.none,.int 0) :: r)))):=by
 unfold frzT
 split
 ·exact .inr ⟨_,by assumption,rfl⟩
 ·exact .inl rfl
theorem zhp {st:Stmt} {g:GS} (i:Nat) (h1:PSd X st g):PSd X st (fun ρ=>g (frzT i ρ)):=fun pins s σ H D I hZq=>by
 obtain ⟨F,O,ρ,out,r,e,k⟩:=hZq
 have e:g (frzT i ρ)=some out:=e
 rcases ziJ i ρ with q | ⟨rr,he,q⟩
 ·rw [q] at e
  exact h1 pins s σ H D I ⟨F,O,ρ,out,r,e,k⟩
 ·rw [q] at e
  obtain ⟨p,hs,hO,h0,ho⟩:=r.own i _ he
  obtain ⟨kvs,ds,hp,rd,rfl⟩:=ho.tabT rfl
  obtain ⟨o,I'⟩:=Inv.hold I hp
  exact h1 pins s σ _ D I' ⟨F,_,_,out,r.hold he hs hp rd,e,k⟩
noncomputable def ItF (a:Addr) (o:Obj) (kvs:List (List Key × V)):It :=
 ⟨fun i H=>H a=some (.frz o (.dT kvs))∧i < kvs.length,fun i H x H'=>H'=H∧∃ p b,kvs[i]?=some p∧x=.ref b∧H b=some (.tup (p.1.map kV)),fun i H=>H a=some (.frz o (.dT kvs))∧kvs.length ≤ i⟩
theorem yA {P:Program} {w:World} {H:Hp} {h:Heap} {a:Addr} {o:Obj} {kvs:List (List Key × V)} {es:Array DictEntry} {ep:Nat} (ok:HOk P w H h) (e:H a=some (.frz o (.dT kvs))) (hd:o.data=.dict es ep):h.get? a=some o∧es.size=kvs.length ∧
  ∀ (i:Nat) p,kvs[i]?=some p→∃ b ent,es[i]?=some ent∧ent.key=.ref b∧H b=some (.tup (p.1.map kV)):=by
 obtain ⟨h1,h2⟩:=(show jG P w H h a (.frz o (.dT kvs)) from ok a _ e)
 obtain ⟨o',es',ep',g1,g2,g3,g4,g5,g6⟩:=kL h2
 rw [h1] at g1;cases g1
 rw [hd] at g3;cases g3
 exact ⟨h1,g5,g6⟩
theorem zf6 {P:Program} {w:World} {K:Frag} {tg:Expr} {a it:Addr} {o:Obj} {kvs:List (List Key × V)} {es:Array DictEntry} {ep:Nat} (hd:o.data=.dict es ep):Turn P w K tg (ItF a o kvs) [it] it (fun i h=>h.IsKeyIter it a i es.size ep) where
 mem:=by simp
 obj:=fun i h st b hb=>by
  have e:b=it:=by simpa using hb
  subst e
  obtain ⟨o,e,c,d⟩:=st
  exact ⟨o,e,fun v z=>by rw [d] at z;cases z⟩
 keep:=fun i h h' st k=>st.at fun o e=>k it (by simp) o e
 item:=by
  intro X hP hw hK hc i pins s σ H E I hf st hZq
  obtain ⟨ha,hi⟩:=hZq
  subst hP hw hK
  obtain ⟨e1,e2,e3⟩:=yA I.hok ha hd
  obtain ⟨b,ent,g1,g2,g3⟩:=e3 i kvs[i] (by simp [hi])
  obtain ⟨f0,f1,f2,f3,f4,f5⟩:=hf it (by simp)
  refine zeW st e1 hd g1 fun h' st' sb => ?_
  rw [g2]
  have I1:Inv X pins σ H { s with heap:=h' }:=I.turned (t':=s.toks) (fun b o hb e=>(sb.2 b hb).trans e) f0 f1 f3 f4 f5
  obtain ⟨o',e,c,d⟩:=id st'
  exact ⟨_,rfl,zgH (s:={ s with heap:=h' }) e c d (by decide) ⟨.ref b,H,I1,rfl,⟨rfl,kvs[i],b,by simp [hi],rfl,g3⟩,st',fun b hb=>(hf b hb).1⟩⟩
 done:=by
  intro X hP hw hK hc i pins s σ H E I hf st hZq
  obtain ⟨ha,hi⟩:=hZq
  subst hP hw hK
  obtain ⟨e1,e2,e3⟩:=yA I.hok ha hd
  obtain ⟨f0,f1,f2,f3,f4,f5⟩:=hf it (by simp)
  exact zgU (I.ok.hd hc) st e1 hd (by omega) fun h' eb=>⟨rfl,I.turned (t':=s.toks) (fun b o hb e=>eb b o hb e) f0 f1 f3 f4 f5⟩
 self:=fun _ _ _ _ _ st h=>wpAny_pyIter_keyiter st h
theorem kc {K:Frag} {H:Hp}:∀ ks:List Key,Reps K H (ks.map keyD) (ks.map kV)
 | []=>.nil
 | .inl i :: ks=>.cons (.int i) (kc ks)
 | .inr x :: ks=>.cons (.str x) (kc ks)
theorem zgS {K:Frag} {B:Hp} {a:Addr} {o:Obj} {kvs:List (List Key × V)} (h:B a=some (.frz o (.dT kvs))):ItD K B (ItF a o kvs) (kvs.map fun p=>wC p.1) where
 go:=fun i H s hi=>⟨s _ _ h,by simpa using hi⟩
 yld:=fun i H x H' d s hd y=>by
  obtain ⟨rfl,p,b,hp,rfl,hb⟩:=y
  rw [List.getElem?_map,hp] at hd
  cases hd
  exact .old fun O sm dm=>.tup (by rw [qi (dm.tup hb)];exact hb) (kc p.1)
 stop:=fun H s=>⟨s _ _ h,by simp⟩
theorem zfs {tg e:Expr} {ge:Env'→Option D} (h:PD X e ge):PId X tg e (gIt zh7 ge):=by
 intro pins s σ H R I hZq
 obtain ⟨F,O,ρ,ds,r,e,k⟩:=hZq
 obtain ⟨d,e1,e2⟩:=Option.bind_eq_some_iff.mp e
 refine thn (h pins s σ H (fun v H1=>Same H H1∧Rep X.K (hide O H1) d v) I ⟨F,O,ρ,d,r,e1,fun v H1 s1 rb=>⟨s1,rb⟩⟩) fun v s1 hZq => ?_
 obtain ⟨x,H1,I1,r1,sm,rb⟩:=hZq
 have hF:∃ a o kvs,x=.ref a∧hide O H1 a=some (.frz o (.dT kvs))∧ds=kvs.map (fun p=>wC p.1):=by
  cases rb with
  | @dF a o kvs ds' h r =>
   refine ⟨a,o,kvs,rfl,h,?_⟩
   have hl:=r.length
   rw [List.length_map] at hl
   have e2' : some (((kvs.map fun p=>wC p.1).zip ds').map (·.1))=some ds:=e2
   rw [← Option.some.inj e2']
   exact List.map_fst_zip (by simp [hl])
  | @dK a kvs es h r =>
   exfalso
   cases kvs with
   | nil=>cases e2
   | cons p r =>
    obtain ⟨k,w⟩:=p
    cases es with
    | nil=>cases e2
    | cons d es=>cases k <;> cases e2
  | _=>cases e2
 obtain ⟨a,o,kvs,rfl,ha,rfl⟩:=hF
 obtain rfl:v=Value.ref a:=r1
 have ok:=I1.hok a _ (qt ha).2
 obtain ⟨q1,q2⟩:=(show jG X.prog X.w H1 s1.heap a (.frz o (.dT kvs)) from ok)
 obtain ⟨o',es,ep,g1,g2,g3,g4,g5,g6⟩:=kL q2
 rw [q1] at g1;cases g1
 refine zeX ⟨o,q1,g2⟩ g4 q1 g3 ?_
 refine ⟨s1.heap.objs.size,[s1.heap.objs.size],_,_,H1,rfl,I1.kept (t':=s1.toks) fun b o e=>Heap.get?_push_of_some _ e,zf6 (kvs:=kvs) g3,⟨_,Heap.get?_push_size _ rfl,rfl,rfl⟩,fun b hb => ?_,k _ H1 sm (zgS ha)⟩
 have e:b=s1.heap.objs.size:=by simpa using hb
 subst e
 exact I1.fpOk (Nat.le_refl _) (I1.hok.fresh (Nat.le_refl _))
end
end L2.Y
namespace L2.Y
open PySem PySem.Spec PyProof.Rows
theorem zjW {fs ch:List Addr} {H:Hp} {h h' : Heap} {a:Addr} {o:HO} (k:∀ b u,b ∉ ch→h.get? b=some u→h'.get? b=some u) (hp:h.objs.size ≤ a) (hn:H a=none):Un fs ch H (upd H a o) h h' where
 keep:=fun b u q _ _ hx=>k b u hx q
 slot:=fun b u q _ _ hx=>⟨u.slots,k b u hx q⟩
 free:=fun b u q n _=>by rw [zE (Nat.ne_of_lt (Nat.lt_of_lt_of_le (Heap.lt_size q) hp))];exact n
 there:=fun b u q hx=>⟨u,k b u hx q⟩
 tups:=fun b xs q=>by rw [zE (zV q hn)];exact q
 frzs:=fun b u xs q=>by rw [zE (zV q hn)];exact q
 tbls:=fun b ps q=>⟨#[],by rw [zE (zV q hn),q];simp⟩
theorem zgM {P:Program} {w:World} {ch:List Addr} {H:Hp} {h h' : Heap} {a:Addr} {o:HO} (ok:HOk P w H h) (k:∀ b u,b ∉ ch→h.get? b=some u→h'.get? b=some u) (hc:∀ b ∈ ch,H b=none) (hn:H a=none) (new:jG P w (upd H a o) h' a o):HOk P w (upd H a o) h':=fun b u q=>by
 by_cases e:b=a
 ·subst e;rw [jh] at q;cases q;exact new
 ·rw [zE e] at q
  refine (ok b u q).stay (fun c v hcc r=>k c v (fun z => ?_) r) (fun c r=>by rw [zE (zV r hn)];exact r) fun c xs r=>by rw [zE (zV r hn)];exact r
  have z0:=hc c z
  rcases hcc with rfl | hcc
  ·rw [q] at z0;cases z0
  ·rw [hcc] at z0;cases z0
theorem zaU:∀ (xs ys:List D) (i:Nat) {d:D},(zip2 xs ys)[i]?=some d→∃ x y,xs[i]?=some x∧ys[i]?=some y∧d=.tuple [x,y]
 | x :: xs,y :: ys,0,d,h=>by simp [zip2] at h;exact ⟨x,y,rfl,rfl,h.symm⟩
 | x :: xs,y :: ys,i + 1,d,h=>by
  obtain ⟨a,b,h1,h2,h3⟩:=zaU xs ys i (d:=d) (by simpa [zip2] using h)
  exact ⟨a,b,by simpa using h1,by simpa using h2,h3⟩
 | [],_,_,_,h=>by simp [zip2] at h
 | _ :: _,[],_,_,h=>by simp [zip2] at h
theorem zdd:∀ (xs ys:List D),(zip2 xs ys).length=min xs.length ys.length
 | x :: xs,y :: ys=>by simp only [zip2,List.length_cons,zdd xs ys];omega
 | [],_=>by simp [zip2]
 | _ :: _,[]=>by simp [zip2]
section
variable {X:Cx}
theorem zgl (I a b:Nat) (h1:a < I) (h2:b < I):ZipApart (I + 4) (I + 2) (I + 3) I (I + 1) a b:=by
 constructor <;> (intro z;have z' : (_:Nat)=_:=z;omega)
end
end L2.Y
namespace L2.Y
open PySem PySem.Spec PyProof.Rows
section
variable {prog:Program} {w:World} {A:Around} {E:Value→Shared→Prop} {s:Shared}
end
section
variable {X:Cx}
theorem qY {scope:Scope} {own N:List Str} {caps:List Nat} {tg iter elt:Expr} {pos:Pos} {gi:Env'→Option (List D)} {h:GT} {gt:Env'→Option Bool} {ge:Env'→Option D} {ifs:List Expr} {i:Nat} {x:Str} {px spos:Pos} (S:CompOk X scope own caps N) (nd:caps.Nodup) (ov:Over own.length h) (hc:X.calm=true) (hi:PId X tg iter gi) (hg:jw X N scope fun Y=>PGd Y tg h) (ht:jw X N scope fun Y=>PIfd Y ifs gt) (he:jw X N scope fun Y=>PD Y elt ge)
  (hN:X.N.Nodup) (hx:X.N[i]?=some x) (hl:X.env.scope.names.lookup x=some .local) (hsw:swapsWith (.ListComp elt [⟨tg,iter,ifs,0⟩] scope pos) (some (.Name x px)) spos.line X.env=pure true)
  (hs:autoParam (∀ x,foldedSetIterable iter X.env x=pure x) aTd):PSd X (.Assign [.Name x px] (.ListComp elt [⟨tg,iter,ifs,0⟩] scope pos) spos) (kf i (jx own.length caps gi h gt ge)) :=
 PS.imp (zcU (g:=tGd X.K h) (tt:=tTd X.K gt) (te:=tD X.K ge) S hc hi (fun cl C s H fp=>hg cl C s H fp) (fun cl C s H fp=>ht cl C s H fp) (fun cl C s H fp=>he cl C s H fp) hN hx hl hsw hs) fun D σ H hZq=>by
  obtain ⟨F,O,ρ,out,r,e,k⟩:=hZq
  obtain ⟨ds,e1,e2⟩:=Option.map_eq_some_iff.mp e
  subst e2
  refine zan nd ov ⟨F,O,ρ,ds,r,e1,fun p xs H1 s1 hp b1 => ?_⟩
  exact k O _ _ ((r.same (s1.trans (jg hp))).setVal (yV hp ((r.same s1).fresh hp) b1))
end
section
variable {P:Program} {w:World} {K:Frag} {mg:Str→Option Value} {base:Heap}
theorem zgD {x qual:Str} {st:Stmt} {f:Addr} {fd:FuncData} {N ps:List Str} {k n:Nat} (F:Fun K x qual st f fd) (S:FnScope N ps (zd st)):FnOk P w K mg base CX0 (k + 1) f fd ps (spD K n fun _=>none):=by
 refine F.ok S (fun vs H Q E h => ?_) (fun cdv A outer s H vs Q E hr h => ?_)
 ·obtain ⟨O,ds,d,_,r,hl,e,_⟩:=h
  cases e
 ·obtain ⟨O,ds,d,_,r,hl,e,_⟩:=h
  cases e
end
theorem zbF {K:Frag} {H:Hp}:∀ ns:List Int,Reps K H (ns.map PyData.int) (ns.map V.int)
 | []=>.nil
 | n :: ns=>.cons (.int n) (zbF ns)
theorem zfL {K:Frag} {H:Hp} {a:Addr} {ns:List Int} {f:List D→Option D} {E:XK} (hS:SqL K H a (ns.map V.int)) (h:f [scrD (ns.map PyData.int)]=some (.bool true)):spD K 1 f [.ref a] H (fun v _=>v=.bl true) E :=
 ⟨[],[scrD (ns.map PyData.int)],.bool true,fun p hp=>absurd hp (by simp),.cons (.scr (by rw [zgL];exact hS) (zbF ns)) .nil,rfl,h,fun v H' s b=>zc0 b⟩
theorem nd_ (l:List Str) (h:autoParam (l.Nodup) aTb):l.Nodup:=h
theorem zi {X:Cx} {e:Expr} {es:List Expr} {ga:Env'→Option D} {gr:Env'→Option (List D)} (hs:zfc e=true) (ha:PD X e ga) (hr:PAd X es gr):PAd X (e :: es) (zc ga gr):=zhc ha hr (yt hs)
theorem jf {X:Cx} {e:Expr} {es:List Expr} {ga:Env'→Option D} {gr:Env'→Option (List D)} (hs:zfc e=true) (ha:PB X e ga) (hr:PAb X es gr):PAb X (e :: es) (zc ga gr):=zhb ha hr (yt hs)
section
variable {X:Cx} {tg e:Expr} {pos:Pos}
theorem zr {h:GT} {ge:Env'→Option D} (hs:swapsWithSole [tg] e pos.line X.env=pure false) (hw:swappedStores [tg] e X.env=pure none) (h1:(assignEach [tg] X.env).map (·.2)=[assign tg X.env]) (hg:PGd X tg h) (he:PD X e ge):PSd X (.Assign [tg] e pos) (sAsg h ge):=zjs hg he hs hw h1
theorem yU {i:Nat} {ge:Env'→Option (List D)} (hs:swapsWithSole [tg] e pos.line X.env=pure false) (hw:swappedStores [tg] e X.env=pure none) (h1:(assignEach [tg] X.env).map (·.2)=[assign tg X.env]) (hg:PG X tg (zbg i)) (he:PFr X e ge):PSd X (.Assign [tg] e pos) (sOwn i ge):=zjv hg he hs hw h1
end
section
variable {X:Cx} {e:Expr} {pos:Pos} {st:Stmt}
theorem zj {i j}:PD X (.Constant (.int i) j pos) (gK (.int i)):=zkB
theorem kY {i j}:PD X (.Constant (.bool i) j pos) (gK (.bool i)):=zls
theorem PFr.d_ {g:Env'→Option (List D)} (h:PFr X e g):PD X e (gLs g):=PFr.d h
theorem zw {ge:Env'→Option D} (he:PD X e ge):PSd X (.Return (some e) pos) (sRet ge):=zjw he
theorem zbA {ge:Env'→Option D} (hs:swapsWith e none pos.line X.env=pure false) (he:PB X e ge):PSd X (.Expr e pos) (sExp ge):=zho he hs
theorem zhq {g:GS} (i:Nat) (h1:PSd X st g):PSd X st (sFrz i g):=zju i h1
theorem zfz {g:GS} (i:Nat) (h1:PSd X st g):PSd X st (zkZ i g):=zhp i h1
theorem zS:PIfd X [] qd:=zhk
end
end L2.Y
namespace L2.Y
open PySem PySem.Spec PyProof.Rows
theorem zkP {X:Cx} {st:Stmt}:PSd X st sNo:=by
 intro pins s σ H D I h
 obtain ⟨F,O,ρ,o,r,e,k⟩:=h
 cases e
end L2.Y
namespace L2.Y
open PySem PySem.Spec PyProof.Rows
noncomputable def ItzT (K:Frag) (a b:Addr):It :=
 ⟨fun i H=>∃ xs ys x y,SqT K H a xs∧SqT K H b ys∧xs[i]?=some x∧ys[i]?=some y,
   fun i H v H'=>∃ p x y,v=.ref p∧H p=none∧H'=upd H p (.tup [x,y])∧(∀ xs,SqT K H a xs→xs[i]?=some x)∧∀ ys,SqT K H b ys→ys[i]?=some y,
   fun i H=>∃ xs ys,SqT K H a xs∧SqT K H b ys∧(xs.length ≤ i ∨ ys.length ≤ i)⟩
theorem zax {X:Cx} {pins:List (Addr × Obj)} {σ:St} {H:Hp} {s:Shared} {h' : Heap} {tk:Nat} {fp:List Addr} (I:Inv X pins σ H s) (hf:∀ b ∈ fp,FpOk X pins H b) (k:∀ c o,c ∉ fp→s.heap.get? c=some o→h'.get? c=some o):Inv X pins σ H { s with heap:=h',toks:=tk }:=by
 refine I.call' (ch:=fp) rfl ⟨fun b u q _ _ hx=>k b u hx q,fun b u q _ _ hx=>⟨u.slots,k b u hx q⟩,fun b u q n _=>n,fun b u q hx=>⟨u,k b u hx q⟩,fun _ _ q=>q,fun _ _ _ q=>q,fun b ps q=>⟨#[],by rw [q];simp⟩⟩ (fun b u q => ?_) I.bare
  fun c hcm=>let ⟨_,f1,_,f3,f4,f5⟩:=hf c hcm;⟨f3,f1,f4,f5⟩
 refine (I.hok b u q).stay (fun c v hcc r=>k c v (fun zz => ?_) r) (fun c r=>r) fun c xs r=>r
 have z0:=(hf c zz).1
 rcases hcc with rfl | hcc
 ·rw [q] at z0;cases z0
 ·rw [hcc] at z0;cases z0
theorem vO {X:Cx} {pins:List (Addr × Obj)} {σ:St} {H:Hp} {s:Shared} {h' : Heap} {tk:Nat} {fp:List Addr} {x y:V} {ux uy:Value} (I:Inv X pins σ H s) (hf:∀ b ∈ fp,FpOk X pins H b) (k:∀ c o,c ∉ fp→s.heap.get? c=some o→h'.get? c=some o) (rx:RelV x ux) (ry:RelV y uy) (g:IsPair h' s.heap.objs.size ux uy) :
  Inv X pins σ (upd H s.heap.objs.size (.tup [x,y])) { s with heap:=h',toks:=tk }:=by
 have hfree:H s.heap.objs.size=none:=I.hok.fresh (Nat.le_refl _)
 have new:jG X.prog X.w (upd H s.heap.objs.size (.tup [x,y])) h' s.heap.objs.size (.tup [x,y]):=⟨by show 2 ≤ sizeLine;decide,[ux,uy],.cons rx (.cons ry .nil),⟨_,g,rfl,0,rfl⟩⟩
 exact I.call' (s':={ s with heap:=h',toks:=tk }) (ch:=fp) rfl (zjW k (Nat.le_refl _) hfree) (zgM I.hok k (fun c hcm=>(hf c hcm).1) hfree new) I.bare fun c hcm=>let ⟨_,f1,_,f3,f4,f5⟩:=hf c hcm;⟨f3,f1,f4,f5⟩
theorem zf8 {P:Program} {w:World} {K:Frag} {elts:List Expr} {k:Nat} {pos:Pos} {z TI TO i1 i2 a b:Addr} (D:ZipApart z TI TO i1 i2 a b):Turn P w K (.Tuple elts k pos) (ItzT K a b) [z,TI,TO,i1,i2] z
  (fun i h=>IsZip h z TI TO .none∧IsPair h TI (.ref i1) (.ref i2)∧(∃ u v,IsPair h TO u v)∧h.IsTupleIter i1 a i∧h.IsTupleIter i2 b i) where
 mem:=by simp
 obj:=fun i h st c hc=>by
  obtain ⟨s1,s2,⟨u,v,s3⟩,⟨o4,e4,c4,d4⟩,⟨o5,e5,c5,d5⟩⟩:=st
  simp only [List.mem_cons,List.mem_nil_iff,or_false] at hc
  rcases hc with rfl | rfl | rfl | rfl | rfl
  ·exact ⟨_,s1,fun v q=>by have q' : Data.fields _=Data.cell v:=q;cases q'⟩
  ·exact ⟨_,s2,fun v q=>by have q' : Data.seq _ _=Data.cell v:=q;cases q'⟩
  ·exact ⟨_,s3,fun v q=>by have q' : Data.seq _ _=Data.cell v:=q;cases q'⟩
  ·exact ⟨o4,e4,fun v q=>by rw [d4] at q;cases q⟩
  ·exact ⟨o5,e5,fun v q=>by rw [d5] at q;cases q⟩
 keep:=fun i h h' st kk=>by
  obtain ⟨s1,s2,⟨u,v,s3⟩,s4,s5⟩:=st
  exact ⟨kk z (by simp) _ s1,kk TI (by simp) _ s2,⟨u,v,kk TO (by simp) _ s3⟩,xJ s4 fun o e=>kk i1 (by simp) o e,xJ s5 fun o e=>kk i2 (by simp) o e⟩
 item:=by
  intro X hP hw hK hc i pins s σ H E I hf st hg
  subst hP hw hK
  obtain ⟨s1,s2,⟨u,v,s3⟩,s4,s5⟩:=st
  obtain ⟨xs,ys,x,y,q1,q2,hx,hy⟩:=hg
  obtain ⟨its,rv,p,hz⟩:=I.tuple q1
  obtain ⟨its',rv',p',hz'⟩:=I.tuple q2
  obtain ⟨ux,hux,rux⟩:=rv.get hx
  obtain ⟨uy,huy,ruy⟩:=rv'.get hy
  have hfree:H s.heap.objs.size=none:=I.hok.fresh (Nat.le_refl _)
  refine zdO D ⟨s1,s2,s3,s4,s5,(show s.heap.IsTuple a its.toArray from p),(show s.heap.IsTuple b its'.toArray from p')⟩ (x:=ux) (y:=uy) (by simpa using hux) (by simpa using huy) fun h' a1 a2 a3 a4 a5 hk => ?_
  refine ⟨_,rfl,wpAny_letOwnedTupleGo_zip (s:={ s with heap:=h' }) a1 fun h'' b1 sb => ?_⟩
  have hTz:s.heap.objs.size ≠ z:=Nat.ne_of_gt (Heap.lt_size s1)
  have keep2:∀ c o,c ∉ [z,TI,TO,i1,i2]→s.heap.get? c=some o→h''.get? c=some o:=fun c o hcn e=>by
   simp only [List.mem_cons,List.mem_nil_iff,or_false,not_or] at hcn
   exact (sb.2 c hcn.1).trans (hk c o hcn.1 hcn.2.2.1 hcn.2.2.2.1 hcn.2.2.2.2 e)
  have g5:IsPair h'' s.heap.objs.size ux uy:=(sb.2 _ hTz).trans a5
  refine ⟨.ref s.heap.objs.size,_,vO (s:=s) (tk:=s.toks) I hf keep2 rux ruy g5,rfl,⟨_,x,y,rfl,hfree,rfl,fun xs' h1=>by rw [I.tuple_inj h1 q1];exact hx,fun ys' h2=>by rw [I.tuple_inj h2 q2];exact hy⟩,
   ⟨b1,(sb.2 TI D.TIz).trans (hk TI _ D.TIz D.TITO D.TIi1 D.TIi2 s2),⟨_,_,(sb.2 TO D.TOz).trans a2⟩,xJ a3 (fun o e=>(sb.2 i1 D.i1z).trans e),xJ a4 fun o e=>(sb.2 i2 D.i2z).trans e⟩,fun c hcm => ?_⟩
  have lt:∃ o,s.heap.get? c=some o:=by
   simp only [List.mem_cons,List.mem_nil_iff,or_false] at hcm
   rcases hcm with rfl | rfl | rfl | rfl | rfl
   ·exact ⟨_,s1⟩
   ·exact ⟨_,s2⟩
   ·exact ⟨_,s3⟩
   ·obtain ⟨o,e,_⟩:=s4;exact ⟨o,e⟩
   ·obtain ⟨o,e,_⟩:=s5;exact ⟨o,e⟩
  obtain ⟨o,e⟩:=lt
  rw [zE (Nat.ne_of_lt (Heap.lt_size e))]
  exact (hf c hcm).1
 done:=by
  intro X hP hw hK hc i pins s σ H E I hf st hg
  subst hP hw hK
  obtain ⟨s1,s2,⟨u,v,s3⟩,s4,s5⟩:=st
  obtain ⟨xs,ys,q1,q2,hl⟩:=hg
  obtain ⟨its,rv,p,hz⟩:=I.tuple q1
  obtain ⟨its',rv',p',hz'⟩:=I.tuple q2
  have l1:=rv.length
  have l2:=rv'.length
  refine zdN (I.ok.hd hc) D ⟨s1,s2,s3,s4,s5,(show s.heap.IsTuple a its.toArray from p),(show s.heap.IsTuple b its'.toArray from p')⟩ (hl.imp (fun q=>by simp;omega) fun q=>by simp;omega) fun h' hk=>⟨rfl,zax (s:=s) (tk:=s.toks) I hf fun c o hcn e => ?_⟩
  simp only [List.mem_cons,List.mem_nil_iff,or_false,not_or] at hcn
  exact hk c o hcn.1 hcn.2.2.1 hcn.2.2.2.1 hcn.2.2.2.2 e
 self:=fun _ _ _ _ _ st h=>wpAny_pyIter_zip st.1 h
theorem zgT {K:Frag} {B:Hp} {a b:Addr} {xs ys:List V} {ds es:List D} (s1:SqT K B a xs) (r1:Reps K B ds xs) (s2:SqT K B b ys) (r2:Reps K B es ys):ItD K B (ItzT K a b) (zip2 ds es) where
 go:=fun i H s hi=>by
  obtain ⟨x,y,h1,h2,_⟩:=zaU ds es i (d:=(zip2 ds es)[i]) (by simp [hi])
  obtain ⟨v,g1,_⟩:=r1.get h1
  obtain ⟨u,g2,_⟩:=r2.get h2
  exact ⟨xs,ys,v,u,SqT.same s s1,SqT.same s s2,g1,g2⟩
 yld:=fun i H x H' d s hd y=>by
  obtain ⟨p,vx,vy,rfl,hp,rfl,f1,f2⟩:=y
  obtain ⟨dx,dy,h1,h2,rfl⟩:=zaU ds es i hd
  obtain ⟨d1,e1,q1⟩:=r1.getV (f1 xs (SqT.same s s1))
  obtain ⟨d2,e2,q2⟩:=r2.getV (f2 ys (SqT.same s s2))
  rw [h1] at e1;cases e1
  rw [h2] at e2;cases e2
  exact .new hp (.cons q1 (.cons q2 .nil))
 stop:=fun H s=>⟨xs,ys,SqT.same s s1,SqT.same s s2,by
  rw [zdd,r1.length,r2.length]
  omega⟩
section
variable {X:Cx}
theorem wJ {a b:Expr} {elts:List Expr} {k:Nat} {tpos p pos:Pos} {ga:Env'→Option (List D)} (hg:Gl X "zip") (hm:X.mg "zip" = none) (ha:PAd X [a,b] ga) (hs:autoParam (starEach [a,b] X.env=[(false,eval a X.env),(false,eval b X.env)]) aTc) (hs2:autoParam (starEach [b] X.env=[(false,eval b X.env)]) aTc) :
  PId X (.Tuple elts k tpos) (.Call (.Name "zip" p) [a,b] [] pos) (gItA zipT ga):=by
 intro pins s σ H R I hZq
 obtain ⟨F,O,ρ,ds,r,e,kk⟩:=hZq
 obtain ⟨as,e1,e2⟩:=Option.bind_eq_some_iff.mp e
 refine Call_ (xo I hg hm (by decide +kernel:bootBuiltins "zip" = some (.type "zip")) (PyProof.Rows.callWith_type1 (thn (ha pos pins s σ H (fun vs H1=>Same H H1∧Reps X.K (hide O H1) as vs) I ⟨F,O,ρ,as,r,e1,fun vs H1 s1 rb=>⟨s1,rb⟩⟩) fun us s1 ⟨vs,H1,I1,r1,sm,rb⟩ => ?_) (by rw [hs,hs2]) (by rw [hs2];rfl)))
 unfold zipT at e2
 split at e2
 ·cases e2
  cases rb with
  | cons b1 rb =>
   cases rb with
   | cons b2 rb =>
    cases rb
    cases r1 with
    | @cons _ u1 _ _ q1 rr =>
     cases rr with
     | @cons _ u2 _ _ q2 rr =>
      cases rr
      cases b1 with
      | @tup la xs d1 sq1 rs1 =>
       cases b2 with
       | @tup lb ys d2 sq2 rs2 =>
        obtain rfl:u1=Value.ref la:=q1
        obtain rfl:u2=Value.ref lb:=q2
        have t1:SqT X.K (hide O H1) la xs:=.inl (.inl sq1)
        have t2:SqT X.K (hide O H1) lb ys:=.inl (.inl sq2)
        obtain ⟨its,rv,p,_⟩:=I1.tuple (SqT.same jd t1)
        obtain ⟨its',rv',p',_⟩:=I1.tuple (SqT.same jd t2)
        have lta:la < s1.heap.objs.size:=by obtain ⟨o,e,_⟩:=p;exact Heap.lt_size e
        have ltb:lb < s1.heap.objs.size:=by obtain ⟨o,e,_⟩:=p';exact Heap.lt_size e
        refine zeh (show s1.heap.IsTuple la its.toArray from p) (show s1.heap.IsTuple lb its'.toArray from p') fun h' Z kp=>wpAny_pyIter_zip Z.z ?_
        refine ⟨_,[s1.heap.objs.size + 4,s1.heap.objs.size + 2,s1.heap.objs.size + 3,s1.heap.objs.size,s1.heap.objs.size + 1],_,_,H1,rfl,I1.kept (t':=s1.toks) kp,zf8 (zgl _ _ _ lta ltb),⟨Z.z,Z.ti,⟨_,_,Z.to⟩,Z.w1,Z.w2⟩,fun c hc => ?_,kk _ H1 sm (zgT t1 rs1 t2 rs2)⟩
        have le:s1.heap.objs.size ≤ c:=by
         simp only [List.mem_cons,List.mem_nil_iff,or_false] at hc
         have go:∀ n x:Nat,(x=n + 4 ∨ x=n + 2 ∨ x=n + 3 ∨ x=n ∨ x=n + 1)→n ≤ x:=fun n x h=>by omega
         exact go _ _ hc
        exact I1.fpOk le (I1.hok.fresh le)
 ·cases e2
end
theorem vC:∀ (ds:List D) (k i:Nat) {d:D},(qM k ds)[i]?=some d→∃ x,ds[i]?=some x∧d=.tuple [.int ((k + i:Nat):Int),x]
 | [],_,_,_,h=>by simp [qM] at h
 | x :: ds,k,0,d,h=>by simp [qM] at h;exact ⟨x,rfl,h.symm⟩
 | x :: ds,k,i + 1,d,h=>by
  obtain ⟨y,h1,h2⟩:=vC ds (k + 1) i (d:=d) (by simpa [qM] using h)
  exact ⟨y,by simpa using h1,by rw [h2,show k + 1 + i=k + (i + 1) by omega]⟩
theorem xH:∀ (ds:List D) (k:Nat),(qM k ds).length=ds.length
 | [],_=>rfl
 | x :: ds,k=>by rw [qM,List.length_cons,List.length_cons,xH ds]
end L2.Y
namespace L2.Y
open PySem PySem.Spec PyProof.Rows
noncomputable def Iet (K:Frag) (a:Addr):It :=
 ⟨fun i H=>∃ xs x,SqT K H a xs∧xs[i]?=some x,fun i H v H'=>∃ p x,v=.ref p∧H p=none∧H'=upd H p (.tup [.int i,x])∧∀ xs,SqT K H a xs→xs[i]?=some x,fun i H=>∃ xs,SqT K H a xs∧xs.length=i⟩
noncomputable def Iel (K:Frag) (a:Addr):It :=
 ⟨fun i H=>∃ xs x,SqL K H a xs∧xs[i]?=some x,fun i H v H'=>∃ p x,v=.ref p∧H p=none∧H'=upd H p (.tup [.int i,x])∧∀ xs,SqL K H a xs→xs[i]?=some x,fun i H=>∃ xs,SqL K H a xs∧xs.length=i⟩
theorem mem2 {b e it:Addr} (h:b ∈ [e,it]):b=e ∨ b=it:=by simpa using h
theorem zhW {P:Program} {w:World} {K:Frag} {elts:List Expr} {k:Nat} {pos:Pos} {e it a:Addr} (h1:e ≠ it) (h2:e ≠ a) (h3:a ≠ it):Turn P w K (.Tuple elts k pos) (Iet K a) [e,it] e (fun i h=>(∃ old,IsEnum h e it i old)∧h.IsTupleIter it a i) where
 mem:=by simp
 obj:=fun i h st b hb=>by
  obtain ⟨⟨old,s1⟩,⟨o,e2,c,d⟩⟩:=st
  rcases mem2 hb with rfl | rfl
  ·exact ⟨_,s1,fun v q=>by have q' : Data.fields _=Data.cell v:=q;cases q'⟩
  ·exact ⟨o,e2,fun v q=>by rw [d] at q;cases q⟩
 keep:=fun i h h' st kk=>⟨let ⟨old,s1⟩:=st.1;⟨old,kk e (by simp) _ s1⟩,xJ st.2 fun o q=>kk it (by simp) o q⟩
 item:=by
  intro X hP hw hK hc i pins s σ H E I hf st hg
  subst hP hw hK
  obtain ⟨⟨old,s1⟩,s2⟩:=st
  obtain ⟨xs,x,q1,hx⟩:=hg
  obtain ⟨its,rv,p,hz⟩:=I.tuple q1
  have hfree:H s.heap.objs.size=none:=I.hok.fresh (Nat.le_refl _)
  have hi:i < its.toArray.size:=by rw [List.size_toArray,← rv.length];exact (List.getElem?_eq_some_iff.mp hx).1
  refine wpAny_pyNext_enum_itemD (zbb (A:=X.A.in1) (show X.A.in1.handled=none from I.ok.hd hc) it a h3 its.toArray) s1 ⟨s2,(show s.heap.IsTuple a its.toArray from p)⟩ hi h1 (by simp [h1,h2]) fun u h' tk hu b1 b2 b3 b4 b5 => ?_
  refine ⟨_,rfl,wpAny_letOwnedTupleGo_enum (s:={ s with heap:=h',toks:=tk + 1 }) b1 fun h'' c1 sb => ?_⟩
  have hTe:s.heap.objs.size ≠ e:=Nat.ne_of_gt (Heap.lt_size s1)
  have ex:its[i]?=some u:=by simpa using hu
  obtain ⟨u',hv,rvu⟩:=rv.get hx
  rw [ex] at hv;cases hv
  have keep2:∀ c o,c ∉ [e,it]→s.heap.get? c=some o→h''.get? c=some o:=fun c o hcn q=>by
   simp only [List.mem_cons,List.mem_nil_iff,or_false,not_or] at hcn
   exact (sb.2 c hcn.1).trans (b5 c o hcn.1 hcn.2 q)
  have g5:IsPair h'' s.heap.objs.size (.int i tk) u:=(sb.2 _ hTe).trans b3
  refine ⟨.ref s.heap.objs.size,_,vO (s:=s) (tk:=tk + 1) (x:=.int i) (y:=x) I hf keep2 ⟨_,rfl⟩ rvu g5,rfl,⟨_,x,rfl,hfree,rfl,fun xs' q=>by rw [I.tuple_inj q q1];exact hx⟩,⟨⟨_,c1⟩,xJ b2.1 fun o q=>(sb.2 it h1.symm).trans q⟩,fun c hcm => ?_⟩
  have lt:∃ o,s.heap.get? c=some o:=by
   rcases mem2 hcm with rfl | rfl
   ·exact ⟨_,s1⟩
   ·obtain ⟨o,q,_⟩:=s2;exact ⟨o,q⟩
  obtain ⟨o,q⟩:=lt
  rw [zE (Nat.ne_of_lt (Heap.lt_size q))]
  exact (hf c hcm).1
 done:=by
  intro X hP hw hK hc i pins s σ H E I hf st hg
  subst hP hw hK
  obtain ⟨⟨old,s1⟩,s2⟩:=st
  obtain ⟨xs,q1,hl⟩:=hg
  obtain ⟨its,rv,p,hz⟩:=I.tuple q1
  have hi:i=its.toArray.size:=by rw [List.size_toArray,← rv.length];exact hl.symm
  subst hi
  exact wpAny_pyNext_enum_endD (zbb (A:=X.A.in1) (show X.A.in1.handled=none from I.ok.hd hc) it a h3 its.toArray) s1 ⟨s2,(show s.heap.IsTuple a its.toArray from p)⟩ fun h' eb=>⟨rfl,zax (s:=s) (tk:=s.toks) I hf fun c o hcn q=>eb c o (fun z=>hcn (by rw [z];simp)) q⟩
 self:=fun _ _ _ _ _ st h=>let ⟨_,s1⟩:=st.1;wpAny_pyIter_enum s1 h
theorem ziR {K:Frag} {B:Hp} {a:Addr} {xs:List V} {ds:List D} (s1:SqT K B a xs) (r1:Reps K B ds xs):ItD K B (Iet K a) (qM 0 ds) where
 go:=fun i H s hi=>by
  rw [xH] at hi
  obtain ⟨v,g1,_⟩:=r1.get (i:=i) (d:=ds[i]) (by simp [hi])
  exact ⟨xs,v,SqT.same s s1,g1⟩
 yld:=fun i H x H' d s hd y=>by
  obtain ⟨p,vx,rfl,hp,rfl,f1⟩:=y
  obtain ⟨dx,h1,rfl⟩:=vC ds 0 i hd
  obtain ⟨d1,e1,q1⟩:=r1.getV (f1 xs (SqT.same s s1))
  rw [h1] at e1;cases e1
  rw [Nat.zero_add]
  exact .new hp (.cons (.int _) (.cons q1 .nil))
 stop:=fun H s=>⟨xs,SqT.same s s1,by rw [xH,r1.length]⟩
theorem zhV {P:Program} {w:World} {K:Frag} {elts:List Expr} {k:Nat} {pos:Pos} {e it a:Addr} (h1:e ≠ it) (h2:e ≠ a) (h3:a ≠ it):Turn P w K (.Tuple elts k pos) (Iel K a) [e,it] e (fun i h=>(∃ old,IsEnum h e it i old)∧h.IsListIter it a i) where
 mem:=by simp
 obj:=fun i h st b hb=>by
  obtain ⟨⟨old,s1⟩,⟨o,e2,c,d⟩⟩:=st
  rcases mem2 hb with rfl | rfl
  ·exact ⟨_,s1,fun v q=>by have q' : Data.fields _=Data.cell v:=q;cases q'⟩
  ·exact ⟨o,e2,fun v q=>by rw [d] at q;cases q⟩
 keep:=fun i h h' st kk=>⟨let ⟨old,s1⟩:=st.1;⟨old,kk e (by simp) _ s1⟩,st.2.at fun o q=>kk it (by simp) o q⟩
 item:=by
  intro X hP hw hK hc i pins s σ H E I hf st hg
  subst hP hw hK
  obtain ⟨⟨old,s1⟩,s2⟩:=st
  obtain ⟨xs,x,q1,hx⟩:=hg
  obtain ⟨its,rv,p,hz⟩:=I.list q1
  have hfree:H s.heap.objs.size=none:=I.hok.fresh (Nat.le_refl _)
  have hi:i < its.toArray.size:=by rw [List.size_toArray,← rv.length];exact (List.getElem?_eq_some_iff.mp hx).1
  refine wpAny_pyNext_enum_itemD (Draws.list (A:=X.A.in1) (show X.A.in1.handled=none from I.ok.hd hc) it a h3 its.toArray) s1 ⟨s2,p.isList⟩ hi h1 (by simp [h1,h2]) fun u h' tk hu b1 b2 b3 b4 b5 => ?_
  refine ⟨_,rfl,wpAny_letOwnedTupleGo_enum (s:={ s with heap:=h',toks:=tk + 1 }) b1 fun h'' c1 sb => ?_⟩
  have hTe:s.heap.objs.size ≠ e:=Nat.ne_of_gt (Heap.lt_size s1)
  have ex:its[i]?=some u:=by simpa using hu
  obtain ⟨u',hv,rvu⟩:=rv.get hx
  rw [ex] at hv;cases hv
  have keep2:∀ c o,c ∉ [e,it]→s.heap.get? c=some o→h''.get? c=some o:=fun c o hcn q=>by
   simp only [List.mem_cons,List.mem_nil_iff,or_false,not_or] at hcn
   exact (sb.2 c hcn.1).trans (b5 c o hcn.1 hcn.2 q)
  have g5:IsPair h'' s.heap.objs.size (.int i tk) u:=(sb.2 _ hTe).trans b3
  refine ⟨.ref s.heap.objs.size,_,vO (s:=s) (tk:=tk + 1) (x:=.int i) (y:=x) I hf keep2 ⟨_,rfl⟩ rvu g5,rfl,⟨_,x,rfl,hfree,rfl,fun xs' q=>by rw [I.list_inj q q1];exact hx⟩,⟨⟨_,c1⟩,b2.1.at fun o q=>(sb.2 it h1.symm).trans q⟩,fun c hcm => ?_⟩
  have lt:∃ o,s.heap.get? c=some o:=by
   rcases mem2 hcm with rfl | rfl
   ·exact ⟨_,s1⟩
   ·obtain ⟨o,q,_⟩:=s2;exact ⟨o,q⟩
  obtain ⟨o,q⟩:=lt
  rw [zE (Nat.ne_of_lt (Heap.lt_size q))]
  exact (hf c hcm).1
 done:=by
  intro X hP hw hK hc i pins s σ H E I hf st hg
  subst hP hw hK
  obtain ⟨⟨old,s1⟩,s2⟩:=st
  obtain ⟨xs,q1,hl⟩:=hg
  obtain ⟨its,rv,p,hz⟩:=I.list q1
  have hi:i=its.toArray.size:=by rw [List.size_toArray,← rv.length];exact hl.symm
  subst hi
  exact wpAny_pyNext_enum_endD (Draws.list (A:=X.A.in1) (show X.A.in1.handled=none from I.ok.hd hc) it a h3 its.toArray) s1 ⟨s2,p.isList⟩ fun h' eb=>⟨rfl,zax (s:=s) (tk:=s.toks) I hf fun c o hcn q=>eb c o (fun z=>hcn (by rw [z];simp)) q⟩
 self:=fun _ _ _ _ _ st h=>let ⟨_,s1⟩:=st.1;wpAny_pyIter_enum s1 h
theorem ziQ {K:Frag} {B:Hp} {a:Addr} {xs:List V} {ds:List D} (s1:SqL K B a xs) (r1:Reps K B ds xs):ItD K B (Iel K a) (qM 0 ds) where
 go:=fun i H s hi=>by
  rw [xH] at hi
  obtain ⟨v,g1,_⟩:=r1.get (i:=i) (d:=ds[i]) (by simp [hi])
  exact ⟨xs,v,SqL.same s s1,g1⟩
 yld:=fun i H x H' d s hd y=>by
  obtain ⟨p,vx,rfl,hp,rfl,f1⟩:=y
  obtain ⟨dx,h1,rfl⟩:=vC ds 0 i hd
  obtain ⟨d1,e1,q1⟩:=r1.getV (f1 xs (SqL.same s s1))
  rw [h1] at e1;cases e1
  rw [Nat.zero_add]
  exact .new hp (.cons (.int _) (.cons q1 .nil))
 stop:=fun H s=>⟨xs,SqL.same s s1,by rw [xH,r1.length]⟩
section
variable {X:Cx}
theorem wH {a:Expr} {elts:List Expr} {k:Nat} {tpos p pos:Pos} {ga:Env'→Option (List D)} (hg:Gl X "enumerate") (hm:X.mg "enumerate" = none) (ha:PAd X [a] ga) (hs:autoParam (starEach [a] X.env=[(false,eval a X.env)]) aTc) :
  PId X (.Tuple elts k tpos) (.Call (.Name "enumerate" p) [a] [] pos) (gItA zew ga):=by
 intro pins s σ H R I hZq
 obtain ⟨F,O,ρ,ds,r,e,kk⟩:=hZq
 obtain ⟨as,e1,e2⟩:=Option.bind_eq_some_iff.mp e
 refine Call_ (xo I hg hm (by decide +kernel:bootBuiltins "enumerate" = some (.type "enumerate")) (PyProof.Rows.callWith_type1 (thn (ha pos pins s σ H (fun vs H1=>Same H H1∧Reps X.K (hide O H1) as vs) I ⟨F,O,ρ,as,r,e1,fun vs H1 s1 rb=>⟨s1,rb⟩⟩) fun us s1 ⟨vs,H1,I1,r1,sm,rb⟩ => ?_) (by rw [hs];rfl) (by rfl)))
 have apart:∀ {n c:Nat},c ∈ [n + 1,n]→n ≤ c:=fun {n c} h=>by
  have:c=n + 1 ∨ c=n:=by simpa using h
  omega
 unfold zew at e2
 split at e2
 ·cases e2
  obtain ⟨v,rfl,b1⟩:=rb.inv1
  obtain ⟨u,rfl,q1⟩:=vals1 r1
  cases b1 with
  | @tup la xs d1 sq1 rs1 =>
   obtain rfl:u=Value.ref la:=q1
   have t1:SqT X.K (hide O H1) la xs:=.inl (.inl sq1)
   obtain ⟨its,rv,p,_⟩:=I1.tuple (SqT.same jd t1)
   have lta:la < s1.heap.objs.size:=by obtain ⟨o,e,_⟩:=p;exact Heap.lt_size e
   refine zdg (show s1.heap.IsTuple la its.toArray from p) fun h' g1 g2 kp=>wpAny_pyIter_enum g1 ?_
   refine ⟨_,[s1.heap.objs.size + 1,s1.heap.objs.size],_,_,H1,rfl,I1.kept (t':=s1.toks) kp,zhW (Nat.succ_ne_self _) (Nat.ne_of_gt (Nat.lt_succ_of_lt lta)) (Nat.ne_of_lt lta),⟨⟨_,g1⟩,g2⟩,fun c hc=>I1.fpOk (apart hc) (I1.hok.fresh (apart hc)),kk _ H1 sm (ziR t1 rs1)⟩
 ·cases e2
  obtain ⟨v,rfl,b1⟩:=rb.inv1
  obtain ⟨u,rfl,q1⟩:=vals1 r1
  cases b1 with
  | @lst la xs d1 sq1 rs1 =>
   obtain rfl:u=Value.ref la:=q1
   have t1:SqL X.K (hide O H1) la xs:=.inl sq1
   obtain ⟨z,its,n,rv,p⟩:=zcZ I1 (Rd.same jd sq1)
   have lta:la < s1.heap.objs.size:=Heap.lt_size p
   refine call_enumerate_1 p fun h' g1 g2 _ kp=>wpAny_pyIter_enum g1 ?_
   refine ⟨_,[s1.heap.objs.size + 1,s1.heap.objs.size],_,_,H1,rfl,I1.kept (t':=s1.toks) kp,zhV (Nat.succ_ne_self _) (Nat.ne_of_gt (Nat.lt_succ_of_lt lta)) (Nat.ne_of_lt lta),⟨⟨_,g1⟩,g2⟩,fun c hc=>I1.fpOk (apart hc) (I1.hok.fresh (apart hc)),kk _ H1 sm (ziQ t1 rs1)⟩
 ·cases e2
end
end L2.Y
namespace L2.Y
open PySem PySem.Spec PyProof.Rows
section
variable {X:Cx}
theorem zgG:PGet X (rIxL X.K):=by
 intro pins s σ H x y v u Q I rx ry h
 obtain ⟨p,xs,i,z,rfl,rfl,hq,he,q⟩:=h
 cases rx
 obtain ⟨t,rfl⟩:=ry
 obtain ⟨its,r,pl,hz⟩:=I.list hq
 obtain ⟨j,h1,h2,h3,h4,h5⟩:=L2.atI_get he
 obtain ⟨w,ew,rw'⟩:=r.get h2
 have hl:=r.length
 have hn:=vU
 have fin:EP X pins σ Q w s:=⟨z,H,I,rw',q⟩
 by_cases h0:0 ≤ i
 ·have hj:i.toNat=j:=by
   rw [seqIndex_of h0 h5] at h1
   exact Option.some.inj h1
  exact wpAny_getItem_list pl.isList h0 (by omega) (by rw [hj];simpa using ew) fin
 ·have hj:(i + (its.toArray.size:Int)).toNat=j:=by
   rw [seqIndex_neg (by omega) h4] at h1
   rw [List.size_toArray,← hl]
   exact Option.some.inj h1
  exact wpAny_getItem_list_neg pl.isList (by omega) (by rw [List.size_toArray] <;> omega) (by omega) (by rw [hj];simpa using ew) fin
theorem zgt {α:Type} {xs:List α} {j:Int} {x:α} (h:atI xs j=some x):∃ n,ixN xs.length j=some n∧xs[n]?=some x:=Option.bind_eq_some_iff.mp h
theorem zhm {i:Nat} {x:Str} {e ix:Expr} {p spos pos:Pos} {gi ge:Env'→Option D} (hv:PE X (.Name x p) (tVar i)) (hi:PB X ix gi) (he:PD X e ge)
  (ha:autoParam (∀ ov iv new,augStore ix ov iv new=(do holding [new,ov,iv] (setItem ov iv new);release [new,ov,iv] [];pure .next)) aTd):PSd X (.AugAssign (.Subscript (.Name x p) ix spos) .Add e pos) (zhD i addI gi ge) :=
 PS.imp (zjq hv hi zgG he zid set_list ha) fun D σ H hZq=>by
  obtain ⟨F,O,ρ,out,r,e,k⟩:=hZq
  obtain ⟨kd,e1,e2⟩:=Option.bind_eq_some_iff.mp e
  split at e2
  ·rename_i j
   obtain ⟨ds,e3,e4⟩:=Option.bind_eq_some_iff.mp e2
   obtain ⟨dx,e5,e6⟩:=Option.bind_eq_some_iff.mp e4
   obtain ⟨dy,e7,e8⟩:=Option.bind_eq_some_iff.mp e6
   obtain ⟨dz,e9,e10⟩:=Option.bind_eq_some_iff.mp e8
   obtain ⟨n,e11,e12⟩:=Option.bind_eq_some_iff.mp e10
   cases e12
   have ho:=wF e3
   obtain ⟨q,g1,g2,g3,g4⟩:=r.own i _ ho
   cases g4 with
   | lst hq rq =>
    rename_i xs
    refine ⟨_,g1,F,O,ρ,_,r,e1,fun iv H1 s1 b1 => ?_⟩
    cases b1.int
    obtain ⟨m,hm1,hm2⟩:=zgt e5
    rw [e11] at hm1;cases hm1
    obtain ⟨vx,hx1,hx2⟩:=rq.get hm2
    refine ⟨q,xs,j,vx,rfl,rfl,.inl (.inl (s1 _ _ hq)),by unfold atI;rw [← rq.length,e11];exact hx1,F,O,ρ,dy,r.same s1,e7,fun vy H2 s2 b2 => ?_⟩
    have hadd:∃ a b,dx=.int a∧dy=.int b∧dz=.int (a + b):=by
     unfold addI xN at e9
     split at e9
     ·rename_i a b
      cases e9
      exact ⟨a,b,rfl,rfl,rfl⟩
     ·cases e9
    obtain ⟨a,b,rfl,rfl,rfl⟩:=hadd
    cases hx2
    cases b2
    refine ⟨a,b,rfl,rfl,q,xs,j,n,rfl,rfl,s2 _ _ (s1 _ _ hq),by rw [← rq.length];exact e11,?_⟩
    refine k O σ _ (((r.same s1).same s2).mut ho g1 (.lst jh ?_))
    rw [je g2]
    exact (rq.same (zR (s1.trans s2))).set n (.int _)
  ·cases e2
theorem zkK {a b:Expr} {pos:Pos} {gl:Env'→Option (List D)} {gb:Env'→Option D} (ha:PFr X a gl) (hb:PB X b gb):PFr X (.BinOp a .Mult b pos) (gF2 mulL (gLs gl) gb) :=
 PE.imp (zkH zkw ha hb) fun σ H Q hZq=>by
  obtain ⟨F,O,ρ,es,r,e,k⟩:=hZq
  obtain ⟨dl,e1,e2⟩:=Option.bind_eq_some_iff.mp e
  obtain ⟨db,e3,e4⟩:=Option.bind_eq_some_iff.mp e2
  obtain ⟨ds,e5,rfl⟩:=Option.map_eq_some_iff.mp e1
  unfold mulL at e4
  split at e4
  ·rename_i ds' kk q
   cases q
   unfold repD at e4
   split at e4
   ·rename_i hc
    cases e4
    refine ⟨F,O,ρ,ds,r,e5,fun p xs H1 s1 hp b1 => ?_⟩
    have sm:=s1.trans (jg (o:=.lst xs) hp)
    refine ⟨F,O,ρ,_,r.same sm,e3,fun v H2 s2 b2 => ?_⟩
    cases b2.int
    refine ⟨p,kk,xs,rfl,rfl,s2 _ _ jh,hc.1,hc.2.1,by rw [← b1.length];exact hc.2.2,fun q hq=>k q _ H2 (sm.trans s2) hq ?_⟩
    exact (b1.same (zR ((jg hp).trans s2))).rep kk.toNat
   ·cases e4
  ·cases e4
end
end L2.Y
namespace L2.Y
open PySem PySem.Spec PySem.Calls PyProof.Rows PySem.W
theorem zc1 {K:PySem.W.Frag} {H:Hp} (lo:Int):∀ l:List Nat,Reps K H (l.map fun (k:Nat)=>.int (lo + k)) (l.map fun (k:Nat)=>V.int (lo + k))
 | []=>.nil
 | k :: l=>.cons (.int _) (zc1 lo l)
theorem zge {P:Nat→Value→Prop} {f:Nat→V} (hp:∀ i v,P i v→RelV (f i) v):∀ (l:List Value) (i:Nat),(∀ j v,l[j]?=some v→P (i + j) v)→Vals ((List.range' i l.length).map f) l
 | [],_,_=>.nil
 | v :: l,i,h=>by
  have h0:=h 0 v rfl
  have h1:=zge hp l (i + 1) fun j w hj=>by have:=h (j + 1) w (by simpa using hj);rwa [show i + (j + 1)=i + 1 + j by omega] at this
  rw [List.length_cons,List.range'_succ,List.map_cons]
  exact .cons (hp i v h0) h1
section
variable {X:Cx}
theorem zfo {a b:Expr} {ga:Env'→Option (List D)} {p pos p2 pos2:Pos} (hc:X.calm=true) (hgl:Gl X "list") (hml:X.mg "list" = none) (hbl:bootBuiltins "list" = some (.type "list")) (hgr:Gl X "range") (hmr:X.mg "range" = none) (ha:PAd X [a,b] ga)
  (hs:autoParam (starEach [a,b] X.env=[(false,eval a X.env),(false,eval b X.env)]) aTc) (hs2:autoParam (starEach [b] X.env=[(false,eval b X.env)]) aTc)
  (hs3:autoParam (starEach [.Call (.Name "range" p2) [a,b] [] pos2] X.env=[(false,eval (.Call (.Name "range" p2) [a,b] [] pos2) X.env)]) aTc) :
  PFr X (.Call (.Name "list" p) [.Call (.Name "range" p2) [a,b] [] pos2] [] pos) (gLst (gItA qE ga)):=by
 intro pins s σ H Q I hZq
 obtain ⟨F,O,ρ,ds,r,e,k⟩:=hZq
 obtain ⟨ds',e1,e2⟩:=Option.bind_eq_some_iff.mp e
 obtain ⟨as,e3,e4⟩:=Option.bind_eq_some_iff.mp e1
 split at e2
 case isFalse=>cases e2
 rename_i hlen
 cases e2
 unfold qE at e4
 split at e4
 case h_2=>cases e4
 rename_i i j
 split at e4
 case isFalse=>cases e4
 rename_i hb
 cases e4
 have hn:(zT i (j - i).toNat).length=(j - i).toNat:=qC _ _
 rw [hn] at hlen
 refine wpAny_Call_Name_kw (xo I hgl hml hbl ?_)
 refine PyProof.Rows.callWith_type1 ?_ hs3 rfl
 rw [hs3]
 refine Calls.spliced_cons ?_
 refine Call_ (xo I hgr hmr boot_range (PyProof.Rows.callWith_type1 (thn (ha pos2 pins s σ H (fun vs H1=>vs=[.int i,.int j]∧Same H H1) I ⟨F,O,ρ,[.int i,.int j],r,e3,fun vs H' sm rb=>⟨by
  cases rb with
  | cons r1 rb =>
   obtain ⟨v,rfl,rv⟩:=rb.inv1
   cases r1
   cases rv
   rfl,sm⟩⟩) fun us s1 ⟨vs,H1,I1,r1,q1,sm⟩ => ?_) (by rw [hs,hs2]) (by rw [hs2];rfl)))
 subst q1
 cases r1 with
 | cons r1 rr =>
  cases rr with
  | cons r2 rr =>
   cases rr
   obtain ⟨t,rfl⟩:=r1
   obtain ⟨t',rfl⟩:=r2
   refine call_range_2 (Calls.spliced_nil ?_)
   have I2:Inv X pins σ H1 { s1 with heap:=s1.heap.push { cls:=.type "range",data:=.fields #[.int i t,.int j t',.int 1 s1.toks] },toks:=s1.toks + 1 }:=I1.kept fun b o e=>Heap.get?_push_of_some _ e
   refine call_list_range (n:=(j - i).toNat) (I.ok.hd hc) (IsRange.new ..) (small_one hb.1 hb.2.1 hb.2.2.1 hb.2.2.2) (by rw [rangeSize_one];split <;> omega) hlen fun h' tk acc' c' kp el hit => ?_
   have hv:Vals ((List.range (j - i).toNat).map fun (m:Nat)=>V.int (i + m)) acc'.toList:=by
    have:=zge (P:=fun (m:Nat) v=>∃ t,v=.int (i + m * 1) t) (f:=fun m=>V.int (i + m)) (fun m v ⟨t,e⟩=>⟨t,by rw [e,Int.mul_one]⟩) acc'.toList 0 fun m v hm=>by rw [Nat.zero_add];exact hit.2 m v (by simpa using hm)
    rw [show acc'.toList.length=(j - i).toNat by rw [Array.length_toList];exact hit.1,← List.range_eq_range'] at this
    exact this
   refine ⟨.ref _,_,I2.laid (o:=.lst ((List.range (j - i).toNat).map fun (m:Nat)=>V.int (i + m))) kp (Nat.le_refl _) ?_,rfl,?_⟩
   ·exact ⟨by rw [List.length_map,List.length_range];exact hlen,acc'.toList,c',hv,by simpa using el⟩
   ·exact k _ _ _ sm (I2.hok.fresh (Nat.le_refl _)) (zc1 i _)
end
end L2.Y
namespace L2.Y
open PySem PySem.Spec PyProof.Rows
theorem pgn {X:Cx} {i:Nat} {x:Str} {pos:Pos} (nd:X.N.Nodup) (hi:autoParam (X.N[i]?=some x) aTc) (hx:autoParam (Loc X.env.scope x) aTa) (hf:autoParam (X.fn x=true ∨ X.env.scope.names.lookup x=some .local) aTa):PG X (.Name x pos) (zbg i):=zJ nd hi hx hf
theorem us1 {us:List Value} (h:us.length=1):∃ a,us=[a]:=List.length_eq_one_iff.mp h
theorem usC {us:List Value} {n:Nat} (h:us.length=n + 1):∃ a r,us=a :: r∧r.length=n:=by
 cases us with
 | nil=>cases h
 | cons a r=>exact ⟨a,r,rfl,Nat.succ.inj h⟩
theorem us2 {us:List Value} (h:us.length=2):∃ a b,us=[a,b]:=by
 obtain ⟨a,r,rfl,hr⟩:=usC h
 obtain ⟨b,rfl⟩:=us1 hr
 exact ⟨a,b,rfl⟩
theorem us3 {us:List Value} (h:us.length=3):∃ a b c,us=[a,b,c]:=by
 obtain ⟨a,r,rfl,hr⟩:=usC h
 obtain ⟨b,c,rfl⟩:=us2 hr
 exact ⟨a,b,c,rfl⟩
end L2.Y
namespace L2.Y
open PySem PySem.Spec PyProof.Rows PySem.W
section
variable {X:Cx}
theorem zhn {i:Nat} {x:Str} {e:Expr} {pos' pos:Pos} {g:Env'→Option D} (nd:X.N.Nodup) (he:PD X e g) (hi:autoParam (X.N[i]?=some x) aTc) (hx:autoParam (Loc X.env.scope x) aTa)
  (hf:autoParam (X.fn x=true ∨ X.env.scope.names.lookup x=some .local) aTa):PSd X (.AugAssign (.Name x pos') .Add e pos) (zfH i g) :=
 PS.imp (zkN nd hi hx he zid hf) fun D σ H hZq=>by
  obtain ⟨F,O,ρ,out,r,e,k⟩:=hZq
  obtain ⟨d,e1,e2⟩:=Option.bind_eq_some_iff.mp e
  obtain ⟨y,e3,e4⟩:=Option.bind_eq_some_iff.mp e2
  obtain ⟨z,e5,e6⟩:=Option.bind_eq_some_iff.mp e4
  cases e6
  unfold gVar at e1
  split at e1
  case h_2=>cases e1
  rename_i d' q
  cases e1
  have hadd:∃ a b,d=.int a∧y=.int b∧z=.int (a + b):=by
   unfold addI xN at e5
   split at e5
   ·rename_i a b
    cases e5
    exact ⟨a,b,rfl,rfl,rfl⟩
   ·cases e5
  obtain ⟨a,b,rfl,rfl,rfl⟩:=hadd
  obtain ⟨v,h1,h2⟩:=r.val i _ q
  cases h2
  refine ⟨_,h1,F,O,ρ,_,r,e3,fun w H1 s1 b1 => ?_⟩
  cases b1
  exact ⟨a,b,rfl,rfl,k O _ _ ((r.same s1).setVal (.int _))⟩
end
section
variable {prog:Program} {w:World} {A:Around} {E:Value→Shared→Prop} {s:Shared} {xs:Array (Int × Tok)}
theorem zds {t:Addr} {Q:Value→Shared→Prop} (hh:A.handled=none) (ht:s.heap.IsTuple t (intItems xs)) (hne:0 < xs.size)
  (h:∀ v h' tk,(intItems xs)[argBest (fun i j=>decide (numAt xs i < numAt xs j)) (xs.size - 1)]?=some v→(∀ b o,s.heap.get? b=some o→h'.get? b=some o)→Q v { s with heap:=h',toks:=tk }) :
  wpAny (model prog w) A (call (.builtin "min") [.ref t]) Q E s:=by
 obtain ⟨o,ho,hc,n,hd⟩:=id ht
 have hne' : t ≠ s.heap.objs.size:=Nat.ne_of_lt (Heap.lt_size ho)
 refine call_min_walk (wpAny_pyIter_tuple ht ?_)
 refine ⟨_,[_,t],[_],_,_,_,_,rfl,Walks.tuple (A:=A.in1) hh _ t hne' (intItems xs),⟨⟨_,Heap.get?_push_size _ rfl,rfl,rfl⟩,ht.push _⟩,fun c hc => ?_,by simpa [intItems] using hne,CmpOf.ints_lt (numAt xs) (fun _ _=>intItems_at),fun v h' tk hP hk => ?_⟩
 ·show c < (s.heap.push _).objs.size
  rw [Heap.size_push]
  rcases List.mem_cons.mp hc with rfl | hc
  ·exact Nat.lt_succ_self _
  ·rw [List.mem_singleton.mp hc];exact Nat.lt_succ_of_lt (Heap.lt_size ho)
 ·refine h v h' tk (by simpa [intItems] using hP) fun b o e=>hk b o (fun hm => ?_) (Heap.get?_push_of_some _ e)
  exact Nat.lt_irrefl _ ((List.mem_singleton.mp hm) ▸ Heap.lt_size e)
end
section
variable {X:Cx}
theorem wv {f g:Nat→Nat→Bool}:∀ n,(∀ i j,i ≤ n→j ≤ n→f i j=g i j)→argBest f n=argBest g n∧argBest f n ≤ n
 | 0,_=>⟨rfl,Nat.le_refl _⟩
 | n + 1,h=>by
  obtain ⟨e,l⟩:=wv n fun i j hi hj=>h i j (by omega) (by omega)
  unfold argBest
  rw [← e,← h (n + 1) (argBest f n) (by omega) (by omega)]
  refine ⟨rfl,?_⟩
  split <;> omega
theorem zdi (hc:X.calm=true):wX X (.builtin "min") zg7:=by
 intro pins s σ H O xs us ds d Q I hO rv bs e k
 have key:∀ {is:List Int} {its:List Value} {v:Value} {h' : Heap} {tk:Nat} {zs:Array (Int × Tok)},is ≠ []→IntsAre its is→its.toArray=intItems zs→d=.int (minA is)→(intItems zs)[argBest (fun i j=>decide (numAt zs i < numAt zs j)) (zs.size - 1)]?=some v→(∀ b o,s.heap.get? b=some o→h'.get? b=some o)→EP X pins σ Q v { s with heap:=h',toks:=tk }:=fun {is its v h' tk zs} ne hi hx ed hv hk=>by
  have e1:is=zs.toList.map (·.1):=by
   rw [← nums_intItems,← hx]
   exact (show numsOf its.toArray.toList=is from hi.numsOf).symm
  have el:is.length=zs.size:=by rw [e1];simp
  have en:∀ i,i < zs.size→numAt zs i=is.getD i 0:=fun i hi=>by
   rw [e1]
   unfold numAt
   simp [hi]
  have hpos:0 < zs.size:=by rw [← el];exact List.length_pos_iff.mpr ne
  obtain ⟨eb,lb⟩:=wv (f:=fun i j=>decide (numAt zs i < numAt zs j)) (g:=fun i j=>decide (is.getD i 0 < is.getD j 0)) (zs.size - 1) fun i j hi hj=>by
   show decide _=decide _
   rw [en i (by omega),en j (by omega)]
  have hb:argBest (fun i j=>decide (numAt zs i < numAt zs j)) (zs.size - 1) < zs.size:=by omega
  have hv' : ∃ t,v=.int (numAt zs (argBest (fun i j=>decide (numAt zs i < numAt zs j)) (zs.size - 1))) t:=intItems_at hv
  obtain ⟨t,rfl⟩:=hv'
  have em:numAt zs (argBest (fun i j=>decide (numAt zs i < numAt zs j)) (zs.size - 1))=minA is:=by
   rw [en _ hb,eb]
   unfold minA
   rw [el]
  rw [em]
  subst ed
  exact zcz (I.kept (t':=tk) hk) k
 unfold zg7 at e
 split at e
 ·obtain ⟨is,e1,e2⟩:=Option.bind_eq_some_iff.mp e
  split at e2
  ·cases e2
  rename_i ne
  cases e2
  cases qe e1
  obtain ⟨v,rfl,b⟩:=bs.inv1
  obtain ⟨a,ys,rfl,sq,rs⟩:=b.tup
  obtain ⟨u,rfl,ru⟩:=vals1 rv
  obtain rfl:u=Value.ref a:=ru
  obtain ⟨its,r,pl,hz⟩:=I.tuple sq
  have hi:=zaw rs r
  obtain ⟨zs,hx⟩:=hi.allInts.items
  have hl' : s.heap.IsTuple a (intItems zs):=hx ▸ pl
  have hp:0 < zs.size:=by
   have h1:its.toArray.size=zs.size:=by rw [hx];simp [intItems]
   have h2:its.toArray.size=its.length:=by simp
   have l:=hi.length
   have h3:is.length ≠ 0:=fun z=>ne (List.length_eq_zero_iff.mp z)
   omega
  exact zds (I.ok.hd hc) hl' hp fun v h' tk hv hk=>key ne hi hx rfl hv hk
 ·obtain ⟨is,e1,e2⟩:=Option.bind_eq_some_iff.mp e
  split at e2
  ·cases e2
  rename_i ne
  cases e2
  cases qe e1
  obtain ⟨v,rfl,b⟩:=bs.inv1
  obtain ⟨a,ys,rfl,sq,rs⟩:=b.lst
  obtain ⟨u,rfl,ru⟩:=vals1 rv
  obtain rfl:u=Value.ref a:=ru
  obtain ⟨its,r,pl,hz⟩:=I.list sq
  have hi:=zaw rs r
  obtain ⟨zs,hx⟩:=hi.allInts.items
  have hl' : s.heap.IsList a (intItems zs):=hx ▸ pl.isList
  have hp:0 < zs.size:=by
   have h1:its.toArray.size=zs.size:=by rw [hx];simp [intItems]
   have h2:its.toArray.size=its.length:=by simp
   have l:=hi.length
   have h3:is.length ≠ 0:=fun z=>ne (List.length_eq_zero_iff.mp z)
   omega
  exact min_intList (I.ok.hd hc) hl' hp fun v h' tk hv hk=>key ne hi hx rfl hv hk
 ·cases e
end
end L2.Y
namespace L2.Y
open PySem PySem.Spec PyProof.Rows PySem.W
theorem entry_abs:entryFor table "abs" = some Builtin.«abs»:=entryFor_of_fast (by kernel_rfl)
theorem kind_abs:builtinKind "abs" = none:=by decide +kernel
theorem plain_abs:plainId "abs" = true:=by decide +kernel
theorem zd5 (a:Value):argsOk "abs" ⟨[a],[]⟩:=by unfold argsOk;kernel_rfl
section
variable {prog:Program} {w:World} {A:Around} {E:Value→Shared→Prop} {s:Shared}
theorem zec {a:Int} {t:Tok} {Q:Value→Shared→Prop} (h:∀ t' tk,Q (.int (if a < 0 then -a else a) t') { s with toks:=tk }):wpAny (model prog w) A (call (.builtin "abs") [.int a t]) Q E s:=by
 refine Calls.call_function_entry kind_abs plain_abs entry_abs (zd5 _) ?_
 unfold Builtin.«abs»
 refine wpAny_bind (m:=oneArg "abs" _) (wpAny_pure ?_)
 have hT:s.TypeIs (.int a t) "int" := by constructor
 by_cases c:a < 0
 ·rw [if_pos c] at h
  refine wpAny_bind (m:=callSpecial? _ (Str.ofString "__abs__")) (wpAny_callSpecial?_slot (name:=Str.ofString "__abs__") hT F.slot_int_abs (call_gives F.slot_int_abs hT F.entry_int_abs (F.args_int_abs_1 _) (AutoIntG0.int___abs___int_0 a t c) ?_))
  exact wpAny_pure ⟨_,rfl,h _ _⟩
 ·rw [if_neg c] at h
  refine wpAny_bind (m:=callSpecial? _ (Str.ofString "__abs__")) (wpAny_callSpecial?_slot (name:=Str.ofString "__abs__") hT F.slot_int_abs (call_gives F.slot_int_abs hT F.entry_int_abs (F.args_int_abs_1 _) (AutoIntG1.int___abs___int_1 a t c) ?_))
  exact wpAny_pure ⟨_,rfl,h _ s.toks⟩
end
section
variable {X:Cx}
theorem vt:wX X (.builtin "abs") absD:=by
 intro pins s σ H O xs us ds d Q I hO rv bs e k
 unfold absD at e
 split at e
 ·cases e
  obtain ⟨v,rfl,b⟩:=bs.inv1
  cases b.int
  obtain ⟨u,rfl,ru⟩:=vals1 rv
  obtain ⟨t,rfl⟩:=ru
  exact zec fun t' tk=>zcz (I.kept (t':=tk) fun _ _ q=>q) k
 ·cases e
theorem boot_abs:bootBuiltins "abs" = some (.builtin "abs"):=by decide +kernel
end
end L2.Y
namespace L2.Y
open PySem PySem.Spec PyProof.Rows PySem.W
section
variable {X:Cx}
noncomputable def rExt:V→List V→Hp→VK→Prop:=fun x vs H Q=>∃ l b xs zs,x=.ref l∧vs=[.ref b]∧H l=some (.lst xs)∧Rd H b (.lst zs)∧xs.length + zs.length ≤ sizeLine∧Q .non (upd H l (.lst (xs ++ zs)))
theorem zko:MtM X "list.extend" rExt:=by
 intro pins s σ H x vs v us Q I rx rv h
 obtain ⟨l,b,xs,zs,rfl,rfl,hH,hB,hz,q⟩:=h
 cases rx
 obtain ⟨u,rfl,ru⟩:=rv.one
 cases ru
 obtain ⟨z,its,n,r,hl,e⟩:=I.lstM hH
 obtain ⟨z2,its2,n2,r2,e2⟩:=hB.ok I.hok
 have hl2:=r2.length
 have hsz:its.toArray.size + its2.toArray.size ≤ sizeLine:=by rw [List.size_toArray,List.size_toArray];omega
 refine call_meets PySem.F.slot_list_extend ⟨_,e,rfl⟩ PySem.F.entry_list_extend (PySem.F.args_list_extend_2 _ _)
  (AutoSeq1.list_extend_list_list_0 l its.toArray n b its2.toArray n2 (by rw [zaE hsz,Bool.and_false];exact Bool.false_ne_true) (by rw [List.size_toArray];omega) (by omega)) ⟨e,e2,?_⟩
 refine ⟨.non,_,I.lset (its':=its ++ its2) hH e (by simp) (r.append r2) ?_,rfl,q⟩
 rw [List.length_append]
 omega
theorem zjt {i:Nat} {x:Str} {e:Expr} {p apos cpos pos:Pos} {ge:Env'→Option D} (hv:PE X (.Name x p) (tVar i)) (he:PD X e ge)
  (hbase:autoParam (attributeBase (.Name x p) "extend" X.env (eval (.Name x p) X.env)=eval (.Name x p) X.env) aTc)
  (hfew:autoParam (((backTo cpos (starEach [e] X.env)).all (fun x=>!x.1) && (backToKw cpos (keywordEach [] X.env)).all (fun x=>x.1.isSome)
   && decide (([e]:List Expr).length + ([]:List Keyword).length + (if ([]:List Keyword).isEmpty then 0 else 1) < 30))=true) aTc)
  (hline:autoParam ((apos.endLine == cpos.line)=true) aTc) (hs:autoParam (starEach [e] X.env=[(false,eval e X.env)]) aTc)
  (hsw:autoParam (swapsWith (.Call (.Attribute (.Name x p) "extend" apos) [e] [] cpos) none pos.line X.env=pure false) aTc) :
  PSd X (.Expr (.Call (.Attribute (.Name x p) "extend" apos) [e] [] cpos) pos) (sExt i ge) :=
 PS.imp (zce (zkD PySem.F.plainAttrs_list PySem.F.slot_list_extend PySem.F.type_list_extend zko hv (yo he zbu hs) hbase hfew hline hs (by rfl)) hsw) fun D σ H hZq=>by
  obtain ⟨F,O,ρ,out,r,e,k⟩:=hZq
  obtain ⟨d,e1,e2⟩:=Option.bind_eq_some_iff.mp e
  split at e2
  ·rename_i es
   obtain ⟨ds,e3,e4⟩:=Option.bind_eq_some_iff.mp e2
   split at e4
   ·rename_i hl
    cases e4
    have ho:=wF e3
    obtain ⟨q,h1,h2,h3,h4⟩:=r.own i _ ho
    cases h4 with
    | lst hq rq =>
     rename_i xs
     refine ⟨_,h1,.inl ⟨rfl,xs,SqL.of hq⟩,F,O,ρ,_,r,e1,fun v H1 s1 b1 => ?_⟩
     cases b1 with
     | @lst b zs _ sq rs =>
      refine ⟨q,b,xs,zs,rfl,rfl,s1 _ _ hq,sq.imp (jd _ _) fun ⟨o,q⟩=>⟨o,jd _ _ q⟩,by rw [← rq.length,← rs.length];exact hl,?_⟩
      refine k O σ _ ((r.same s1).mut ho h1 (.lst jh ?_))
      rw [je h2]
      exact (rq.same (zR s1)).append rs
   ·cases e4
  ·cases e2
end
end L2.Y
namespace L2.Y
open PySem PySem.Spec PyProof.Rows PySem.W
section
variable {prog:Program} {w:World} {A:Around} {E:Value→Shared→Prop} {s:Shared}
theorem zjU {a b:Addr} {xs ys:List Value} {Q:Value→Shared→Prop} (p1:IsTup s.heap a xs.toArray) (p2:IsTup s.heap b ys.toArray) (hl:xs.length + ys.length ≤ sizeLine)
  (k:∀ r h',(∀ c o,s.heap.get? c=some o→h'.get? c=some o)→IsTup h' r (xs ++ ys).toArray→(r=a ∨ r=b ∨ s.heap.objs.size ≤ r)→Q (.ref r) { s with heap:=h' }):wpAny (model prog w) A (binaryOp .Add (.ref a) (.ref b)) Q E s:=by
 by_cases he:xs=[]
 ·obtain ⟨⟨cls,dd,data,sl⟩,ho,hc,n,hd⟩:=id p1
  obtain ⟨⟨cls2,dd2,data2,sl2⟩,ho2,hc2,n2,hd2⟩:=id p2
  simp only at hc hd hc2 hd2
  subst hc hd hc2 hd2
  refine concat_meets ⟨_,ho,rfl⟩ ⟨_,ho2,rfl⟩ noFill_tuple_add seq_tuple_add PySem.F.slot_tuple_add PySem.F.entry_tuple_add (PySem.F.args_tuple_add_2 _ _)
   (tuple_addW0 a b xs.toArray ys.toArray n n2 dd dd2 sl sl2 (by simp [he])) ⟨ho,ho2,?_⟩
  exact k b s.heap (fun _ _ q=>q) (by rw [he];exact p2) (.inr (.inl rfl))
 ·refine HT.cat_tup p1 p2 he (fun z => ?_) (fun z => ?_) hl
  ·exact k a s.heap (fun _ _ q=>q) (by rw [z,List.append_nil];exact p1) (.inl rfl)
  ·exact k _ _ (fun c o q=>Heap.get?_push_of_some _ q) ⟨_,Heap.get?_push_size _ rfl,rfl,_,rfl⟩ (.inr (.inr (Nat.le_refl _)))
end
end L2.Y
namespace L2.Y
open PySem PySem.Spec PyProof.Rows PySem.W
noncomputable def preC (con:Nat→List Value):Nat→List Value
 | 0=>[]
 | i + 1=>preC con i ++ con i
theorem zjp (con:Nat→List Value):∀ {i n:Nat},i ≤ n→(preC con i).length ≤ (preC con n).length:=fun {i n} h=>by
 induction n with
 | zero=>rw [show i=0 by omega];exact Nat.le_refl _
 | succ n ih =>
  by_cases e:i=n + 1
  ·rw [e];exact Nat.le_refl _
  ·have:=ih (by omega)
   show _ ≤ (preC con n ++ con n).length
   rw [List.length_append]
   omega
section
variable {prog:Program} {w:World} {A:Around} {R:Result→Shared→Prop} {I:Addr} {fp wr:List Addr} {G:Array GenState→Array GenState→Prop} {n:Nat} {P:Nat→Value→Prop} {St:Nat→Shared→Prop}
theorem zkm (W:WalksS prog w A.in1 I fp wr G n P St) (live:∀ i s,St i s→∀ b ∈ wr,∃ o,s.heap.get? b=some o) (ad:Nat→Addr) (con:Nat→List Value) (hval:∀ i v,P i v→v=.ref (ad i)) (S:Addr) (hSf:S ∉ fp) (Lc:Addr→Prop) (lc1:∀ i,i < n→Lc (ad i)) (lc2:∀ r,S < r→Lc r) (hz:(preC con n).length ≤ sizeLine) :
  ∀ (k i:Nat) (s:Shared) (T:Addr) (c:Nat),n - i=k→i ≤ n→St i s→s.heap.get? S=some { cls:=.type "list",dict:=none,data:=.seq #[.ref T] c,slots:=#[] }→IsTup s.heap T (preC con i).toArray→Lc T→T ∉ wr→(∀ j,j < n→IsTup s.heap (ad j) (con j).toArray∧ad j ∉ wr) →
  (∀ s' T',Moved (S :: wr) G s s'→IsTup s'.heap T' (preC con n).toArray→Lc T'→T' ∉ wr→R (.ok (.ret (.ref T'))) s')→codeAny (model prog w) A (.builtin "sum.loop" ⟨[.ref I,.ref S,rawInt 2,rawInt 0],[]⟩) R s:=by
 have hSw:S ∉ wr:=fun h=>hSf (W.sub _ h)
 have hsub:∀ b ∈ wr,b ∈ S :: wr:=fun b hb=>List.mem_cons_of_mem _ hb
 have neS:∀ {h:Heap} {T' T:Addr} {c:Nat} {xs:Array Value},h.get? S=some { cls:=.type "list",dict:=none,data:=.seq #[.ref T] c,slots:=#[] }→IsTup h T' xs→T' ≠ S:=fun a b q=>by
  subst q
  obtain ⟨o,e,hc,_⟩:=b
  rw [a] at e
  cases e
  simp at hc
 intro k
 induction k with
 | zero =>
  intro i s T c hk hi hst hS hT hLc hTw hcon hR
  have hin:i=n:=by omega
  subst hin
  refine codeAny_builtin F.entry_sum_loop ?_
  rw [Around.under_plainId F.plain_sum_loop _]
  show wpAny _ A.in1 (seqItems? (.ref S) >>= _) _ _ s
  refine wpAny_bind (wpAny_seqItems hS rfl ?_)
  show wpAny _ A.in1 (tryCatch (pyNext (.ref I)) _ >>= _) _ _ s
  refine wpAny_bind (wpAny_tryCatch (W.done s _ _ hst fun s' hm => ?_))
  obtain ⟨o,e,r⟩:=hT
  exact wpAny_pure (hR s' T (hm.mono hsub) ⟨o,hm.heap T o hTw e,r⟩ hLc hTw)
 | succ k ih =>
  intro i s T c hk hi hst hS hT hLc hTw hcon hR
  have hlt:i < n:=by omega
  refine codeAny_builtin F.entry_sum_loop ?_
  rw [Around.under_plainId F.plain_sum_loop _]
  show wpAny _ A.in1 (seqItems? (.ref S) >>= _) _ _ s
  refine wpAny_bind (wpAny_seqItems hS rfl ?_)
  show wpAny _ A.in1 (tryCatch (pyNext (.ref I)) _ >>= _) _ _ s
  refine wpAny_bind (wpAny_tryCatch (W.item i s _ _ hlt hst fun v s' hP hst' hm => ?_))
  obtain rfl:=hval i v hP
  have hS':=hm.heap S _ hSw hS
  have keep:∀ {b:Addr} {xs:Array Value},IsTup s.heap b xs→b ∉ wr→IsTup s'.heap b xs:=fun {b xs} ⟨o,e,r⟩ hb=>⟨o,hm.heap b o hb e,r⟩
  have hT':=keep hT hTw
  have hA:=keep (hcon i hlt).1 (hcon i hlt).2
  show wpAny _ A.in1 ((holding [Value.ref (ad i)] (binaryOp .Add (.ref T) (.ref (ad i)))).attempt >>= _) _ _ _
  refine wpAny_bind (wpAny_attempt (wpAny_holding (zjU hT' hA (by
   have:=zjp con (show i + 1 ≤ n from hlt)
   rw [show preC con (i + 1)=preC con i ++ con i from rfl,List.length_append] at this
   omega) fun r h' up hr hw => ?_)))
  have hrw:r ∉ wr:=by
   rcases hw with rfl | rfl | hw
   ·exact hTw
   ·exact (hcon i hlt).2
   ·intro z
    obtain ⟨o,e⟩:=live _ _ hst' r z
    exact absurd (Heap.lt_size e) (Nat.not_lt.mpr hw)
  have hLr:Lc r:=by
   rcases hw with rfl | rfl | hw
   ·exact hLc
   ·exact lc1 i hlt
   ·exact lc2 r (Nat.lt_of_lt_of_le (Heap.lt_size hS') hw)
  have hS1:=up S _ hS'
  have hrS:r ≠ S:=neS hS1 hr
  show wpAny _ A.in1 (updateSeq S (fun _=>#[.ref r]) >>= _) _ _ _
  refine wpAny_bind (wpAny_updateSeq hS1 rfl ?_)
  have hS₂:=Heap.get?_update_self (Obj.mapSeq fun _=>#[Value.ref r]) hS1 rfl
  refine wpAny_bind (wpAny_letGo ?_)
  have two:∀ {b:Addr} {o:Obj},b ≠ S→s'.heap.get? b=some o→((h'.update S (Obj.mapSeq fun _=>#[Value.ref r])).update S (Obj.mapSeq fun _=>#[Value.ref r])).get? b=some o:=fun {b o} hb e =>
   (Heap.get?_update_other _ _ (fun h:S=b=>hb h.symm)).trans ((Heap.get?_update_other _ _ (fun h:S=b=>hb h.symm)).trans (up b o e))
  have twoT:∀ {b:Addr} {xs:Array Value},b ≠ S→IsTup h' b xs→IsTup ((h'.update S (Obj.mapSeq fun _=>#[Value.ref r])).update S (Obj.mapSeq fun _=>#[Value.ref r])) b xs:=fun {b xs} hb ⟨o,e,q⟩ =>
   ⟨o,(Heap.get?_update_other _ _ (fun h:S=b=>hb h.symm)).trans ((Heap.get?_update_other _ _ (fun h:S=b=>hb h.symm)).trans e),q⟩
  refine wpAny_bind (wpAny_updateSeq hS₂ rfl (wpAny_pure ⟨plainId_quiet F.plain_sum_loop _,ih (i + 1) _ r _ (by omega) hlt (W.frame _ s' _ _ hst' (by first | exact Nat.le_refl _ | exact Nat.le_succ _ | omega) fun b hb o e => ?_) (Heap.get?_update_self _ hS₂ rfl) (twoT hrS hr) hLr hrw (fun j hj => ?_) fun s'' T'' hm'' hT'' hL'' hw'' => ?_⟩))
  ·exact two (fun h=>hSf (h ▸ hb)) e
  ·have q:=hcon j hj
   obtain ⟨o,e,z⟩:=keep q.1 q.2
   exact ⟨⟨o,two (neS hS' ⟨o,e,z⟩) e,z⟩,q.2⟩
  ·refine hR s'' T'' (Moved.trans W.gtrans ((hm.mono hsub).then_heap (by first | exact Nat.le_refl _ | exact Nat.le_succ _ | omega) fun b o hb e => ?_) hm'') hT'' hL'' hw''
   exact two (fun h=>hb (by rw [h];exact List.mem_cons_self)) e
end
end L2.Y
namespace L2.Y
open PySem PySem.Spec PyProof.Rows PySem.W
theorem zd6 (a b:Value):argsOk "sum" ⟨[a],[(Str.ofString "start",b)]⟩:=by unfold argsOk;kernel_rfl
section
variable {prog:Program} {w:World} {A:Around} {E:Value→Shared→Prop} {s:Shared}
theorem za6 {id:String} {b:Builtin} {args:List Value} {kw:List (Str × Value)} {Q:Value→Shared→Prop} (hk:builtinKind id=none) (hp:plainId id=true)
  (hb:entryFor table id=some b) (ha:argsOk id ⟨args,kw⟩)
  (hc:wpAny (model prog w) A.in1 (b ⟨args,kw⟩) (fun fin s'=>match fin with
   | .done f=>(match (Except.ok f:Result) with | .ok (.ret v)=>Q v s' | .ok _=>False | .error e=>E e s')
   | .again c'=>c'.quiet=true∧codeAny (model prog w) A c' (fun r s'=>match r with | .ok (.ret v)=>Q v s' | .ok _=>False | .error e=>E e s') s') E s) :
  wpAny (model prog w) A (call (.builtin id) args kw) Q E s:=by
 refine wpAny_call (codeAny_call_builtin hp hb ?_)
 simp only [checkBuiltinCall,hk]
 cases hsig:Manifest.signature? id with
 | none=>exact wpAny_pure hc
 | some sig =>
  simp only [argsOk,hsig] at ha
  have h2:Bind.checkArgs id sig ⟨args,kw⟩=pure ():=ha
  simp only [h2]
  exact wpAny_pure hc
theorem sub_tuple_str:isSubtype (.type "tuple") (.type "str")=pure false:=by rw [isSubtype_type];kernel_rfl
theorem sub_tuple_bytes:isSubtype (.type "tuple") (.type "bytes")=pure false:=by rw [isSubtype_type];kernel_rfl
theorem sub_tuple_bytearray:isSubtype (.type "tuple") (.type "bytearray")=pure false:=by rw [isSubtype_type];kernel_rfl
theorem zeg {t e0:Addr} {items:List Value} {Q:Value→Shared→Prop} (hh:A.handled=none) (ad:Nat→Addr) (con:Nat→List Value) (ht:IsTup s.heap t items.toArray) (he:IsTup s.heap e0 #[])
  (hit:∀ (i:Nat) (v:Value),items[i]?=some v→v=.ref (ad i)) (hcon:∀ j,j < items.length→IsTup s.heap (ad j) (con j).toArray) (hz:(preC con items.length).length ≤ sizeLine)
  (k:∀ T' h' tk,(∀ b o,s.heap.get? b=some o→h'.get? b=some o)→IsTup h' T' (preC con items.length).toArray→(T'=e0 ∨ (∃ j,j < items.length∧T'=ad j) ∨ s.heap.objs.size ≤ T')→Q (.ref T') { s with heap:=h',toks:=tk }) :
  wpAny (model prog w) A (call (.builtin "sum") [.ref t] [(Str.ofString "start",.ref e0)]) Q E s:=by
 refine za6 F.kind_sum F.plain_sum F.entry_sum (zd6 _ _) ?_
 unfold Builtin.«sum»
 simp only [List.length_cons,List.length_nil]
 rw [if_neg (by decide)]
 refine wpAny_bind (wpAny_of_eq (show Builtin.Builtins.bindParams "sum" ["start"] 0 ⟨[],[(Str.ofString "start",Value.ref e0)]⟩=pure [some (.ref e0)] from by first | rfl | kernel_rfl) ?_)
 refine wpAny_bind (wpAny_pyIter_tuple (show s.heap.IsTuple t items.toArray from ht) ?_)
 refine wpAny_bind (wpAny_pure ?_)
 simp only [List.forIn_cons,List.forIn_nil]
 have te:Shared.TypeIs { s with heap:=s.heap.push { cls:=.type "tuple_iterator",data:=.fields #[.ref t,.int 0 0] } } (.ref e0) "tuple" := by
  obtain ⟨o,e,hc,_⟩:=he
  exact ⟨o,Heap.get?_push_of_some _ e,hc⟩
 refine wpAny_bind (wpAny_bind (wpAny_bind (wpAny_isInstance (T := "tuple") (b:=false) te sub_tuple_str ?_)))
 simp only [Bool.false_eq_true,if_false]
 refine wpAny_pure (wpAny_bind (wpAny_bind (wpAny_isInstance (T := "tuple") (b:=false) te sub_tuple_bytes ?_)))
 simp only [Bool.false_eq_true,if_false]
 refine wpAny_pure (wpAny_bind (wpAny_bind (wpAny_isInstance (T := "tuple") (b:=false) te sub_tuple_bytearray ?_)))
 simp only [Bool.false_eq_true,if_false]
 refine wpAny_pure (wpAny_pure ?_)
 refine wpAny_bind (wpAny_newObj_type ?_)
 have lt:∀ {b:Addr} {xs:Array Value},IsTup s.heap b xs→b < s.heap.objs.size:=fun ⟨o,e,_⟩=>Heap.lt_size e
 have up2:∀ {b:Addr} {xs:Array Value},IsTup s.heap b xs→IsTup ((s.heap.push { cls:=.type "tuple_iterator",data:=.fields #[.ref t,.int 0 0] }).push { cls:=.type "list",data:=.seq #[.ref e0] }) b xs:=fun ⟨o,e,q⟩=>⟨o,Heap.get?_push_of_some _ (Heap.get?_push_of_some _ e),q⟩
 have z1:(s.heap.push { cls:=.type "tuple_iterator",data:=.fields #[.ref t,.int 0 0] }).objs.size=s.heap.objs.size + 1:=Heap.size_push ..
 have nt:t ≠ s.heap.objs.size:=Nat.ne_of_lt (lt ht)
 have nw:∀ {b:Addr} {xs:Array Value},IsTup s.heap b xs→b ∉ [s.heap.objs.size]:=fun h m=>Nat.lt_irrefl _ ((List.mem_singleton.mp m) ▸ lt h)
 refine wpAny_pure ⟨plainId_quiet F.plain_sum_loop _,zkm ((Walks.tuple (A:=A.in1) hh s.heap.objs.size t nt items.toArray).toS) (fun i s' st b hb => ?_) ad con (fun i v h=>hit i v (by simpa using h)) (s.heap.push { cls:=.type "tuple_iterator",data:=.fields #[.ref t,.int 0 0] }).objs.size ?_ (fun T'=>T'=e0 ∨ (∃ j,j < items.length∧T'=ad j) ∨ s.heap.objs.size ≤ T') (fun i hi=>.inr (.inl ⟨i,by simpa using hi,rfl⟩)) (fun r hr=>.inr (.inr (by rw [z1] at hr;exact Nat.le_of_lt (Nat.lt_of_succ_lt hr)))) (by simpa using hz) items.toArray.size 0 _ e0 0 (by simp) (Nat.zero_le _)
  ⟨⟨_,Heap.get?_push_of_some _ (Heap.get?_push_size _ rfl),rfl,rfl⟩,up2 ht⟩ (Heap.get?_push_size _ rfl) (up2 he) (.inl rfl) (nw he) (fun j hj=>⟨up2 (hcon j (by simpa using hj)),nw (hcon j (by simpa using hj))⟩) fun s' T' hm hT' hl' hw' => ?_⟩
 ·rw [List.mem_singleton.mp hb]
  obtain ⟨o,e,_⟩:=st.1
  exact ⟨o,e⟩
 ·rw [z1]
  intro m
  rcases List.mem_cons.mp m with m | m
  ·exact (fun (x:Nat) (h:x + 1=x)=>by omega:∀ x:Nat,x + 1=x→False) _ m
  ·exact (fun (x y:Nat) (h:x + 1=y) (h2:y < x)=>by omega:∀ x y:Nat,x + 1=y→y < x→False) _ _ (List.mem_singleton.mp m) (lt ht)
 ·obtain ⟨h',g',d',tk',os'⟩:=s'
  have eg:g'=s.gens:=hm.gens
  have ed:d'=s.drawn:=hm.drawn
  have eo:os'=s.os:=hm.os
  subst eg;subst ed;subst eo
  refine k T' h' tk' (fun b o e => ?_) (by simpa using hT') hl'
  have lb:=Heap.lt_size e
  refine hm.heap b o (fun m => ?_) (Heap.get?_push_of_some _ (Heap.get?_push_of_some _ e))
  rw [z1] at m
  rcases List.mem_cons.mp m with m | m
  ·exact (fun (x y:Nat) (h:y=x + 1) (h2:y < x)=>by omega:∀ x y:Nat,y=x + 1→y < x→False) _ _ m lb
  ·exact (fun (x y:Nat) (h:y=x) (h2:y < x)=>by omega:∀ x y:Nat,y=x→y < x→False) _ _ (List.mem_singleton.mp m) lb
end
end L2.Y
namespace L2.Y
open PySem PySem.Spec PyProof.Rows PySem.W
theorem zag:∀ {ds:List D} {ls:List (List D)},zck ds=some ls→ds=ls.map PyData.tuple
 | [],ls,h=>by cases h;rfl
 | d :: ds,ls,h=>by
  unfold zck at h
  rw [List.mapM_cons] at h
  obtain ⟨x,h1,h2⟩:=Option.bind_eq_some_iff.mp h
  obtain ⟨xs,h3,h4⟩:=Option.bind_eq_some_iff.mp h2
  cases h4
  have:=zag (ds:=ds) h3
  cases d <;> simp at h1
  subst h1
  rw [this]
  rfl
theorem zhT {h:Heap} {a:Addr} {xs ys:List Value} (p:IsTup h a xs.toArray) (q:IsTup h a ys.toArray):xs=ys:=by
 obtain ⟨o,e,_,n,d⟩:=p
 obtain ⟨o',e',_,n',d'⟩:=q
 rw [e] at e'
 cases e'
 rw [d] at d'
 cases d'
 rfl
noncomputable def preV (con:Nat→List V):Nat→List V
 | 0=>[]
 | i + 1=>preV con i ++ con i
section
variable {X:Cx}
theorem zjO (hc:X.calm=true) {pins:List (Addr × Obj)} {s:Shared} {σ:St} {H:Hp} {O:List Addr} {a e0:Addr} {ds:List D} {d:D} {Q:VK} (I:Inv X pins σ H s) (hO:Dom O H) (ra:Rep X.K (hide O H) (.tuple ds) (.ref a)) (re:Rep X.K (hide O H) (.tuple []) (.ref e0)) (e:zfV [.tuple ds]=some d)
  (k:∀ z H',Same H H'→Rep X.K (hide O H') d z→Q z H'):wpAny (model X.prog X.w) X.A (call (.builtin "sum") [.ref a] [(Str.ofString "start",.ref e0)]) (EP X pins σ Q) X.xe s:=by
 obtain ⟨ls,e1,e2⟩:=Option.bind_eq_some_iff.mp (show (zck ds).bind _=some d from e)
 split at e2
 case isFalse=>cases e2
 rename_i hz
 cases e2
 obtain rfl:=zag e1
 cases ra with
 | @tup _ vx _ sq rs =>
  cases re with
  | @tup _ v0 _ sq0 rs0 =>
   cases rs0
   obtain ⟨its,r1,p1,_⟩:=I.tuple (X:=X) (.inl (.inl (jd _ _ sq)))
   obtain ⟨its0,r0,p0,_⟩:=I.tuple (X:=X) (.inl (.inl (jd _ _ sq0)))
   cases r0
   have nl:vx.length=ls.length:=by rw [← rs.length,List.length_map]
   have ni:its.length=ls.length:=by rw [← r1.length,nl]
   have item:∀ i,∃ q:Addr × List Value × List V,i < ls.length→(vx[i]?=some (.ref q.1)∧hide O H q.1=some (.tup q.2.2)∧Vals q.2.2 q.2.1∧IsTup s.heap q.1 q.2.1.toArray∧Reps X.K (hide O H) (ls.getD i []) q.2.2):=fun i=>by
    by_cases h:i < ls.length
    ·obtain ⟨v,g1,g2⟩:=rs.get (i:=i) (d:=.tuple ls[i]) (by simp [h])
     cases g2 with
     | @tup b vs _ sb rb =>
      obtain ⟨itb,rb1,pb,_⟩:=I.tuple (X:=X) (.inl (.inl (jd _ _ sb)))
      exact ⟨(b,itb,vs),fun _=>⟨g1,sb,rb1,pb,by simpa [h] using rb⟩⟩
    ·exact ⟨(0,[],[]),fun z=>absurd z h⟩
   let ad:Nat→Addr:=fun i=>(Classical.choose (item i)).1
   let con:Nat→List Value:=fun i=>(Classical.choose (item i)).2.1
   let cv:Nat→List V:=fun i=>(Classical.choose (item i)).2.2
   have sp:∀ i,i < ls.length→vx[i]?=some (.ref (ad i))∧hide O H (ad i)=some (.tup (cv i))∧Vals (cv i) (con i)∧IsTup s.heap (ad i) (con i).toArray∧Reps X.K (hide O H) (ls.getD i []) (cv i):=fun i hi=>Classical.choose_spec (item i) hi
   have pre:∀ i,i ≤ ls.length→Vals (preV cv i) (preC con i)∧Reps X.K (hide O H) (ls.take i).flatten (preV cv i):=by
    intro i
    induction i with
    | zero=>exact fun _=>⟨.nil,.nil⟩
    | succ i ih =>
     intro hi
     obtain ⟨q1,q2⟩:=ih (by omega)
     obtain ⟨_,_,q3,_,q4⟩:=sp i (by omega)
     refine ⟨q1.append q3,?_⟩
     have et:(ls.take (i + 1)).flatten=(ls.take i).flatten ++ ls.getD i []:=by
      have hi' : i < ls.length:=hi
      rw [List.take_add_one,List.flatten_append]
      simp [hi']
     rw [et]
     exact q2.append q4
   obtain ⟨pv,pr⟩:=pre ls.length (Nat.le_refl _)
   rw [List.take_length] at pr
   have zl:(preC con its.length).length ≤ sizeLine:=by
    rw [ni,← pv.length,← pr.length]
    exact hz
   refine zeg (I.ok.hd hc) ad con (show IsTup s.heap a its.toArray from p1) p0 (fun i v h => ?_) (fun j hj=>(sp j (by omega)).2.2.2.1) zl fun T' h' tk up hT' hl => ?_
   ·have hi:i < ls.length:=by
     have:=(List.getElem?_eq_some_iff.mp h).1
     omega
    obtain ⟨u,g1,g2⟩:=r1.get (sp i hi).1
    rw [h] at g1
    cases g1
    exact g2
   ·rw [ni] at hT' hl
    have old:∀ {b:Addr} {xs:List V} {vs:List Value},hide O H b=some (.tup xs)→Vals xs vs→IsTup s.heap b vs.toArray→T'=b→EP X pins σ Q (.ref T') { s with heap:=h',toks:=tk }:=fun {b xs vs} hb rv p eq=>by
     subst eq
     obtain ⟨o,eo,q⟩:=p
     have:vs=preC con ls.length:=zhT ⟨o,up _ _ eo,q⟩ hT'
     subst this
     have ev:=Vals.inj rv pv
     subst ev
     exact ⟨.ref T',H,I.kept (t':=tk) up,rfl,k _ H (Same.refl _) (.tup hb pr)⟩
    rcases hl with q | ⟨j,hj,q⟩ | hl
    ·exact old sq0 .nil p0 q
    ·obtain ⟨_,s2,s3,s4,_⟩:=sp j hj
     exact old s2 s3 s4 q
    ·have hf:H T'=none:=I.hok.fresh hl
     exact ⟨.ref T',_,I.laid (o:=.tup (preV cv ls.length)) (t':=tk) up hl ⟨by rw [← pr.length];exact hz,_,pv,hT'⟩,rfl,k _ _ (jg hf) (xZ hf (hO.out hf) pr)⟩
end
end L2.Y
namespace L2.Y
open PySem PySem.Spec PyProof.Rows PySem.W
section
variable {X:Cx}
theorem zjd {e:Expr} {ga:Env'→Option (List D)} {p pos kp tp:Pos} {x1} (hg:Gl X "sum") (hm:X.mg "sum" = none) (ha:PAd X [e] ga) (hc:autoParam (X.calm=true) aTc) (hs:autoParam (starEach [e] X.env=[(false,eval e X.env)]) aTc) :
  PD X (.Call (.Name "sum" p) [e] [⟨some "start",.Tuple [] x1 tp,kp⟩] pos) (gA zfV ga):=by
 intro pins s σ H Q I hZq
 obtain ⟨F,O,ρ,d,r,e',k⟩:=hZq
 obtain ⟨ds,e1,e2⟩:=yf e'
 refine wpAny_Call_Name_kw (xo I hg hm (by decide +kernel:bootBuiltins "sum" = some (.builtin "sum")) ?_)
 refine callWith_kw (thn (ha pos pins s σ H (fun vs H1=>Same H H1∧Reps X.K (hide O H1) ds vs) I ⟨F,O,ρ,ds,r,e1,fun vs H1 s1 rb=>⟨s1,rb⟩⟩) fun us s1 ⟨vs,H1,I1,r1,sm,rb⟩ => ?_) (by rw [hs];rfl) (by rw [hs];rfl)
 refine kws_cons (thn ((qQ zh) pins s1 σ H1 (fun v H2=>Same H1 H2∧Rep X.K (hide O H2) (.tuple []) v) I1 ⟨F,O,ρ,.tuple [],r.same sm,rfl,fun v H2 s2 rb2=>⟨s2,rb2⟩⟩) fun u s2 ⟨v,H2,I2,r2,sm2,rb2⟩=>kws_nil ?_)
 have e3:=e2
 unfold zfV at e2
 split at e2
 case h_2=>cases e2
 rename_i xs
 cases rb with
 | cons b1 rb =>
  cases rb
  cases r1 with
  | @cons _ u1 _ _ q1 rr =>
   cases rr
   have b1':=b1.same (zR sm2)
   cases b1 with
   | @tup la ys _ sq1 rs1 =>
    cases rb2 with
    | @tup lb zs _ sq2 rs2 =>
     obtain rfl:u1=Value.ref la:=q1
     obtain rfl:u=Value.ref lb:=r2
     exact zjO hc I2 ((r.same (sm.trans sm2)).dom) b1' (.tup sq2 rs2) e3 fun z H' s3 b3=>k z H' (sm.trans (sm2.trans s3)) b3
end
end L2.Y
namespace L2.Y
open PySem
noncomputable def s5:Nat→Nat
 | 0=>0
 | n + 1=>5 * s5 n + 1
theorem zhC:∀ n,4 * s5 n + 1=5 ^ n
 | 0=>rfl
 | n + 1=>by
  have:=zhC n
  rw [Nat.pow_succ,← this]
  show 4 * (5 * s5 n + 1) + 1=_
  omega
theorem zfF (a:Nat):∀ b,s5 (a + b)=5 ^ b * s5 a + s5 b
 | 0=>by simp [s5]
 | b + 1=>by
  show 5 * s5 (a + b) + 1=_ + (5 * s5 b + 1)
  rw [zfF a b,Nat.pow_succ,Nat.mul_add,Nat.mul_comm (5 ^ b) 5,Nat.mul_assoc]
  omega
theorem zao:∀ (k m q:Nat),2 ^ k ∣ m * (2 * q + 1)→2 ^ k ∣ m
 | 0,m,q,_=>by simp
 | k + 1,m,q,⟨c,h⟩=>by
  have e:m * (2 * q + 1)=2 * (m * q) + m:=by rw [Nat.mul_add,Nat.mul_one,Nat.mul_left_comm]
  rw [Nat.pow_succ,Nat.mul_comm (2 ^ k) 2,Nat.mul_assoc] at h
  obtain ⟨m',rfl⟩:2 ∣ m:=by omega
  rw [Nat.mul_assoc] at h
  obtain ⟨c',h'⟩:=zao k m' q ⟨c,Nat.eq_of_mul_eq_mul_left (by decide) h⟩
  exact ⟨c',by rw [h',Nat.pow_succ,Nat.mul_comm (2 ^ k) 2,Nat.mul_assoc]⟩
theorem zim:∀ d,s5 d % 2=d % 2
 | 0=>rfl
 | d + 1=>by have:=zim d;show (5 * s5 d + 1) % 2=_;omega
theorem zil:∀ (k d:Nat),2 ^ k ∣ s5 d→2 ^ k ∣ d
 | 0,d,_=>by simp
 | k + 1,d,⟨c,h⟩=>by
  have p:=zim d
  rw [Nat.pow_succ,Nat.mul_comm (2 ^ k) 2,Nat.mul_assoc] at h
  obtain ⟨e,rfl⟩:2 ∣ d:=by omega
  have q:s5 (2 * e)=2 * (s5 e * (2 * s5 e + 1)):=by
   rw [show 2 * e=e + e by omega,zfF,← zhC]
   have:s5 e * (2 * s5 e + 1)=2 * (s5 e * s5 e) + s5 e:=by rw [Nat.mul_add,Nat.mul_one,Nat.mul_left_comm]
   rw [this,Nat.add_mul,Nat.mul_assoc]
   omega
  obtain ⟨c',h'⟩:=zil k e (zao k _ (s5 e) ⟨c,Nat.eq_of_mul_eq_mul_left (by decide) (q.symm.trans h)⟩)
  exact ⟨c',by rw [h',Nat.pow_succ,Nat.mul_comm (2 ^ k) 2,Nat.mul_assoc]⟩
noncomputable def it5 (N:Nat) (i:Nat):Nat→Nat
 | 0=>i
 | a + 1=>(it5 N i a * 5 + 1) % N
theorem zb1 (N i:Nat):∀ a,it5 N i a % N=(5 ^ a * i + s5 a) % N
 | 0=>by simp [it5,s5]
 | a + 1=>by
  show (it5 N i a * 5 + 1) % N % N=_
  rw [Nat.mod_mod,Nat.add_mod,Nat.mul_mod,zb1 N i a,← Nat.mul_mod,← Nat.add_mod]
  show _=(5 ^ (a + 1) * i + (5 * s5 a + 1)) % N
  rw [Nat.pow_succ,Nat.add_mul,Nat.mul_right_comm,Nat.mul_comm (s5 a) 5,Nat.add_assoc]
theorem ziO {k i:Nat} {a d:Nat} (h:it5 (2 ^ k) i a % 2 ^ k=it5 (2 ^ k) i (d + a) % 2 ^ k):2 ^ k ∣ d:=by
 rw [zb1,zb1] at h
 have e:5 ^ (d + a) * i + s5 (d + a)=5 ^ a * i + s5 a + s5 d * (2 * (2 * i) + 1) * (2 * (2 * s5 a) + 1):=by
  rw [zfF,Nat.pow_add,← zhC d,show 2 * (2 * s5 a) + 1=5 ^ a by rw [← zhC a];omega]
  generalize 5 ^ a=u
  have h1:(4 * s5 d + 1) * u * i=4 * (s5 d * (u * i)) + u * i:=by rw [Nat.mul_assoc,Nat.add_mul,Nat.one_mul,Nat.mul_assoc]
  have h2:s5 d * (2 * (2 * i) + 1) * u=4 * (s5 d * (u * i)) + u * s5 d:=by
   rw [Nat.mul_assoc,Nat.add_mul,Nat.one_mul,Nat.mul_add,Nat.mul_comm (s5 d) u,Nat.mul_comm (2 * (2 * i)) u]
   have:u * (2 * (2 * i))=4 * (u * i):=by rw [Nat.mul_left_comm,Nat.mul_left_comm u 2];omega
   rw [this,Nat.mul_left_comm]
  omega
 have:=Nat.sub_mod_eq_zero_of_mod_eq h.symm
 rw [e,Nat.add_sub_cancel_left] at this
 exact zil k d (zao k _ _ (zao k _ _ (Nat.dvd_of_mod_eq_zero this)))
theorem zbr:∀ {l m:List Nat},l.Nodup→(∀ x ∈ l,x ∈ m)→l.length ≤ m.length
 | [],m,_,_=>Nat.zero_le _
 | x :: l,m,h,s=>by
  have h':=List.nodup_cons.mp h
  have hx:=s x (.head _)
  have:=zbr (l:=l) (m:=m.erase x) h'.2 fun y hy=>(List.mem_erase_of_ne (fun e:y=x=>h'.1 (e ▸ hy))).mpr (s y (.tail _ hy))
  rw [List.length_erase_of_mem hx] at this
  have:=List.length_pos_of_mem hx
  show l.length + 1 ≤ _
  omega
theorem ziP {k i:Nat} (hi:i < 2 ^ k) {pl:List Nat} (hp:pl.length < 2 ^ k):∃ a,a < 2 ^ k∧it5 (2 ^ k) i a ∉ pl:=by
 refine Classical.byContradiction fun no => ?_
 have all:∀ a,a < 2 ^ k→it5 (2 ^ k) i a ∈ pl:=fun a ha=>Classical.byContradiction fun z=>no ⟨a,ha,z⟩
 have:((List.range (2 ^ k)).map (it5 (2 ^ k) i)).length ≤ pl.length:=by
  refine zbr ?_ fun x hx => ?_
  ·refine List.pairwise_map.mpr ((List.pairwise_lt_range).imp_of_mem fun {a b} ha hb hab e => ?_)
   have hb':=List.mem_range.mp hb
   have:2 ^ k ∣ b - a:=ziO (i:=i) (a:=a) (by rw [Nat.sub_add_cancel (Nat.le_of_lt hab),e])
   have:=Nat.le_of_dvd (by omega) this
   omega
  ·obtain ⟨a,ha,rfl⟩:=List.mem_map.mp hx
   exact all a (List.mem_range.mp ha)
 rw [List.length_map,List.length_range] at this
 omega
open SetTable
noncomputable def tr (mask i p:Nat):Nat→Nat × Nat
 | 0=>(i,p)
 | r + 1=>leap mask (tr mask i p r).1 (tr mask i p r).2
theorem zf3 (mask i p:Nat):∀ r,tr mask i p (r + 1)=tr mask (leap mask i p).1 (leap mask i p).2 r
 | 0=>rfl
 | r + 1=>by
  show leap mask (tr mask i p (r + 1)).1 (tr mask i p (r + 1)).2=leap mask _ _
  rw [zf3 mask i p r]
theorem tr_p (mask i p:Nat):∀ r,(tr mask i p r).2=p / 32 ^ r
 | 0=>by simp [tr]
 | r + 1=>by
  show (tr mask i p r).2 / 32=_
  rw [tr_p mask i p r,Nat.div_div_eq_div_mul,Nat.pow_succ]
theorem zk5 {mask i p:Nat} (hi:i < mask + 1):∀ r,(tr mask i p r).1 < mask + 1
 | 0=>hi
 | r + 1=>Nat.mod_lt _ (Nat.succ_pos _)
theorem zf2 {mask i p:Nat} (hp:p < 2 ^ 64):∀ a,(tr mask i p (13 + a)).1=it5 (mask + 1) (tr mask i p 13).1 a
 | 0=>rfl
 | a + 1=>by
  show (((tr mask i p (13 + a)).1 * 5 + 1 + (tr mask i p (13 + a)).2 / 32) % (mask + 1))=_
  have:(tr mask i p (13 + a)).2=0:=by
   rw [tr_p]
   refine Nat.div_eq_of_lt (Nat.lt_of_lt_of_le hp ?_)
   rw [Nat.pow_add]
   exact Nat.le_trans (by decide:2 ^ 64 ≤ 32 ^ 13 * 1) (Nat.mul_le_mul_left _ (Nat.pos_of_ne_zero (by simp)))
  rw [this,zf2 hp a]
  rfl
theorem ziv {mask k i p:Nat} (hk:mask + 1=2 ^ k) (hi:i < mask + 1) (hp:p < 2 ^ 64) {pl:List Nat} (h:pl.length < mask + 1):∃ r,r < turns mask∧(tr mask i p r).1 ∉ pl:=by
 obtain ⟨a,ha,n⟩:=ziP (k:=k) (i:=(tr mask i p 13).1) (hk ▸ zk5 hi 13) (pl:=pl) (hk ▸ h)
 rw [← hk,← zf2 hp] at n
 exact ⟨13 + a,by unfold turns;omega,n⟩
theorem zd9 (h:Int):bits h < 2 ^ 64:=by
 unfold bits
 have:=Int.emod_lt_of_pos h (b:=2 ^ 64) (by decide)
 have:=Int.emod_nonneg h (b:=2 ^ 64) (by decide)
 omega
theorem zbf {mask:Nat} {owner:Array (Option Nat)}:∀ (fuel i p:Nat),(∃ r,r < fuel∧(owner.getD (tr mask i p r).1 (some 0)).isNone=true)→∃ j,layClean.free mask owner fuel i p=some j∧(owner.getD j (some 0)).isNone=true
 | 0,_,_,⟨r,h,_⟩=>absurd h (Nat.not_lt_zero _)
 | fuel + 1,i,p,⟨r,h,e⟩=>by
  unfold layClean.free
  split
  ·rename_i k hk
   exact ⟨i + k,rfl,List.find?_some (p:=fun k=>(owner.getD (i + k) (some 0)).isNone) hk⟩
  ·rename_i hk
   cases r with
   | zero =>
    have:=List.find?_eq_none.mp hk 0 (List.mem_range.mpr (by unfold runEnd;split <;> omega))
    exact absurd e this
   | succ r =>
    rw [zf3] at e
    exact zbf fuel _ _ ⟨r,Nat.lt_of_succ_lt_succ h,e⟩
noncomputable def cnt (f:Nat→Option Nat) (N:Nat):Nat:=((List.range N).filter fun j=>(f j).isSome).length
theorem yO (f:Nat→Option Nat) (N:Nat):cnt f (N + 1)=cnt f N + if (f N).isSome then 1 else 0:=by
 unfold cnt
 rw [List.range_succ,List.filter_append,List.length_append]
 congr 1
 cases h:(f N).isSome <;> simp [h]
theorem zem {f g:Nat→Option Nat} {j:Nat} (hn:f j=none) (hs:(g j).isSome=true) (h:∀ i,i ≠ j→g i=f i):∀ N,cnt g N=cnt f N + if j < N then 1 else 0
 | 0=>by simp [cnt]
 | N + 1=>by
  rw [yO,yO,zem hn hs h N]
  by_cases e:N=j
  ·subst e;simp [hn,hs]
  ·rw [h N e]
   by_cases l:j < N
   ·rw [if_pos l,if_pos (show j < N + 1 by omega)];omega
   ·rw [if_neg l,if_neg (show ¬ j < N + 1 by omega)];omega
theorem cnt_none:∀ N,cnt (fun _=>none) N=0
 | 0=>rfl
 | N + 1=>by rw [yO,cnt_none N];rfl
noncomputable def zdT (mask:Nat) (o:Array (Option Nat)) (k:Nat):Prop:=o.size=mask + 1∧cnt (fun j=>o.getD j none) (mask + 1)=k∧∀ j q,o.getD j none=some q→q < k
theorem zg1 {mask k2:Nat} (hk:mask + 1=2 ^ k2) {o:Array (Option Nat)} {k:Nat} (O:zdT mask o k) (hm:k < mask + 1) (h:Int):∃ j,layClean.free mask o (turns mask) (bits h % (mask + 1)) (bits h)=some j∧zdT mask (o.setIfInBounds j (some k)) (k + 1):=by
 obtain ⟨o1,o2,o3⟩:=O
 obtain ⟨r,hr,nr⟩:=ziv hk (Nat.mod_lt (bits h) (Nat.succ_pos _)) (zd9 h) (pl:=(List.range (mask + 1)).filter fun j=>(o.getD j none).isSome) (by
  show cnt (fun j=>o.getD j none) (mask + 1) < _
  omega)
 have lt:=zk5 (mask:=mask) (p:=bits h) (Nat.mod_lt (bits h) (Nat.succ_pos mask)) r
 have nn:(o.getD (tr mask (bits h % (mask + 1)) (bits h) r).1 none).isSome=false:=by
  cases q:(o.getD (tr mask (bits h % (mask + 1)) (bits h) r).1 none).isSome with
  | false=>rfl
  | true=>exact absurd (List.mem_filter.mpr ⟨List.mem_range.mpr lt,q⟩) nr
 have n0:(o.getD (tr mask (bits h % (mask + 1)) (bits h) r).1 (some 0)).isNone=true:=by
  generalize (tr mask (bits h % (mask + 1)) (bits h) r).1=z at nn lt
  rw [← o1] at lt
  rw [Array.getD_eq_getD_getElem?,Array.getElem?_eq_getElem lt] at nn ⊢
  cases w:o[z] with
  | none=>rfl
  | some y=>rw [w] at nn;cases nn
 obtain ⟨j,e,f⟩:=zbf (mask:=mask) (owner:=o) (turns mask) _ _ ⟨r,hr,n0⟩
 have lj:j < o.size:=by
  refine Classical.byContradiction fun z => ?_
  rw [Array.getD_eq_getD_getElem?,Array.getElem?_eq_none (by omega)] at f
  cases f
 have ej:o.getD j none=none:=by
  simp only [Array.getD_eq_getD_getElem?,Array.getElem?_eq_getElem lj,Option.getD_some] at f ⊢
  exact Option.isNone_iff_eq_none.mp f
 have gj:(o.setIfInBounds j (some k)).getD j none=some k:=by
  rw [Array.getD_eq_getD_getElem?,Array.getElem?_setIfInBounds,if_pos rfl,if_pos lj];rfl
 have gi:∀ i,i ≠ j→(o.setIfInBounds j (some k)).getD i none=o.getD i none:=fun i hi=>by
  rw [Array.getD_eq_getD_getElem?,Array.getElem?_setIfInBounds,if_neg (Ne.symm hi),← Array.getD_eq_getD_getElem?]
 refine ⟨j,e,by rw [Array.size_setIfInBounds,o1],?_,fun i q hq => ?_⟩
 ·rw [zem (f:=fun j=>o.getD j none) (j:=j) ej (by show ((o.setIfInBounds j (some k)).getD j none).isSome=true;rw [gj];rfl) gi,if_pos (by omega),o2]
 ·by_cases z:i=j
  ·subst z;rw [gj] at hq;cases hq;omega
  ·rw [gi i z] at hq;have:=o3 i q hq;omega
theorem zcK {mask k2:Nat} (hk:mask + 1=2 ^ k2):∀ (hs:List Int) (o:Array (Option Nat)) (k:Nat),zdT mask o k→k + hs.length ≤ mask →
  ∃ o',hs.foldl (fun (acc:Option (Array (Option Nat) × Nat)) h=>do
   let (owner,k) ← acc
   let j ← layClean.free mask owner (turns mask) (bits h % (mask + 1)) (bits h)
   pure (owner.setIfInBounds j (some k),k + 1)) (some (o,k))=some (o',k + hs.length)∧zdT mask o' (k + hs.length)
 | [],o,k,O,_=>⟨o,rfl,O⟩
 | h :: hs,o,k,O,hm=>by
  have hm' : k + (hs.length + 1) ≤ mask:=hm
  obtain ⟨j,e,O'⟩:=zg1 hk O (by omega) h
  obtain ⟨o',e',O''⟩:=zcK hk hs _ _ O' (by omega)
  refine ⟨o',?_,by rw [List.length_cons,show k + (hs.length + 1)=k + 1 + hs.length by omega];exact O''⟩
  rw [List.foldl_cons,List.length_cons,show k + (hs.length + 1)=k + 1 + hs.length by omega,← e']
  congr 1
  show (layClean.free mask o (turns mask) (bits h % (mask + 1)) (bits h)).bind _=_
  rw [e]
  rfl
theorem zb2 {mask k2:Nat} (hk:mask + 1=2 ^ k2) {hs:Array Int} (hm:hs.size ≤ mask):∃ o,layClean mask hs=some o∧zdT mask o hs.size:=by
 obtain ⟨o',e,O⟩:=zcK hk hs.toList (Array.replicate (mask + 1) none) 0 ⟨Array.size_replicate,by
  have:(fun j=>(Array.replicate (mask + 1) (none:Option Nat)).getD j none)=fun _=>none:=by
   funext j
   rw [Array.getD_eq_getD_getElem?,Array.getElem?_replicate]
   split <;> rfl
  rw [this,cnt_none],fun j q hq=>by
   rw [Array.getD_eq_getD_getElem?,Array.getElem?_replicate] at hq
   split at hq <;> cases hq⟩ (by rw [Array.length_toList];omega)
 rw [Array.length_toList,Nat.zero_add] at e O
 refine ⟨o',?_,O⟩
 unfold layClean
 rw [← Array.foldl_toList,e]
 rfl
theorem zaB (f:Nat→Option Nat):∀ N,((List.range N).filterMap fun j=>(f j).map fun q=>(j,q)).length=cnt f N
 | 0=>rfl
 | N + 1=>by
  rw [yO,← zaB f N,List.range_succ,List.filterMap_append,List.length_append]
  congr 1
  cases h:f N <;> simp [h]
theorem zcm {n:Nat} (hn:n < 8192):∀ (fuel j:Nat),3 ≤ j→j ≤ 13→13 < j + fuel→∃ k,3 ≤ k∧k ≤ 13∧sizeAbove.go n fuel (2 ^ j)=2 ^ k∧n < 2 ^ k
 | 0,j,_,h,h2=>by omega
 | fuel + 1,j,h0,h,h2=>by
  unfold sizeAbove.go
  split
  ·rename_i z
   have:j < 13:=Classical.byContradiction fun q=>by
    have:j=13:=by omega
    subst this
    have:(8192:Nat)=2 ^ 13:=by decide
    omega
   rw [← Nat.pow_succ]
   exact zcm hn fuel (j + 1) (by omega) (by omega) (by omega)
  ·exact ⟨j,h0,h,rfl,by omega⟩
theorem zgp {n:Nat} (hn:n < 8192):∃ k,3 ≤ k∧k ≤ 13∧sizeAbove n=2 ^ k∧n < 2 ^ k:=zcm hn 64 3 (by decide) (by decide) (by decide)
noncomputable def Tab (t:SetTable) (m:Nat):Prop:=t.dummies=#[]∧t.place.size=m∧m * 5 < t.mask * 3∧∃ k,3 ≤ k∧k ≤ 13∧t.mask + 1=2 ^ k
theorem zfB {t:SetTable} {hs:Array Int} (h0:1 ≤ hs.size) (h:hs.size < 2000):∃ t' order,t.relaid hs (grown hs.size)=some (t',order)∧Tab t' hs.size∧order.size=hs.size∧(∀ q ∈ order.toList,q < hs.size)∧sizeAbove (grown hs.size) ≤ 8192:=by
 have g:grown hs.size=hs.size * 4:=if_neg (by omega)
 obtain ⟨k,k3,k13,ek,lk⟩:=zgp (n:=hs.size * 4) (by omega)
 rw [← g] at ek
 have hm:sizeAbove (grown hs.size) - 1 + 1=2 ^ k:=by rw [ek];have:=Nat.two_pow_pos k;omega
 obtain ⟨o,e,o1,o2,o3⟩:=zb2 (mask:=sizeAbove (grown hs.size) - 1) hm (hs:=hs) (by omega)
 refine ⟨_,_,show (layClean _ hs).bind _=_ from by rw [e];rfl,⟨rfl,?_,?_,k,k3,k13,hm⟩,?_,fun q hq => ?_,by
  rw [ek];exact Nat.le_trans (Nat.pow_le_pow_right (by decide) k13) (by decide)⟩
 ·show ((((List.range _).filterMap fun j=>(o.getD j none).map fun q=>(j,q)).map (·.1)).toArray).size=_
  rw [List.size_toArray,List.length_map,zaB,o2]
 ·show hs.size * 5 < (sizeAbove (grown hs.size) - 1) * 3
  omega
 ·show ((((List.range _).filterMap fun j=>(o.getD j none).map fun q=>(j,q)).map (·.2)).toArray).size=_
  rw [List.size_toArray,List.length_map,zaB,o2]
 ·obtain ⟨⟨j,q'⟩,hp,rfl⟩:=List.mem_map.mp hq
  obtain ⟨i,_,hi⟩:=List.mem_filterMap.mp hp
  obtain ⟨v,hv,e2⟩:=Option.map_eq_some_iff.mp hi
  cases e2
  exact o3 _ _ hv
noncomputable def adv (t:SetTable) (p:Probe):Nat→Probe
 | 0=>p
 | m + 1=>t.advance (adv t p m)
theorem zd1 (t:SetTable) (p:Probe) (a:Nat):∀ b,adv t p (a + b)=adv t (adv t p a) b
 | 0=>rfl
 | b + 1=>by show t.advance (adv t p (a + b))=_;rw [zd1 t p a b];rfl
noncomputable def trP (t:SetTable) (i p:Nat):Probe:={ j:=i,more:=runEnd t.mask i - i,i,perturb:=p,dummy:=none }
theorem zd3 (t:SetTable) (p:Probe):∀ m,m ≤ p.more→adv t p m={ p with j:=p.j + m,more:=p.more - m }
 | 0,_=>rfl
 | m + 1,h=>by
  show t.advance (adv t p m)=_
  rw [zd3 t p m (by omega)]
  unfold advance
  rw [if_pos (show p.more - m > 0 by omega)]
  rfl
theorem zgr (t:SetTable) (i p:Nat):∃ s,s ≤ 10∧adv t (trP t i p) s=trP t (leap t.mask i p).1 (leap t.mask i p).2:=by
 have l:(trP t i p).more ≤ 9:=by show runEnd t.mask i - i ≤ 9;unfold runEnd;split <;> omega
 refine ⟨(trP t i p).more + 1,by omega,?_⟩
 show t.advance (adv t (trP t i p) (trP t i p).more)=_
 rw [zd3 t _ _ (Nat.le_refl _)]
 unfold advance
 rw [if_neg (by show ¬ (_ - _ > 0);omega)]
 rfl
theorem zh5 (t:SetTable) (i p:Nat):∀ r,∃ s,s ≤ 10 * r∧adv t (trP t i p) s=trP t (tr t.mask i p r).1 (tr t.mask i p r).2
 | 0=>⟨0,Nat.le_refl _,rfl⟩
 | r + 1=>by
  obtain ⟨s,hs,e⟩:=zh5 t i p r
  obtain ⟨s',hs',e'⟩:=zgr t (tr t.mask i p r).1 (tr t.mask i p r).2
  exact ⟨s + s',by omega,by rw [zd1,e,e'];rfl⟩
theorem zhP (t:SetTable) (h:Int):t.probeStart h=trP t (bits h % (t.mask + 1)) (bits h):=rfl
theorem zaY (t:SetTable) (p:Probe) (h:p.dummy=none):∀ m,(adv t p m).dummy=none
 | 0=>h
 | m + 1=>by
  show (t.advance (adv t p m)).dummy=none
  unfold advance
  split <;> exact zaY t p h m
theorem zad {t:SetTable} (hd:t.dummies=#[]) (j:Nat):t.slot j=.empty ∨ j ∈ t.place.toList∧∃ i,t.slot j=.live i∧i < t.place.size:=by
 unfold slot
 dsimp only
 by_cases h:(t.place[below t.place j]? == some j)=true
 ·rw [if_pos h]
  have e:=eq_of_beq h
  obtain ⟨l,e'⟩:=Array.getElem?_eq_some_iff.mp e
  exact .inr ⟨by have:=Array.getElem_mem_toList l;rw [e'] at this;exact this,_,rfl,l⟩
 ·rw [if_neg h]
  have:has t.dummies j=false:=by rw [hd];unfold has;simp
  rw [this]
  exact .inl rfl
theorem zd2 {t:SetTable} {m:Nat} (T:Tab t m) (h:Int):∃ M,M < 10 * turns t.mask∧t.slot (adv t (t.probeStart h) M).j=.empty:=by
 obtain ⟨hd,hm,hr,k,_,_,hk⟩:=T
 obtain ⟨r,hr,nr⟩:=ziv hk (Nat.mod_lt (bits h) (Nat.succ_pos _)) (zd9 h) (pl:=t.place.toList) (by rw [Array.length_toList];omega)
 obtain ⟨s,hs,e⟩:=zh5 t (bits h % (t.mask + 1)) (bits h) r
 refine ⟨s,by omega,?_⟩
 rw [zhP,e]
 rcases zad hd (tr t.mask (bits h % (t.mask + 1)) (bits h) r).1 with q | ⟨q,_⟩
 ·exact q
 ·exact absurd q nr
theorem zcS {t:SetTable} (hd:t.dummies=#[]) (f:Nat→Int) (h:Int) {p:Probe} (hp:p.dummy=none) {M:Nat} (hM:t.slot (adv t p M).j=.empty):∀ (fuel m:Nat),m ≤ M→M - m < fuel →
  (∃ j,probe.go t f h fuel (adv t p m)=some (.empty j none)) ∨ ∃ j i m',m < m'∧m' ≤ M∧probe.go t f h fuel (adv t p m)=some (.candidate j i (adv t p m'))∧t.slot j=.live i∧i < t.place.size
 | 0,m,_,h2=>absurd h2 (Nat.not_lt_zero _)
 | fuel + 1,m,h1,h2=>by
  unfold probe.go
  rcases zad hd (adv t p m).j with q | ⟨_,i,q,li⟩
  ·rw [q]
   exact .inl ⟨_,by dsimp only;rw [zaY t p hp m]⟩
  ·have ne:m ≠ M:=fun e=>by subst e;rw [hM] at q;cases q
   rw [q]
   dsimp only
   split
   ·exact .inr ⟨_,i,m + 1,by omega,by omega,rfl,q,li⟩
   ·rcases zcS hd f h hp hM fuel (m + 1) (by omega) (by omega) with w | ⟨j,i',m',a,b,c⟩
    ·exact .inl w
    ·exact .inr ⟨j,i',m',by omega,b,c⟩
end L2.Y
namespace L2.Y
open PySem SetTable
section
variable {prog:Program} {w:World} {A:Around} {E:Value→Shared→Prop} {s:Shared} {a:Addr} {ks:List Int}
noncomputable abbrev TK (prog:Program) (w:World) (h:Heap) (ks:List Int) (a:Addr):Prop:=IsTupleKey (intKind prog w) h ks a
theorem items_int {ks:List Int} {vs:List Value} (r:ItemsAre (intKind prog w) ks vs):∀ v ∈ vs,∃ i t,v=.int i t:=by
 induction r with
 | nil=>intro v h;cases h
 | @cons k u _ _ h _ ih =>
  intro v hv
  rcases List.mem_cons.mp hv with rfl | hv
  ·have q:v.isInt k=true:=h
   cases v <;> simp [Value.isInt] at q
   exact ⟨_,_,rfl⟩
  ·exact ih v hv
theorem zah {Q:Bool→Shared→Prop} (hk:TK prog w s.heap ks a) (h:Q false s):wpAny (model prog w) A (ofAClassStatement 8 (.ref a)) Q E s:=by
 have hT:=hk.typeIs
 obtain ⟨o,items,n,ho,_,hd,hi⟩:=hk
 unfold ofAClassStatement
 refine wpAny_bind (wpAny_typeOf hT ?_)
 dsimp only
 rw [if_pos (by decide)]
 refine wpAny_bind (wpAny_pure ?_)
 simp only [Bool.not_true,Bool.false_eq_true,if_false]
 refine wpAny_bind (wpAny_seqItems ho hd ?_)
 dsimp only
 refine wpAny_bind ?_
 rw [← Array.forIn_toList]
 refine wpAny_forIn_list _ (fun rest r s'=>r=(none,())∧s'=s∧∀ v ∈ rest,∃ i t,v=.int i t) _ ?_ ?_ _ _ ⟨rfl,rfl,items_int hi⟩
 ·rintro v rest r s' ⟨rfl,rfl,hall⟩
  obtain ⟨i,t,rfl⟩:=hall v List.mem_cons_self
  refine wpAny_bind (wpAny_of_eq (show ofAClassStatement 7 (.int i t)=pure false by unfold ofAClassStatement;rfl) ?_)
  simp only [Bool.false_eq_true,if_false]
  exact wpAny_pure ⟨rfl,rfl,fun u hu'=>hall u (List.mem_cons_of_mem _ hu')⟩
 ·rintro r s' ⟨rfl,rfl,_⟩
  exact wpAny_pure h
theorem zgg {Q:Bool→Shared→Prop} {st:List Value} (hk:TK prog w s.heap ks a) (hst:∀ v ∈ st,∃ k' b,v=.ref b∧TK prog w s.heap k' b) (h:Q false s):wpAny (model prog w) A (searchCouldBeSeen (.ref a) st) Q E s:=by
 unfold searchCouldBeSeen
 refine wpAny_bind ?_
 refine wpAny_forIn_list _ (fun rest r s'=>r=(none,())∧s'=s∧∀ v ∈ rest,∃ k' b,v=.ref b∧TK prog w s.heap k' b) _ ?_ ?_ _ _ ⟨rfl,rfl,hst⟩
 ·rintro v rest r s' ⟨rfl,rfl,hall⟩
  obtain ⟨k',b,rfl,hb⟩:=hall v List.mem_cons_self
  dsimp only
  split
  ·exact wpAny_pure ⟨rfl,rfl,fun u hu'=>hall u (List.mem_cons_of_mem _ hu')⟩
  ·refine wpAny_bind (wpAny_eqIsQuiet_tuple hk ?_)
   simp only [Bool.not_true,Bool.false_eq_true,if_false]
   refine wpAny_bind (wpAny_eqIsQuiet_tuple hb ?_)
   simp only [Bool.not_true,Bool.false_eq_true,if_false]
   refine wpAny_bind (zah hk ?_)
   simp only [Bool.false_eq_true,if_false]
   refine wpAny_bind (zah hb ?_)
   simp only [Bool.false_eq_true,if_false]
   exact wpAny_pure ⟨rfl,rfl,fun u hu'=>hall u (List.mem_cons_of_mem _ hu')⟩
 ·rintro r s' ⟨rfl,rfl,_⟩
  exact wpAny_pure h
theorem zdI {Q:Bool→Shared→Prop} (hk:TK prog w s.heap ks a) (h:Q true s):wpAny (model prog w) A (hashByValue 8 (.ref a)) Q E s:=by
 have hT:=hk.typeIs
 obtain ⟨o,items,n,ho,_,hd,hi⟩:=hk
 unfold hashByValue
 refine wpAny_bind (wpAny_specialOf hT F.slot_tuple_hash.lookup ?_)
 dsimp only
 refine wpAny_bind (wpAny_seqItems ho hd ?_)
 dsimp only [Option.getD]
 refine wpAny_bind ?_
 rw [← Array.forIn_toList]
 refine wpAny_forIn_list _ (fun rest r s'=>r=(none,())∧s'=s∧∀ v ∈ rest,∃ i t,v=.int i t) _ ?_ ?_ _ _ ⟨rfl,rfl,items_int hi⟩
 ·rintro v rest r s' ⟨rfl,rfl,hall⟩
  obtain ⟨i,t,rfl⟩:=hall v List.mem_cons_self
  refine wpAny_bind (wpAny_of_eq (show hashByValue 7 (.int i t)=pure true by unfold hashByValue;rfl) ?_)
  simp only [Bool.not_true,Bool.false_eq_true,if_false]
  exact wpAny_pure ⟨rfl,rfl,fun u hu'=>hall u (List.mem_cons_of_mem _ hu')⟩
 ·rintro r s' ⟨rfl,rfl,_⟩
  exact wpAny_pure h
theorem Tab.fits {t:SetTable} {m:Nat} (T:Tab t m):t.fits m=true:=by
 obtain ⟨hd,hm,hr,_⟩:=T
 unfold SetTable.fits SetTable.fill
 rw [hd,hm]
 simp
 omega
theorem Tab.odd {t:SetTable} {m:Nat} (T:Tab t m):t.gaveWay=false:=by
 obtain ⟨_,_,_,k,k3,_,hk⟩:=T
 unfold SetTable.gaveWay
 obtain ⟨j,rfl⟩:∃ j,k=j + 1:=⟨k - 1,by omega⟩
 rw [Nat.pow_succ] at hk
 simp
 omega
theorem Tab.small {t:SetTable} {m:Nat} (T:Tab t m):10 * turns t.mask < 100000:=by
 obtain ⟨_,_,_,k,_,k13,hk⟩:=T
 have:2 ^ k ≤ 2 ^ 13:=Nat.pow_le_pow_right (by decide) k13
 have:(2:Nat) ^ 13=8192:=by decide
 unfold turns
 omega
theorem zbP {S:Addr} {o:Obj} {es:Array (Int × Value)} {ep:Nat} {t:SetTable} (h:Int) {Q:SetFound→Shared→Prop} (hu:A.units < cLine) (hk:TK prog w s.heap ks a)
  (ho:s.heap.get? S=some o) (hd:o.data=.set es ep t) (T:Tab t es.size) (hes:∀ e ∈ es.toList,∃ k' b,e.2=.ref b∧TK prog w s.heap k' b∧k' ≠ ks) {M:Nat} (hM:t.slot (adv t (t.probeStart h) M).j=.empty) (lM:M < 10 * turns t.mask) (q:∀ j,Q (.free j false) s) :
  ∀ (fuel m:Nat) (stand:Option Probe),m ≤ M→M - m < fuel→stand.getD (t.probeStart h)=adv t (t.probeStart h) m→wpAny (model prog w) A (setSearchFrom S (.ref a) h true fuel stand) Q E s
 | 0,m,_,_,h2,_=>absurd h2 (Nat.not_lt_zero _)
 | fuel + 1,m,stand,h1,h2,hst=>by
  unfold setSearchFrom
  refine wpAny_bind (wpAny_setState_of ho hd T.fits ?_)
  dsimp only
  rw [T.odd]
  simp only [Bool.false_eq_true,if_false]
  rw [hst]
  unfold probe
  rcases zcS T.1 _ h (p:=t.probeStart h) rfl hM (10 * turns t.mask) m h1 (by omega) with ⟨j,e⟩ | ⟨j,i,m',l1,l2,e,sl,li⟩
  ·rw [e]
   exact wpAny_pure (q j)
  ·rw [e]
   dsimp only
   have li' : i < es.size:=by rw [← T.2.1];exact li
   have go:wpAny (model prog w) A (do
     let some (_,y):=es[i]? | unsupported "internal:set-entry"
     let equal ← holding [y] (eqBool y (.ref a))
     let (es',_,t') ← setState S
     if true && equal then return .there none
     let some same:=t'.sameMemory t.moves t.mask | unsupported "set.changed-during-lookup:is-the-new-block-at-the-old-address"
     let still ← match (if same then t'.slot j else .empty) with
      | .live i'=>match es'[i']? with
       | some (_,y')=>do pure (if ← isSame y' y then some i' else none)
       | none=>pure none
      | _=>pure none
     match still with
     | none=>rule "set.search.anew";setSearchFrom S (.ref a) h true fuel none
     | some i'=>if equal then return .there (some i') else setSearchFrom S (.ref a) h true fuel (some (adv t (t.probeStart h) m'))) Q E s:=by
    rw [Array.getElem?_eq_getElem li']
    obtain ⟨k',b,eb,hb,nk⟩:=hes es[i] (Array.getElem_mem_toList li')
    have eg:=Array.getElem?_eq_getElem li'
    generalize es[i]=z at eb eg
    obtain ⟨h',y⟩:=z
    obtain rfl:y=.ref b:=eb
    dsimp only
    refine wpAny_bind (wpAny_holding (wpAny_eqBool_tuple hu hb hk ?_))
    rw [decide_eq_false nk]
    refine wpAny_bind (wpAny_setState_of ho hd T.fits ?_)
    dsimp only
    simp only [Bool.and_false,Bool.false_eq_true,if_false]
    rw [show t.sameMemory t.moves t.mask=some true by unfold SetTable.sameMemory;rw [if_pos (by simp)]]
    dsimp only
    simp only [if_true]
    rw [sl]
    dsimp only
    rw [eg]
    refine wpAny_bind (wpAny_isSame_ref_self (wpAny_bind (wpAny_pure ?_)))
    exact zbP h hu hk ho hd T hes hM lM q fuel m' _ l2 (by omega) rfl
   by_cases hl:(!t.led)=true
   ·rw [if_pos hl]
    refine wpAny_bind (zgg hk (fun v hv => ?_) ?_)
    ·obtain ⟨e',he',rfl⟩:=List.mem_map.mp hv
     have he2:=(Array.mem_filter.mp (Array.mem_toList_iff.mp he')).1
     obtain ⟨k',b,eb,hb,_⟩:=hes e' (Array.mem_toList_iff.mpr he2)
     exact ⟨k',b,eb,hb⟩
    ·simp only [Bool.false_eq_true,if_false]
     exact go
   ·rw [if_neg hl]
    exact go
noncomputable def xC (h:Heap) (S:Addr) (ad:Nat→Addr) (i:Nat):Prop:=∃ o es ep t,h.get? S=some o∧o.ExactSet∧o.data=.set es ep t∧Tab t es.size∧es.size=i∧∀ e ∈ es.toList,∃ j,j < i∧e.2=.ref (ad j)
theorem xC.store {h:Heap} {S:Addr} {ad:Nat→Addr} {i:Nat} {o:Obj} {es es' : Array (Int × Value)} {ep:Nat} {t t' : SetTable} (ho:h.get? S=some o) (hex:o.ExactSet) (hd:o.data=.set es ep t) (T:Tab t' es'.size) (hs:es'.size=i) (hm:∀ e ∈ es'.toList,∃ j,j < i∧e.2=.ref (ad j)) :
  (h.update S (Obj.putSet es' t')).get? S=some { o with data:=.set es' (ep + 1) t' }∧xC (h.update S (Obj.putSet es' t')) S ad i:=by
 have hg:(h.update S (Obj.putSet es' t')).get? S=some { o with data:=.set es' (ep + 1) t' }:=by
  have:=Heap.get?_update_self (Obj.putSet es' t') ho (by rw [putSet_of es' t' hd];rfl)
  rw [putSet_of es' t' hd] at this;exact this
 exact ⟨hg,_,es',ep + 1,t',hg,hex,rfl,T,hs,hm⟩
theorem wQ {α:Type} (xs:Array α) (p:Nat) (x:α):(insertAt xs p x).size=xs.size + 1:=by
 rw [← Array.length_toList,(insertAt_perm xs p x).length_eq,Array.length_toList,Array.size_push]
theorem zfC {es:Array (Int × Value)} {order:Array Nat} (hz:order.size=es.size) (ho:∀ q ∈ order.toList,q < es.size):(order.filterMap (es[·]?)).size=es.size∧∀ e ∈ (order.filterMap (es[·]?)).toList,e ∈ es.toList:=by
 constructor
 ·rw [← hz,← Array.length_toList,Array.toList_filterMap,← Array.length_toList (xs:=order)]
  have:∀ l:List Nat,(∀ q ∈ l,q < es.size)→(l.filterMap (es[·]?)).length=l.length:=fun l=>by
   induction l with
   | nil=>exact fun _=>rfl
   | cons q l ih =>
    intro h
    rw [List.filterMap_cons,Array.getElem?_eq_getElem (h q (.head _))]
    exact congrArg (· + 1) (ih fun q' hq=>h q' (.tail _ hq))
  exact this _ ho
 ·intro e he
  rw [Array.toList_filterMap] at he
  obtain ⟨q,_,hq⟩:=List.mem_filterMap.mp he
  exact Array.mem_toList_iff.mpr (Array.mem_of_getElem? hq)
theorem zh1 {S:Addr} {ad:Nat→Addr} {i:Nat} {o:Obj} {es:Array (Int × Value)} {ep:Nat} {t:SetTable} {Q:Unit→Shared→Prop} (ho:s.heap.get? S=some o) (hex:o.ExactSet) (hd:o.data=.set es ep t) (hf:t.fits es.size=true) (hs:es.size=i) (h1:1 ≤ i) (h2:i < 2000) (hm:∀ e ∈ es.toList,∃ j,j < i∧e.2=.ref (ad j))
  (h:∀ h',Heap.SameBut S s.heap h'→xC h' S ad i→Q () { s with heap:=h' }):wpAny (model prog w) A (setRelay S (grown i)) Q E s:=by
 obtain ⟨t',order,e1,T,e2,e3,e4⟩:=zfB (t:=t) (hs:=es.map (·.1)) (by rw [Array.size_map];omega) (by rw [Array.size_map];omega)
 rw [Array.size_map,hs] at e1 T e2 e3 e4
 obtain ⟨z1,z2⟩:=zfC (es:=es) (order:=order) (by rw [e2,hs]) (by rw [hs];exact e3)
 unfold setRelay
 refine wpAny_bind (wpAny_setState_of ho hd hf ?_)
 dsimp only
 rw [if_neg (by have:=sizeLine_eq;omega)]
 rw [e1]
 refine wpAny_bind ?_
 show wpAny _ _ (if ((order.filterMap (es[·]?)).size != es.size)=true then _ else _) _ _ _
 rw [z1]
 simp only [bne_self_eq_false,Bool.false_eq_true,if_false]
 refine wpAny_pure ?_
 have hz:(order.filterMap (es[·]?)).size=i:=by rw [z1,hs]
 have st:=xC.store (ad:=ad) (t':=t') (es':=order.filterMap (es[·]?)) ho hex hd (by rw [hz];exact T) hz fun e he=>hm e (z2 e he)
 exact wpAny_storeSet_of ho hd (h _ (Heap.SameBut.update s.heap S _) st.2) (by rw [hz,sizeLine_eq];omega)
theorem zk9 {S:Addr} {ad:Nat→Addr} {key:Nat→List Int} {i:Nat} (hh:Int) {Q:Bool→Shared→Prop} (hu:A.units < cLine) (h2:i + 1 < 2000) (hk:∀ j,j ≤ i→TK prog w s.heap (key j) (ad j)) (ne:∀ j,j < i→key j ≠ key i) (hS:xC s.heap S ad i)
  (h:∀ h',Heap.SameBut S s.heap h'→xC h' S ad (i + 1)→Q true { s with heap:=h' }):wpAny (model prog w) A (setAddHashed S (.ref (ad i)) hh) Q E s:=by
 obtain ⟨o,es,ep,t,ho,hex,hd,T,hs,hm⟩:=hS
 unfold setAddHashed setAddHashedIn
 refine wpAny_holding (wpAny_bind (wpAny_setState_of ho hd T.fits ?_))
 dsimp only
 rw [show byScan (.ref (ad i)) es=false from rfl]
 simp only [Bool.false_eq_true,if_false]
 obtain ⟨M,lM,eM⟩:=zd2 T hh
 refine wpAny_bind ?_
 unfold setSearch
 refine zbP (ks:=key i) hh hu (hk i (Nat.le_refl _)) ho hd T (fun e he => ?_) eM lM (fun j => ?_) 100000 0 none (Nat.zero_le _) (by have:=T.small;omega) rfl
 ·obtain ⟨j,hj,ej⟩:=hm e he
  exact ⟨key j,ad j,ej,hk j (by omega),ne j hj⟩
 ·dsimp only
  refine wpAny_bind (wpAny_setState_of ho hd T.fits ?_)
  dsimp only
  obtain ⟨td,tp,tr,k,k3,k13,hk2⟩:=T
  have k8:8 ≤ 2 ^ k:=Nat.le_trans (by decide:8 ≤ 2 ^ 3) (Nat.pow_le_pow_right (by decide) k3)
  have pm:∀ p:Nat,∀ e ∈ (insertAt es p (hh,.ref (ad i))).toList,∃ j,j < i + 1∧e.2=.ref (ad j):=fun p e he=>by
   have he2:=(insertAt_perm es p (hh,.ref (ad i))).mem_iff.mp he
   rw [Array.toList_push] at he2
   rcases List.mem_append.mp he2 with q | q
   ·obtain ⟨j,hj,ej⟩:=hm e q
    exact ⟨j,by omega,ej⟩
   ·rw [List.mem_singleton] at q
    subst q
    exact ⟨i,by omega,rfl⟩
  have fin:∀ t2:SetTable,t2.dummies=#[]→t2.place.size=i + 1→t2.mask=t.mask→wpAny (model prog w) A (do
    storeSet S (insertAt es (t.put j).2 (hh,.ref (ad i))) t2
    if (!false && t2.tooFull)=true then setRelay S (grown (es.size + 1))
    return true) Q E s:=fun t2 d2 p2 m2=>by
   have zs:(insertAt es (t.put j).2 (hh,Value.ref (ad i))).size=i + 1:=by rw [wQ,hs]
   have f2:t2.fits (insertAt es (t.put j).2 (hh,Value.ref (ad i))).size=true:=by
    rw [zs]
    unfold SetTable.fits SetTable.fill
    rw [d2,p2,m2]
    simp
    omega
   have hg:(s.heap.update S (Obj.putSet (insertAt es (t.put j).2 (hh,.ref (ad i))) t2)).get? S=some { o with data:=.set (insertAt es (t.put j).2 (hh,.ref (ad i))) (ep + 1) t2 }:=by
    have:=Heap.get?_update_self (Obj.putSet (insertAt es (t.put j).2 (hh,.ref (ad i))) t2) ho (by rw [putSet_of _ t2 hd];rfl)
    rw [putSet_of _ t2 hd] at this;exact this
   have sb:=Heap.SameBut.update s.heap S (Obj.putSet (insertAt es (t.put j).2 (hh,.ref (ad i))) t2)
   refine wpAny_bind (wpAny_storeSet_of ho hd ?_ (by rw [zs,sizeLine_eq];omega))
   by_cases hf:(!false && t2.tooFull)=true
   ·rw [if_pos hf,hs]
    refine wpAny_bind (zh1 (ad:=ad) hg hex rfl f2 zs (by omega) (by omega) (pm _) fun h' sb' st=>wpAny_pure (h h' (sb.trans sb') st))
   ·rw [if_neg hf]
    refine wpAny_pure (h _ sb ⟨_,_,_,t2,hg,hex,rfl,?_,zs,pm _⟩)
    rw [zs]
    refine ⟨d2,p2,?_,k,k3,k13,m2 ▸ hk2⟩
    have:t2.tooFull=false:=by simpa using hf
    unfold SetTable.tooFull SetTable.fill at this
    rw [d2,p2] at this
    simpa using this
  have pd:(t.put j).1.dummies=#[]:=by
   show (if has t.dummies j then eraseAt t.dummies (below t.dummies j) else t.dummies)=#[]
   rw [td]
   rw [if_neg (by unfold has;simp)]
  have pp:(t.put j).1.place.size=i + 1:=by
   show (insertAt t.place _ j).size=_
   rw [wQ,tp,hs]
  by_cases hp:(t.put j).1.plain=true
  ·rw [if_pos hp]
   refine wpAny_bind (zdI (hk i (Nat.le_refl _)) ?_)
   simp only [if_true]
   exact fin _ pd pp rfl
  ·rw [if_neg hp]
   refine wpAny_bind (wpAny_pure ?_)
   simp only [if_true]
   exact fin _ pd pp rfl
end
end L2.Y
namespace L2.Y
open PySem PySem.Spec PyProof.Rows SetTable
section
variable {prog:Program} {w:World} {A:Around} {R:Result→Shared→Prop} {I:Addr} {fp wr:List Addr} {G:Array GenState→Array GenState→Prop} {n:Nat} {P:Nat→Value→Prop} {St:Nat→Shared→Prop}
theorem xC.keep {h h' : Heap} {S:Addr} {ad:Nat→Addr} {i:Nat} (a:xC h S ad i) (k:∀ o,h.get? S=some o→h'.get? S=some o):xC h' S ad i:=by
 obtain ⟨o,es,ep,t,ho,r⟩:=a
 exact ⟨o,es,ep,t,k o ho,r⟩
theorem xC.ne {h:Heap} {S:Addr} {ad:Nat→Addr} {i:Nat} {ks:List Int} {b:Addr} (a:xC h S ad i) (k:TK prog w h ks b):b ≠ S:=fun e=>by
 subst e
 obtain ⟨o,es,ep,t,ho,hx,_⟩:=a
 obtain ⟨o',_,_,ho',hc,_⟩:=k
 rw [ho] at ho'
 cases ho'
 rw [hx.1] at hc
 simp at hc
theorem zkl (W:WalksS prog w A.in1 I fp wr G n P St) (S:Addr) (hSf:S ∉ fp) (ad:Nat→Addr) (key:Nat→List Int) (hval:∀ i v,P i v→v=.ref (ad i)) (hb:n < 1999) (hu:A.units + 1 < cLine) (ne:∀ i j,i < j→j < n→key i ≠ key j) :
  ∀ (k i:Nat) (s:Shared),n - i=k→i ≤ n→St i s→xC s.heap S ad i→(∀ j,j < n→TK prog w s.heap (key j) (ad j)∧ad j ∉ wr) →
  (∀ s',Moved (S :: wr) G s s'→xC s'.heap S ad n→R (.ok (.ret .none)) s')→codeAny (model prog w) A (.builtin "set.update.loop" ⟨[.ref S,.ref I],[]⟩) R s:=by
 have hSw:S ∉ wr:=fun h=>hSf (W.sub _ h)
 have hsub:∀ b ∈ wr,b ∈ S :: wr:=fun b hb=>List.mem_cons_of_mem _ hb
 intro k
 induction k with
 | zero =>
  intro i s hk hi hst hS hcon hR
  have hin:i=n:=by omega
  subst hin
  refine codeAny_builtin PyProof.Rows.F.entry_set_update_loop ?_
  rw [Around.under_plainId PyProof.Rows.F.plain_set_update_loop _]
  show wpAny _ A.in1 (pyNext (.ref I) >>= _) _ _ s
  refine wpAny_bind (W.done s _ _ hst fun s' hm => ?_)
  show wpAny _ A.in1 (ret Value.none) _ _ s'
  exact wpAny_pure (hR s' (hm.mono hsub) (hS.keep fun o e=>hm.heap S _ hSw e))
 | succ k ih =>
  intro i s hk hi hst hS hcon hR
  have hlt:i < n:=by omega
  refine codeAny_builtin PyProof.Rows.F.entry_set_update_loop ?_
  rw [Around.under_plainId PyProof.Rows.F.plain_set_update_loop _]
  show wpAny _ A.in1 (pyNext (.ref I) >>= _) _ _ s
  refine wpAny_bind (W.item i s _ _ hlt hst fun v s' hP hst' hm => ?_)
  obtain rfl:=hval i v hP
  have hS' : xC s'.heap S ad i:=hS.keep fun o e=>hm.heap S _ hSw e
  have hcon' : ∀ j,j < n→TK prog w s'.heap (key j) (ad j):=fun j hj=>by
   obtain ⟨⟨o,it,c,e,r⟩,z⟩:=hcon j hj
   exact ⟨o,it,c,hm.heap _ _ z e,r⟩
  show wpAny _ A.in1 (holding [Value.ref (ad i)] (setAdd S (.ref (ad i))) >>= _) _ _ s'
  refine wpAny_bind (wpAny_holding ?_)
  unfold setAdd
  refine wpAny_holding ?_
  refine wpAny_bind (wpAny_pyHash_tuple (knd:=intKind prog w) hu (hcon' i hlt) ?_)
  refine zk9 (s:={ s' with toks:=s'.toks + ((key i).length + 1) }) (key:=key) _ hu (by omega) (fun j hj=>hcon' j (by omega)) (fun j hj=>ne j i hj hlt) hS' fun h' hsb hS2 => ?_
  refine wpAny_pure ⟨plainId_quiet PyProof.Rows.F.plain_set_update_loop _,ih (i + 1) _ (by omega) hlt (W.frame _ s' _ _ hst' (Nat.le_add_right _ _) fun b hb o e => ?_) hS2 (fun j hj => ?_) fun s'' hm'' hS'' => ?_⟩
  ·rw [hsb.2 b (fun h:b=S=>hSf (by rw [← h];exact hb))];exact e
  ·refine ⟨?_,(hcon j hj).2⟩
   obtain ⟨o,it,c,e,r⟩:=hcon' j hj
   exact ⟨o,it,c,(hsb.2 _ (hS'.ne (hcon' j hj))).trans e,r⟩
  ·refine hR s'' (Moved.trans W.gtrans ((hm.mono hsub).then_heap (Nat.le_add_right _ _) fun b o hb e => ?_) hm'') hS''
   rw [hsb.2 b (fun h:b=S=>hb (by rw [h];exact List.mem_cons_self))];exact e
end
section
variable {prog:Program} {w:World} {A:Around} {E:Value→Shared→Prop} {s:Shared}
theorem zfM {h:Heap} {S:Addr} {led:Bool} {ad:Nat→Addr} (e:h.get? S=some { cls:=.type "set",dict:=none,data:=.set #[] 0 (.fresh 0 0 led) }):xC h S ad 0 :=
 ⟨_,#[],0,_,e,⟨rfl,rfl,rfl⟩,rfl,⟨rfl,rfl,by show 0 * 5 < 7 * 3;decide,3,by decide,by decide,rfl⟩,rfl,fun e he=>by simp at he⟩
noncomputable abbrev sO (b:Bool):Obj:={ cls:=.type "set",dict:=none,data:=.set #[] 0 (.fresh 0 0 b) }
set_option maxHeartbeats 3200000 in
theorem zef {l:Addr} {xs:Array Value} {Q:Value→Shared→Prop} (hh:A.handled=none) (hu:A.units + 8 < cLine) (ad:Nat→Addr) (key:Nat→List Int) (hl:s.heap.IsList l xs) (hit:∀ (i:Nat) (v:Value),xs[i]?=some v→v=.ref (ad i)) (hb:xs.size < 1999) (ne:∀ i j,i < j→j < xs.size→key i ≠ key j) (hk:∀ j,j < xs.size→TK prog w s.heap (key j) (ad j))
  (k:∀ h' tk,xC h' s.heap.objs.size ad xs.size→(∀ b o,s.heap.get? b=some o→h'.get? b=some o)→Q (.ref s.heap.objs.size) { s with heap:=h',toks:=tk }):wpAny (model prog w) A (call (.type "set") [.ref l]) Q E s:=by
 obtain ⟨_,_,q1⟩:=F.called_set.mro
 have q2:=F.called_set.made
 have q3:=F.called_set.sub
 refine wpAny_call (codeAny_of_tree (show wpAny _ _ (callAny (.type "set") _) _ _ _ from wpAny_pure ⟨Code.quiet_builtin _ (by decide +kernel),codeAny_builtin F.entry_type_call ?_⟩))
 rw [Around.under_plain (weight_type_call_type "set" [.ref l] []) rfl]
 have q4:=F.called_set.notType
 have q5:=F.called_set.canCreate
 have q6:=F.typeCall_set_1 (.ref l)
 repeat (any_goals (first | assumption | wp_step))
 refine codeAny_mono (code_set_new_1 (.ref l) (E:=E) (Q₁:=fun v s1=>∃ b,v=.ref s.heap.objs.size∧s1={ s with heap:=s.heap.push (sO b) }) fun b=>⟨b,rfl,rfl⟩) fun r s1 hr => ?_
 rcases r with e | f
 ·exact hr
 cases f with
 | ret v =>
  obtain ⟨b,rfl,rfl⟩:=hr
  have g0:(s.heap.push (sO b)).get? s.heap.objs.size=some (sO b):=Heap.get?_push_size _ rfl
  have gT:Shared.TypeIs { s with heap:=s.heap.push (sO b) } (.ref s.heap.objs.size) "set" := ⟨_,g0,rfl⟩
  have q7:=F.called_set.init.lookup
  have q8:=F.called_set.init.bind (.ref s.heap.objs.size)
  repeat (any_goals (first | assumption | wp_step))
  refine codeAny_mono (codeAny_call_builtin (R:=wants (fun r s2=>r=.none∧∃ h' tk,s2={ s with heap:=h',toks:=tk }∧xC h' s.heap.objs.size ad xs.size∧∀ b o,s.heap.get? b=some o→h'.get? b=some o) E) F.called_set.init.plain F.entry_set_init (check_set_init_1 gT ?_)) fun r2 s2 hr2 => ?_
  ·have lk:∀ j,j < xs.size→TK prog w ((s.heap.push (sO b)).push { cls:=.type "list_iterator",data:=.fields #[.ref l,.int 0 0] }) (key j) (ad j)∧ad j ∉ [(s.heap.push (sO b)).objs.size]:=fun j hj=>by
    obtain ⟨o,it,c,e,r⟩:=hk j hj
    refine ⟨⟨o,it,c,Heap.get?_push_of_some _ (Heap.get?_push_of_some _ e),r⟩,fun m => ?_⟩
    rw [Heap.size_push] at m
    have z1:=Heap.lt_size e
    rw [List.mem_singleton.mp m] at z1
    exact absurd z1 (Nat.not_lt.mpr (Nat.le_succ _))
   obtain ⟨⟨_,d1,_,d2⟩,e1,rfl,c1,rfl⟩:=hl
   have e2:(s.heap.push (sO b)).get? l=some { cls:=.type "list",dict:=d1,data:=.seq xs c1,slots:=d2 }:=Heap.get?_push_of_some _ e1
   have q9:=F.sub_list_set
   have q10:=F.sub_list_frozenset
   have q11:(Value.type "list" == Value.type "dict")=false:=by decide
   have hl2:(s.heap.push (sO b)).IsList l xs:=⟨_,e2,rfl,c1,rfl⟩
   unfold Builtin.«set.__init__» noKeywords Builtin.Frozenset.updateFrom
   generalize hP:pyIter=PI
   wp_walk
   subst hP
   refine wpAny_pyIter_list hl2 (wpAny_bind (wpAny_runValue ?_))
   have ll:l < s.heap.objs.size:=Heap.lt_size e1
   have n1:l ≠ (s.heap.push (sO b)).objs.size:=by rw [Heap.size_push];exact Nat.ne_of_lt (Nat.lt_succ_of_lt ll)
   have n2:s.heap.objs.size ∉ [(s.heap.push (sO b)).objs.size,l]:=by
    rw [Heap.size_push]
    intro m
    rcases List.mem_cons.mp m with m | m
    ·exact absurd m (Nat.ne_of_lt (Nat.lt_succ_self _))
    ·exact absurd (List.mem_singleton.mp m) (Nat.ne_of_gt ll)
   refine zkl (A:=A.in1.in1) ((Walks.list (show A.in1.in1.in1.handled=none from hh) _ l n1 xs).toS) s.heap.objs.size n2 ad key hit hb (show A.units + 1 + 1 + 1 < cLine by omega) ne xs.size 0 _ (by omega) (Nat.zero_le _) ⟨⟨_,Heap.get?_push_size _ rfl,rfl,rfl⟩,hl2.push _⟩ (zfM (Heap.get?_push_of_some _ g0)) lk fun s' hm hS => ?_
   obtain ⟨h',g',d',tk',os'⟩:=s'
   obtain rfl:g'=s.gens:=hm.gens
   obtain rfl:d'=s.drawn:=hm.drawn
   obtain rfl:os'=s.os:=hm.os
   refine (show wpAny _ _ _ _ _ _ from wpAny_pure (show wpAny _ _ (ret Value.none) _ _ _ from wpAny_pure ⟨rfl,h',tk',rfl,hS,fun c o e=>hm.heap c o (fun m => ?_) (Heap.get?_push_of_some _ (Heap.get?_push_of_some _ e))⟩))
   have lc:=Heap.lt_size e
   rw [Heap.size_push] at m
   rcases List.mem_cons.mp m with m | m
   ·exact absurd m (Nat.ne_of_lt lc)
   ·exact absurd (List.mem_singleton.mp m) (Nat.ne_of_lt (Nat.lt_succ_of_lt lc))
  ·rcases r2 with e | f2
   ·exact hr2
   cases f2 with
   | ret v =>
    obtain ⟨rfl,h',tk,rfl,hS,up⟩:=hr2
    repeat (any_goals (first | assumption | wp_step))
    exact k _ _ hS up
   | _=>exact hr2.elim
 | _=>exact hr.elim
end
end L2.Y
namespace L2.Y
open PySem PySem.Spec PyProof.Rows PySem.W
theorem kt:∀ {ds:List D} {ls:List (List Int)},zaf ds=some ls→ds=ls.map fun is=>PyData.tuple (is.map PyData.int)
 | [],ls,h=>by cases h;rfl
 | d :: ds,ls,h=>by
  unfold zaf at h
  rw [List.mapM_cons] at h
  obtain ⟨x,h1,h2⟩:=Option.bind_eq_some_iff.mp h
  obtain ⟨xs,h3,h4⟩:=Option.bind_eq_some_iff.mp h2
  cases h4
  have:=kt (ds:=ds) h3
  cases d <;> simp at h1
  rw [this,qe h1]
  rfl
theorem zcF {prog:Program} {w:World}:∀ {is:List Int} {vs:List Value},Vals (is.map V.int) vs→ItemsAre (intKind prog w) is vs
 | [],_,h=>by cases h;exact .nil
 | i :: is,_,h=>by
  cases h with
  | cons h r =>
   obtain ⟨t,rfl⟩:=h
   exact .cons (intKind_is _ _ _ _) (zcF r)
section
variable {X:Cx}
theorem zfm {e:Expr} {ga:Env'→Option (List D)} {p pos p2 pos2:Pos} (hu:X.A.units + 66 < cLine) (hgl:Gl X "len") (hml:X.mg "len" = none) (hgs:Gl X "set") (hms:X.mg "set" = none) (ha:PAd X [e] ga) (hc:autoParam (X.calm=true) aTc) (hs:autoParam (starEach [e] X.env=[(false,eval e X.env)]) aTc)
  (hs3:autoParam (starEach [.Call (.Name "set" p2) [e] [] pos2] X.env=[(false,eval (.Call (.Name "set" p2) [e] [] pos2) X.env)]) aTc) :
  PD X (.Call (.Name "len" p) [.Call (.Name "set" p2) [e] [] pos2] [] pos) (gA vQ ga):=by
 intro pins s σ H Q I hZq
 obtain ⟨F,O,ρ,d,r,e',k⟩:=hZq
 obtain ⟨ds,e1,e2⟩:=yf e'
 refine wpAny_Call_Name_kw (xo I hgl hml (by decide +kernel:bootBuiltins "len" = some (.builtin "len")) ?_)
 refine PyProof.Rows.callWith_builtin1 ?_ hs3 rfl
 rw [hs3]
 refine Calls.spliced_cons ?_
 refine Call_ (xo I hgs hms (by decide +kernel:bootBuiltins "set" = some (.type "set")) (PyProof.Rows.callWith_type1 (thn (ha pos2 pins s σ H (fun vs H1=>Same H H1∧Reps X.K (hide O H1) ds vs) I ⟨F,O,ρ,ds,r,e1,fun vs H1 s1 rb=>⟨s1,rb⟩⟩) fun us s1 ⟨vs,H1,I1,r1,sm,rb⟩ => ?_) hs rfl))
 unfold vQ at e2
 split at e2
 case h_2=>cases e2
 rename_i xs
 obtain ⟨ls,e3,e4⟩:=Option.bind_eq_some_iff.mp e2
 split at e4
 case isFalse=>cases e4
 rename_i hz
 cases e4
 obtain rfl:=kt e3
 cases rb with
 | cons b1 rb =>
  cases rb
  cases r1 with
  | @cons _ u1 _ _ q1 rr =>
   cases rr
   cases b1 with
   | @lst la vx _ sq rs =>
    obtain rfl:u1=Value.ref la:=q1
    obtain ⟨its,rv,p1,_⟩:=I1.list (X:=X) (.inl (Rd.same jd sq))
    have ni:its.length=ls.length:=by rw [← rv.length,← rs.length,List.length_map]
    have item:∀ i,∃ a:Addr,i < ls.length→vx[i]?=some (.ref a)∧TK X.prog X.w s1.heap (ls.getD i []) a:=fun i=>by
     by_cases h:i < ls.length
     ·obtain ⟨v,g1,g2⟩:=rs.get (i:=i) (d:=.tuple (ls[i].map PyData.int)) (by simp [h])
      cases g2 with
      | @tup b ws _ sb rb =>
       obtain ⟨itb,rb1,⟨o,eo,hco,c,hdo⟩,_⟩:=I1.tuple (X:=X) (.inl (.inl (jd _ _ sb)))
       rw [Reps.ints rb] at rb1
       refine ⟨b,fun _=>⟨g1,o,_,c,eo,hco,hdo,?_⟩⟩
       have:ls.getD i []=ls[i]:=by simp [h]
       rw [this]
       exact zcF rb1
     ·exact ⟨0,fun z=>absurd z h⟩
    let ad:Nat→Addr:=fun i=>Classical.choose (item i)
    have sp:∀ i,i < ls.length→vx[i]?=some (.ref (ad i))∧TK X.prog X.w s1.heap (ls.getD i []) (ad i):=fun i hi=>Classical.choose_spec (item i) hi
    refine zef (xs:=its.toArray) (I1.ok.hd hc) (by omega) ad (fun i=>ls.getD i []) p1.isList (fun i v h => ?_) (by rw [List.size_toArray,ni];exact hz.1) (fun i j hij hj => ?_) (fun j hj=>(sp j (by rw [List.size_toArray,ni] at hj;exact hj)).2) fun h' tk hS up=>Calls.spliced_nil ?_
    ·have h1:its[i]?=some v:=by simpa using h
     have hi:i < ls.length:=by
      have:=(List.getElem?_eq_some_iff.mp h1).1
      omega
     obtain ⟨u,g1,g2⟩:=rv.get (sp i hi).1
     rw [h1] at g1
     cases g1
     exact g2
    ·rw [List.size_toArray,ni] at hj
     have hi:i < ls.length:=by omega
     intro z
     simp only [List.getD_eq_getElem?_getD,List.getElem?_eq_getElem hj,List.getElem?_eq_getElem hi,Option.getD_some] at z
     exact (List.pairwise_iff_getElem.mp hz.2) i j hi hj hij z
    ·obtain ⟨o,es,ep,t,ho,hex,hd,T,he,_⟩:=hS
     have he:es.size=ls.length:=he.trans (by rw [List.size_toArray,ni])
     refine call_len_set (s:={ s1 with heap:=h',toks:=tk }) ho hex hd T.fits (by omega) ?_
     rw [he]
     exact ⟨.int ls.length,H1,I1.kept up,⟨_,rfl⟩,k _ H1 sm (.int _)⟩
end
end L2.Y
set_option maxHeartbeats 4000000
section
namespace L2.Y
open PySem
noncomputable def vj:GS :=
  (sRet (gA sumD (zc (gLs (jx 3 [1] (gIt seqD (g2 ixD (gVar 0) (gK (.int 1)))) (hTup 3 (jD (hName 0) (jD (hName 1) (jD (hName 2) hNil)))) (gBo (g2 inD (gVar 3) (gA tupD (zc (gVar 0) (zc (gVar 1) gNil))))) (gVar 2))) gNil)))
noncomputable def F_size_of:List D→Option D:=jn 2 vj
noncomputable def zbR:GS :=
  (sRet (gA jR (zc (gLs (jx 1 [0] (gItA qE (zc (gK (.int 1)) (zc (g2 addD (g2 ixD (gVar 0) (gK (.int 0))) (gK (.int 1))) gNil))) (hName 0) qd (gA (zt 2 F_size_of) (zc (gVar 1) (zc (gVar 0) gNil))))) gNil)))
noncomputable def F_sizes:List D→Option D:=jn 1 zbR
noncomputable def va:GS :=
  (sSeq (sAsg (hName 3) (gA tupD (zc (gA minD (zc (gVar 1) (zc (gVar 2) gNil))) (zc (gA maxD (zc (gVar 1) (zc (gVar 2) gNil))) gNil))))
  (sRet (gA sumD (zc (gLs (jx 1 [3] (gIt seqD (g2 ixD (gVar 0) (gK (.int 1)))) (hName 0) (gBo (g2 eqD (gSl (gVar 0) qq (jU (gK (.int 2)))) (gVar 1))) (g2 ixD (gVar 0) (gK (.int 2))))) gNil))))
noncomputable def F_between:List D→Option D:=jn 4 va
noncomputable def wj:GS :=
  (sRet (gA allD (zc (gLs (jx 2 [] (gItA zipT (zc (gVar 0) (zc (gVar 1) gNil))) (hTup 2 (jD (hName 0) (jD (hName 1) hNil))) qd (g2 ltD (gVar 0) (gVar 1)))) gNil)))
noncomputable def F_all_below:List D→Option D:=jn 2 wj
noncomputable def wk:GS :=
  (sSeq (sOwn 2 (jx 1 [0,1] (gItA qE (zc (gK (.int 1)) (zc (g2 addD (g2 ixD (gVar 0) (gK (.int 0))) (gK (.int 1))) gNil))) (hName 0) qd (gA (zt 3 F_between) (zc (gVar 1) (zc (gVar 2) (zc (gVar 0) gNil))))))
  (sSeq (zhH 2 (g2 subD (gVar 1) (gK (.int 1))) (g1 negD (gA (zt 2 F_size_of) (zc (gVar 0) (zc (gVar 1) gNil)))))
  (sRet (gA jR (zc (zar 2) gNil)))))
noncomputable def F_change_by:List D→Option D:=jn 3 wk
noncomputable def vc:GS :=
  (sRet (gA jR (zc (gLs (jx 2 [2] (gItA zipT (zc (gVar 0) (zc (gVar 1) gNil))) (hTup 2 (jD (hName 0) (jD (hName 1) hNil))) qd (g2 addD (gVar 0) (g2 qW (gVar 1) (gVar 2))))) gNil)))
noncomputable def F_changed:List D→Option D:=jn 3 vc
noncomputable def zbQ:GS :=
  (sRet (gA (zt 2 F_all_below) (zc (gVar 1) (zc (gA (zt 1 F_sizes) (zc (gVar 0) gNil)) gNil))))
noncomputable def F_rests:List D→Option D:=jn 2 zbQ
noncomputable def xc:GS :=
  (sSeq (sAsg (hName 8) (gA maxD (zc (g2 zdj (g2 ixD (gVar 5) (gVar 6)) (gVar 7)) (zc (gK (.int 0)) gNil))))
  (sSeq (sAsg (hName 5) (gA (zt 3 F_changed) (zc (gVar 5) (zc (g2 ixD (gVar 3) (gVar 6)) (zc (gVar 8) gNil)))))
  (zhD 4 addI (gVar 6) (gVar 8))))
noncomputable def xf:GS :=
  (sFor (gItA zew (zc (gVar 2) gNil)) (hTup 2 (jD (hName 6) (jD (hName 7) hNil)))
  xc)
noncomputable def vi:GS :=
  (sSeq (sAsg (hName 2) (gA (zt 1 F_sizes) (zc (gVar 0) gNil)))
  (sSeq (kf 3 (jx 1 [0] (gItA qE (zc (gK (.int 1)) (zc (g2 addD (g2 ixD (gVar 0) (gK (.int 0))) (gK (.int 1))) gNil))) (hName 0) qd (gA (zt 2 F_change_by) (zc (gVar 1) (zc (gVar 0) gNil)))))
  (sSeq (sOwn 4 (gF2 mulL (gLs (gLst (zc (gK (.int 0)) gNil))) (g2 ixD (gVar 0) (gK (.int 0)))))
  (sSeq (sAsg (hName 5) (gVar 1))
  (sSeq (wM (wz (gTr (gA (zt 2 F_all_below) (zc (gVar 5) (zc (gVar 2) gNil)))))
  xf)
  (sRet (gA tupD (zc (gVar 5) (zc (gA jR (zc (zar 4) gNil)) gNil)))))))))
noncomputable def F_settled:List D→Option D:=jn 9 vi
noncomputable def ziz:GS :=
  (sSeq (sAsg (hName 3) (gA jR (zc (gLs (jx 2 [] (gItA zipT (zc (gVar 1) (zc (gVar 2) gNil))) (hTup 2 (jD (hName 0) (jD (hName 1) hNil))) qd (g2 addD (gVar 0) (gVar 1)))) gNil)))
  (sRet (g2 ixD (gA (zt 2 F_settled) (zc (gVar 0) (zc (gVar 3) gNil))) (gK (.int 0)))))
noncomputable def F_put:List D→Option D:=jn 4 ziz
noncomputable def vk:GS :=
  (sRet (gA sumD (zc (gLs (jx 1 [0,1] (gIt seqD (gVar 2)) (hName 0) qd (gA (zt 3 F_between) (zc (gVar 1) (zc (gVar 2) (zc (gVar 0) gNil)))))) gNil)))
noncomputable def F_ties_to:List D→Option D:=jn 3 vk
noncomputable def wZ:GS :=
  (sRet (gA jR (zc (gLs (jx 1 [1,0,2] (gIt seqD (gVar 2)) (hName 0) (gBo (g2 geD (g2 ixD (gVar 1) (g2 subD (gVar 0) (gK (.int 1)))) (gA (zt 3 F_ties_to) (zc (gVar 2) (zc (gVar 0) (zc (gVar 3) gNil)))))) (gVar 0))) gNil)))
noncomputable def F_catching:List D→Option D:=jn 3 wZ
noncomputable def yN:GS :=
  (sSeq (sApp 3 (gVar 4))
  (sSeq (kf 2 (jx 1 [4] (gIt seqD (gVar 2)) (hName 0) (gBo (g2 jX (gVar 0) (gVar 1))) (gVar 0)))
  (sAsg (hName 4) (gA (zt 3 F_catching) (zc (gVar 0) (zc (gVar 1) (zc (gVar 2) gNil)))))))
noncomputable def zdQ:GS :=
  (sSeq (sIf (wz (gTr (gA (zt 2 F_rests) (zc (gVar 0) (zc (gVar 1) gNil)))))
  sNo
  sNil)
  (sSeq (sAsg (hName 2) (gLs (gLst (gItA qE (zc (gK (.int 1)) (zc (g2 addD (g2 ixD (gVar 0) (gK (.int 0))) (gK (.int 1))) gNil))))))
  (sSeq (sOwn 3 (gLst gNil))
  (sSeq (sAsg (hName 4) (gA (zt 3 F_catching) (zc (gVar 0) (zc (gVar 1) (zc (gVar 2) gNil)))))
  (sSeq (wM (gTr (gVar 4))
  yN)
  (sRet (gA jR (zc (zar 3) gNil))))))))
noncomputable def F_burn:List D→Option D:=jn 5 zdQ
noncomputable def xw:GS :=
  (sSeq (sAsg (hName 2) (gA sumD (zc (gLs (jx 1 [] (gIt seqD (gA (zt 2 F_burn) (zc (gVar 0) (zc (gVar 1) gNil)))) (hName 0) qd (gA lenD (zc (gVar 0) gNil)))) gNil)))
  (sRet (g2 eqD (gVar 2) (g2 ixD (gVar 0) (gK (.int 0))))))
noncomputable def F_is_lasting:List D→Option D:=jn 3 xw
noncomputable def jq (self:List D→Option D):GS :=
  (sSeq (sIf (wz (gTr (gVar 0)))
  (sRet (gK (.int 1)))
  sNil)
  (sSeq (sAsg (hName 1) (gK (.int 0)))
  (sSeq (sAsg (hName 2) (gK (.int 1)))
  (sSeq (sFor (gItA zew (zc (gVar 0) gNil)) (hTup 2 (jD (hName 3) (jD (hName 4) hNil)))
  (sSeq (kf 5 (jx 1 [] (gIt seqD (g2 addD (gSl (gVar 0) qq (jU (gVar 3))) (gSl (gVar 0) (jU (g2 addD (gVar 3) (gK (.int 1)))) qq))) (hName 0) qd (gSl (gVar 0) (jU (gK (.int 1))) qq)))
  (sSeq (zfH 1 (g2 qW (g2 qW (gVar 2) (g2 ixD (gVar 4) (gK (.int 0)))) (gA (zt 1 self) (zc (gVar 5) gNil))))
  (sAsg (hName 2) (g1 negD (gVar 2))))))
  (sRet (gVar 1))))))
noncomputable def F_determinant:Nat→List D→Option D
 | 0=>fun _=>none
 | k + 1=>jn 6 (jq (F_determinant k))
noncomputable def wl:GS :=
  (sSeq (sAsg (hName 2) (gLs (jx 1 [0] (gItA qE (zc (gK (.int 1)) (zc (g2 addD (g2 ixD (gVar 0) (gK (.int 0))) (gK (.int 1))) gNil))) (hName 0) qd (gA (zt 2 F_change_by) (zc (gVar 1) (zc (gVar 0) gNil))))))
  (sSeq (kf 3 (jx 1 [2,1] (gItA wK (zc (g2 ixD (gVar 0) (gK (.int 0))) gNil)) (hName 0) qd (gA (zt 1 (F_determinant 8)) (zc (g2 addD (g2 addD (gSl (gVar 1) qq (jU (gVar 0))) (gLs (gLst (zc (gVar 2) gNil)))) (gSl (gVar 1) (jU (g2 addD (gVar 0) (gK (.int 1)))) qq)) gNil))))
  (sRet (gA tupD (zc (gA (zt 1 (F_determinant 8)) (zc (gVar 2) gNil)) (zc (gA jR (zc (gVar 3) gNil)) gNil))))))
noncomputable def F_times_for:List D→Option D:=jn 4 wl
noncomputable def jS:GS :=
  (sSeq (sAsg (hName 4) (g2 modD (gVar 2) (gVar 3)))
  (sSeq (sAsg (hName 2) (gVar 3))
  (sAsg (hName 3) (gVar 4))))
noncomputable def qx:GS :=
  (sSeq (sAsg (hName 2) (gA absD (zc (gVar 0) gNil)))
  (sSeq (sAsg (hName 3) (gA absD (zc (gVar 1) gNil)))
  (sSeq (wM (gBo (g2 neD (gVar 3) (gK (.int 0))))
  jS)
  (sRet (gVar 2)))))
noncomputable def F_common_divisor:List D→Option D:=jn 5 qx
noncomputable def vm:GS :=
  (sRet (gA jR (zc (gLs (jx 2 [] (gItA zipT (zc (gVar 0) (zc (gVar 1) gNil))) (hTup 2 (jD (hName 0) (jD (hName 1) hNil))) qd (g2 subD (gVar 0) (gVar 1)))) gNil)))
noncomputable def F_without:List D→Option D:=jn 2 vm
noncomputable def vd:GS :=
  (sRet (gA jR (zc (gLs (jx 1 [] (gIt seqD (gA (zt 1 F_sizes) (zc (gVar 0) gNil))) (hName 0) qd (g2 subD (gVar 0) (gK (.int 1))))) gNil)))
noncomputable def F_fullest:List D→Option D:=jn 1 vd
noncomputable def xy:GS :=
  (sSeq (sAsg (hName 3) (gA zfV (zc (gA (zt 2 F_burn) (zc (gVar 0) (zc (g2 addD (g2 addD (gVar 1) (gA tupD (zc (gK (.int 0)) gNil))) (gVar 2)) gNil))) gNil)))
  (sSeq (kf 4 (jx 1 [3] (gItA qE (zc (gK (.int 1)) (zc (g2 addD (g2 ixD (gVar 0) (gK (.int 0))) (gK (.int 1))) gNil))) (hName 0) (gBo (g2 jX (gVar 0) (gVar 1))) (gVar 0)))
  (sRet (gA (zt 3 F_ties_to) (zc (gVar 0) (zc (g2 addD (gA lenD (zc (gVar 1) gNil)) (gK (.int 1))) (zc (gVar 4) gNil)))))))
noncomputable def F_least_heap:List D→Option D:=jn 5 xy
noncomputable def qb:GS :=
  (sSeq (sAsg (hName 3) (gA lenD (zc (gVar 1) gNil)))
  (sSeq (sAsg (hName 4) (gA (zt 3 F_least_heap) (zc (gVar 0) (zc (gVar 1) (zc (gSl (gVar 2) (jU (g2 addD (gVar 3) (gK (.int 1)))) qq) gNil)))))
  (sRet (gLs (jx 1 [1] (gItA qE (zc (gVar 4) (zc (g2 addD (g2 ixD (gVar 2) (gVar 3)) (gK (.int 1))) gNil))) (hName 0) qd (g2 addD (gVar 1) (gA tupD (zc (gVar 0) gNil))))))))
noncomputable def F_one_heap_longer:List D→Option D:=jn 5 qb
noncomputable def wf:GS :=
  (sExt 4 (gA (zt 3 F_one_heap_longer) (zc (gVar 0) (zc (gVar 5) (zc (gVar 1) gNil)))))
noncomputable def wg:GS :=
  (sSeq (sOwn 4 (gLst gNil))
  (sSeq (sFor (gIt seqD (gVar 2)) (hName 5)
  wf)
  (sFrz 4 (sAsg (hName 2) (gVar 4)))))
noncomputable def ve:GS :=
  (sSeq (sAsg (hName 1) (gA (zt 1 F_fullest) (zc (gVar 0) gNil)))
  (sSeq (sAsg (hName 2) (gLs (gLst (zc (gA tupD gNil) gNil))))
  (sSeq (sFor (gItA wK (zc (g2 ixD (gVar 0) (gK (.int 0))) gNil)) (hName 3)
  wg)
  (sRet (gA jR (zc (gVar 2) gNil))))))
noncomputable def F_lasting:List D→Option D:=jn 6 ve
noncomputable def vh:GS :=
  (sSeq (sAsg (hName 1) (gA jR (zc (gLs (jx 1 [] (gIt seqD (gA (zt 1 F_sizes) (zc (gVar 0) gNil))) (hName 0) qd (g2 qW (gK (.int 2)) (gVar 0)))) gNil)))
  (sRet (gA (zt 2 F_without) (zc (gVar 1) (zc (g2 ixD (gA (zt 2 F_settled) (zc (gVar 0) (zc (gVar 1) gNil))) (gK (.int 0))) gNil)))))
noncomputable def F_lift_of:List D→Option D:=jn 2 vh
noncomputable def zdR:GS :=
  (sSeq (sAsg (hName 2) (g2 addD (gK (.int 1)) (gA maxD (zc (gK (.int 0)) (zc (g1 negD (gA zg7 (zc (gVar 1) gNil))) gNil)))))
  (sRet (g2 ixD (gA (zt 2 F_settled) (zc (gVar 0) (zc (gA (zt 3 F_changed) (zc (gVar 1) (zc (gA (zt 1 F_lift_of) (zc (gVar 0) gNil)) (zc (gVar 2) gNil)))) gNil))) (gK (.int 0)))))
noncomputable def F_home:List D→Option D:=jn 3 zdR
noncomputable def zdS:GS :=
  (sRet (gA (zt 2 F_home) (zc (gVar 0) (zc (g2 qW (gA tupD (zc (gK (.int 0)) gNil)) (g2 ixD (gVar 0) (gK (.int 0)))) gNil))))
noncomputable def F_zero:List D→Option D:=jn 1 zdS
noncomputable def jr:GS :=
  (sIf (gOrT (wz (gTr (gA (zt 2 F_rests) (zc (gVar 0) (zc (gVar 1) gNil))))) (wz (gTr (gA (zt 2 F_is_lasting) (zc (gVar 0) (zc (gVar 1) gNil))))))
  sNo
  sNil)
noncomputable def F_refuse_unless_lasting:List D→Option D:=jn 2 jr
noncomputable def zdP:GS :=
  (sSeq (sExp (gA (zt 2 F_refuse_unless_lasting) (zc (gVar 0) (zc (gVar 1) gNil))))
  (sRet (gA (zt 2 F_home) (zc (gVar 0) (zc (gA jR (zc (gLs (jx 1 [] (gIt seqD (gVar 1)) (hName 0) qd (g1 negD (gVar 0)))) gNil)) gNil)))))
noncomputable def F_back:List D→Option D:=jn 2 zdP
noncomputable def xt:GS :=
  (sAsg (hName 4) (gA (zt 2 F_common_divisor) (zc (gVar 4) (zc (gVar 5) gNil))))
noncomputable def yc:GS :=
  (sSeq (sExp (gA (zt 2 F_refuse_unless_lasting) (zc (gVar 0) (zc (gVar 1) gNil))))
  (sSeq (sAsg (hTup 2 (jD (hName 2) (jD (hName 3) hNil))) (gA (zt 2 F_times_for) (zc (gVar 0) (zc (gVar 1) gNil))))
  (sSeq (sAsg (hName 4) (gVar 2))
  (sSeq (sFor (gIt seqD (gVar 3)) (hName 5)
  xt)
  (sRet (g2 zdj (gA absD (zc (gVar 2) gNil)) (gVar 4)))))))
noncomputable def F_order_of:List D→Option D:=jn 6 yc
noncomputable def xg:GS :=
  (sSeq (sIf (gBo (g2 ltD (gVar 1) (gA lenS (zc (gVar 0) gNil))))
  (sRet (g2 ixS (gVar 0) (gVar 1)))
  sNil)
  (sRet (gK (.int 0))))
noncomputable def F_law_cell_at:List D→Option D:=jn 2 xg
noncomputable def vg:GS :=
  (sSeq (sAsg (hName 2) (g2 modD (g2 qW (g2 addD (g2 addD (gA (zt 2 F_law_cell_at) (zc (gVar 0) (zc (gVar 1) gNil))) (g2 qW (gK (.int 7919)) (gVar 1))) (gK (.int 1))) (gK (.int 48271))) (gK (.int 2147483647))))
  (sRet (g2 modD (g2 addD (g2 addD (g2 qW (gVar 2) (gVar 2)) (g2 qW (gK (.int 7)) (gVar 2))) (gVar 1)) (gK (.int 2147483629)))))
noncomputable def F_law_mixed:List D→Option D:=jn 3 vg
noncomputable def vf:GS :=
  (sSeq (sAsg (hName 2) (g2 modD (g2 qW (g2 addD (g2 addD (gVar 0) (g2 qW (gK (.int 104729)) (gVar 1))) (gK (.int 17))) (gK (.int 69621))) (gK (.int 2147483647))))
  (sRet (g2 modD (g2 addD (g2 addD (g2 qW (gVar 2) (gVar 2)) (g2 qW (gK (.int 3)) (gVar 2))) (gVar 1)) (gK (.int 2147483629)))))
noncomputable def F_law_drawn:List D→Option D:=jn 3 vf
noncomputable def xr:GS :=
  (zbG 4 (gA tupD (zc (g2 modD (gA (zt 2 F_law_drawn) (zc (gVar 0) (zc (gVar 5) gNil))) (gVar 5)) (zc (gVar 5) gNil))) (g2 addD (gK (.int 1)) (g2 modD (gA (zt 2 F_law_drawn) (zc (gVar 0) (zc (g2 addD (gK (.int 10)) (gVar 5)) gNil))) (gVar 2))))
noncomputable def jC:GS :=
  (sSeq (sAsg (hName 7) (g2 modD (gA (zt 2 F_law_drawn) (zc (gVar 0) (zc (g2 addD (gK (.int 20)) (gVar 6)) gNil))) (g2 addD (gVar 3) (gK (.int 1)))))
  (sSeq (sAsg (hName 8) (g2 modD (gA (zt 2 F_law_drawn) (zc (gVar 0) (zc (g2 addD (gK (.int 30)) (gVar 6)) gNil))) (g2 addD (gVar 3) (gK (.int 1)))))
  (sIf (gBo (g2 ltD (gVar 7) (gVar 8)))
  (zbG 4 (gA tupD (zc (gVar 7) (zc (gVar 8) gNil))) (g2 addD (gK (.int 1)) (g2 modD (gA (zt 2 F_law_drawn) (zc (gVar 0) (zc (g2 addD (gK (.int 40)) (gVar 6)) gNil))) (gVar 2))))
  sNil)))
noncomputable def qp:GS :=
  (sSeq (sAsg (hName 10) (g2 addD (gK (.int 1)) (g2 modD (gA (zt 2 F_law_drawn) (zc (gVar 0) (zc (g2 addD (gK (.int 60)) (gVar 5)) gNil))) (gVar 5))))
  (sAsg (hName 9) (g2 addD (g2 addD (gSl (gVar 9) qq (jU (gVar 10))) (gLs (gLst (zc (gVar 5) gNil)))) (gSl (gVar 9) (jU (gVar 10)) qq))))
noncomputable def qN:GS :=
  (sSeq (sAsg (hName 12) (g2 ixD (gVar 9) (gVar 7)))
  (sSeq (sAsg (hName 13) (g2 ixD (gVar 9) (gVar 8)))
  (sApp 11 (gA tupD (zc (gA minD (zc (gVar 12) (zc (gVar 13) gNil))) (zc (gA maxD (zc (gVar 12) (zc (gVar 13) gNil))) (zc (g2 zgx (zar 4) (gA tupD (zc (gVar 7) (zc (gVar 8) gNil)))) gNil)))))))
noncomputable def yb:GS :=
  (sSeq (sAsg (hName 3) (g2 addD (gK (.int 1)) (g2 modD (gVar 0) (gVar 1))))
  (sSeq (zin 4)
  (sSeq (sFor (gItA qE (zc (gK (.int 1)) (zc (g2 addD (gVar 3) (gK (.int 1))) gNil))) (hName 5)
  xr)
  (sSeq (sFor (gItA wK (zc (g2 modD (g2 zdj (gVar 0) (gK (.int 7))) (gK (.int 4))) gNil)) (hName 6)
  jC)
  (sSeq (sAsg (hName 9) (gLs (gLst (zc (gK (.int 0)) gNil))))
  (sSeq (sFor (gItA qE (zc (gK (.int 1)) (zc (g2 addD (gVar 3) (gK (.int 1))) gNil))) (hName 5)
  qp)
  (sSeq (sOwn 11 (gLst gNil))
  (sSeq (zkZ 4 (sFor (gIt zh7 (gVar 4)) (hTup 2 (jD (hName 7) (jD (hName 8) hNil)))
  qN))
  (sRet (gA tupD (zc (gVar 3) (zc (gA jR (zc (gLs (gItL zaR (zc (zar 11) gNil))) gNil)) gNil))))))))))))
noncomputable def F_law_yard:List D→Option D:=jn 14 yb
noncomputable def xx:GS :=
  (sRet (gA jR (zc (gLs (jx 1 [0,2] (gItA wK (zc (gVar 1) gNil)) (hName 0) qd (g2 modD (gA (zt 2 F_law_drawn) (zc (gVar 1) (zc (g2 addD (gK (.int 50)) (gVar 0)) gNil))) (g2 addD (gVar 2) (gK (.int 1)))))) gNil)))
noncomputable def F_law_grains:List D→Option D:=jn 3 xx
noncomputable def xq:GS :=
  (sAsg (hName 1) (g2 qW (gVar 1) (gA sumD (zc (gLs (jx 1 [2] (gIt seqD (g2 ixD (gVar 0) (gK (.int 1)))) (hName 0) (gBo (g2 inD (gVar 1) (gSl (gVar 0) qq (jU (gK (.int 2)))))) (g2 ixD (gVar 0) (gK (.int 2))))) gNil))))
noncomputable def ya:GS :=
  (sSeq (sAsg (hName 1) (gK (.int 1)))
  (sSeq (sFor (gItA qE (zc (gK (.int 1)) (zc (g2 addD (g2 ixD (gVar 0) (gK (.int 0))) (gK (.int 1))) gNil))) (hName 2)
  xq)
  (sRet (gVar 1))))
noncomputable def F_law_room:List D→Option D:=jn 3 ya
noncomputable def zai:GS :=
  (sSeq (sIf (gBo (g2 neD (g2 eqD (gVar 10) (gVar 4)) (g2 eqD (gVar 11) (g2 subD (gVar 9) (gK (.int 1))))))
  (sRet (gK (.bool false)))
  sNil)
  (sAsg (hName 10) (gA (zt 3 F_put) (zc (gVar 1) (zc (gVar 10) (zc (gVar 5) gNil))))))
noncomputable def ziy:GS :=
  (sSeq (sAsg (hName 1) (gA (zt 3 F_law_yard) (zc (gA (zt 2 F_law_mixed) (zc (gVar 0) (zc (gK (.int 0)) gNil))) (zc (gK (.int 3)) (zc (gK (.int 2)) gNil)))))
  (sSeq (sAsg (hName 2) (gA (zt 3 F_law_yard) (zc (gA (zt 2 F_law_mixed) (zc (gVar 0) (zc (gK (.int 0)) gNil))) (zc (gK (.int 5)) (zc (gK (.int 1)) gNil)))))
  (sSeq (sIf (zeI (gBo (g2 eqD (g2 modD (gA (zt 2 F_law_mixed) (zc (gVar 0) (zc (gK (.int 8)) gNil))) (gK (.int 3))) (gK (.int 1)))) (gBo (g2 leD (gA (zt 1 F_law_room) (zc (gVar 2) gNil)) (gK (.int 200)))))
  (sAsg (hName 1) (gVar 2))
  sNil)
  (sSeq (sAsg (hName 3) (gA (zt 1 F_lasting) (zc (gVar 1) gNil)))
  (sSeq (sAsg (hName 4) (gA (zt 1 F_zero) (zc (gVar 1) gNil)))
  (sSeq (sAsg (hName 5) (g2 ixD (gVar 3) (g2 modD (gA (zt 2 F_law_mixed) (zc (gVar 0) (zc (gK (.int 1)) gNil))) (gA lenD (zc (gVar 3) gNil)))))
  (sSeq (sAsg (hName 6) (g2 ixD (gVar 3) (g2 modD (gA (zt 2 F_law_mixed) (zc (gVar 0) (zc (gK (.int 2)) gNil))) (gA lenD (zc (gVar 3) gNil)))))
  (sSeq (kf 7 (jx 1 [1,4] (gIt seqD (gVar 3)) (hName 0) (gBo (g2 neD (gA (zt 3 F_put) (zc (gVar 1) (zc (gVar 0) (zc (gVar 2) gNil)))) (gVar 0))) (gVar 0)))
  (sSeq (sIf (gOrT (gBo (g2 jX (gVar 4) (gVar 3))) (gBo (g2 neD (gVar 7) (gLs (gLst gNil)))))
  (sRet (gK (.bool false)))
  sNil)
  (sSeq (sAsg (hName 8) (gA (zt 2 F_back) (zc (gVar 1) (zc (gVar 5) gNil))))
  (sSeq (sIf (gOrT (gBo (g2 jX (gVar 8) (gVar 3))) (gOrT (gBo (g2 neD (gA (zt 3 F_put) (zc (gVar 1) (zc (gVar 5) (zc (gVar 8) gNil)))) (gVar 4))) (gBo (g2 jX (gA (zt 3 F_put) (zc (gVar 1) (zc (gVar 5) (zc (gVar 6) gNil)))) (gVar 3)))))
  (sRet (gK (.bool false)))
  sNil)
  (sSeq (sIf (gBo (g2 neD (gA vQ (zc (gLs (jx 1 [1,5] (gIt seqD (gVar 3)) (hName 0) qd (gA (zt 3 F_put) (zc (gVar 1) (zc (gVar 0) (zc (gVar 2) gNil)))))) gNil)) (gA lenD (zc (gVar 3) gNil))))
  (sRet (gK (.bool false)))
  sNil)
  (sSeq (sAsg (hName 9) (gA (zt 2 F_order_of) (zc (gVar 1) (zc (gVar 5) gNil))))
  (sSeq (sAsg (hName 10) (gVar 5))
  (sSeq (sFor (gItA wK (zc (gVar 9) gNil)) (hName 11)
  zai)
  (sSeq (sIf (gOrT (gTr (g1 (isI zb0) (gVar 9))) (gBo (g2 neD (g2 modD (gA lenD (zc (gVar 3) gNil)) (gVar 9)) (gK (.int 0)))))
  (sRet (gK (.bool false)))
  sNil)
  (sSeq (sAsg (hName 12) (gA (zt 3 F_law_grains) (zc (gA (zt 2 F_law_mixed) (zc (gVar 0) (zc (gK (.int 3)) gNil))) (zc (g2 ixD (gVar 1) (gK (.int 0))) (zc (gK (.int 9)) gNil)))))
  (sSeq (sAsg (hName 13) (gA (zt 3 F_law_grains) (zc (gA (zt 2 F_law_mixed) (zc (gVar 0) (zc (gK (.int 4)) gNil))) (zc (g2 ixD (gVar 1) (gK (.int 0))) (zc (gK (.int 9)) gNil)))))
  (sSeq (sAsg (hName 14) (gA jR (zc (gLs (jx 2 [] (gItA zipT (zc (gVar 12) (zc (gVar 13) gNil))) (hTup 2 (jD (hName 0) (jD (hName 1) hNil))) qd (g2 addD (gVar 0) (gVar 1)))) gNil)))
  (sSeq (sIf (gOrT (gBo (g2 jX (gA (zt 2 F_home) (zc (gVar 1) (zc (gVar 12) gNil))) (gVar 3))) (gBo (g2 neD (gA (zt 2 F_home) (zc (gVar 1) (zc (gVar 5) gNil))) (gVar 5))))
  (sRet (gK (.bool false)))
  sNil)
  (sRet (g2 eqD (gA (zt 2 F_home) (zc (gVar 1) (zc (gVar 14) gNil))) (gA (zt 3 F_put) (zc (gVar 1) (zc (gA (zt 2 F_home) (zc (gVar 1) (zc (gVar 12) gNil))) (zc (gA (zt 2 F_home) (zc (gVar 1) (zc (gVar 13) gNil))) gNil))))))))))))))))))))))))))
noncomputable def F_law:List D→Option D:=jn 15 ziy
end L2.Y
end
namespace L2.Y
open PySem
noncomputable def zak (ns:List Int) (k:Int):Int:=if k < ns.length then ns.getD k.toNat 0 else 0
theorem ziD (ns:List Int) (k:Int) (h0:0 ≤ k):F_law_cell_at [scrD (ns.map .int),.int k]=some (.int (zak ns k)):=by
 by_cases q:k < ns.length
 ·have hk:k.toNat < ns.length:=by omega
  have e:atI (ns.map PyData.int) k=some (.int (ns.getD k.toNat 0)):=wn h0 (by simp [hk])
  simp [F_law_cell_at,xg,jn,xQ,sSeq,sIf,sRet,gBo,g2,zb3,gVar,gA,zc,gNil,zif,zll,e,za4,q,zak]
 ·simp [F_law_cell_at,xg,jn,xQ,sSeq,sIf,sRet,gK,gBo,g2,zb3,gVar,gA,zc,gNil,zif,za4,q,zak,sNil]
noncomputable def mixI (ns:List Int) (k:Int):Int:=(((zak ns k + 7919 * k + 1) * 48271 % 2147483647) * ((zak ns k + 7919 * k + 1) * 48271 % 2147483647) + 7 * ((zak ns k + 7919 * k + 1) * 48271 % 2147483647) + k) % 2147483629
theorem zg8 (ns:List Int) (k:Int) (h0:0 ≤ k):F_law_mixed [scrD (ns.map .int),.int k]=some (.int (mixI ns k)):=by
 have b1:=Int.emod_nonneg ((zak ns k + 7919 * k + 1) * 48271) (b:=2147483647) (by decide)
 have b2:=Int.emod_lt_of_pos ((zak ns k + 7919 * k + 1) * 48271) (b:=2147483647) (by decide)
 unfold mixI
 simp [F_law_mixed,vg,jn,xQ,sSeq,sAsg,sRet,gK,hName,gVar,gA,zc,gNil,g2,zQ,ziD ns k h0,qv,yk,zH,ja]
 generalize (zak ns k + 7919 * k + 1) * 48271 % 2147483647=z at *
 rw [qv (by omega) (by omega)]
 simp [zH,ja]
noncomputable def zW (n k:Int):Int:=(((n + 104729 * k + 17) * 69621 % 2147483647) * ((n + 104729 * k + 17) * 69621 % 2147483647) + 3 * ((n + 104729 * k + 17) * 69621 % 2147483647) + k) % 2147483629
theorem qy (n k:Int):F_law_drawn [.int n,.int k]=some (.int (zW n k)):=by
 have b1:=Int.emod_nonneg ((n + 104729 * k + 17) * 69621) (b:=2147483647) (by decide)
 have b2:=Int.emod_lt_of_pos ((n + 104729 * k + 17) * 69621) (b:=2147483647) (by decide)
 unfold zW
 simp [F_law_drawn,vf,jn,xQ,sSeq,sAsg,sRet,gK,hName,gVar,g2,qv,yk,zH,ja]
 generalize (n + 104729 * k + 17) * 69621 % 2147483647=z at *
 rw [qv (by omega) (by omega)]
 simp [zH,ja]
theorem zcu (n k:Int):0 ≤ zW n k:=Int.emod_nonneg _ (by decide)
noncomputable def pk (k:Int × Int):D:=.tuple [.int k.1,.int k.2]
noncomputable def fk (l:List ((Int × Int) × Int)):List (D × D):=l.map fun e=>(pk e.1,.int e.2)
theorem zeB (a b:Int × Int):PyData.eqv (pk a) (pk b)=decide (a=b):=by
 obtain ⟨a1,a2⟩:=a
 obtain ⟨b1,b2⟩:=b
 simp only [pk,PyData.eqv,PyData.eqvAll,Prod.mk.injEq]
 by_cases h1:a1=b1 <;> by_cases h2:a2=b2 <;> simp [h1,h2]
noncomputable def putL (l:List ((Int × Int) × Int)) (k:Int × Int) (m:Int):List ((Int × Int) × Int):=if (l.any fun e=>decide (e.1=k))=true then l.map (fun e=>if e.1=k then (e.1,m) else e) else l ++ [(k,m)]
theorem zjA (l:List ((Int × Int) × Int)) (k:Int × Int) (m:Int):putD (fk l) (pk k) (.int m)=fk (putL l k m):=by
 have ha:((fk l).any fun p=>PyData.eqv p.1 (pk k))=l.any fun e=>decide (e.1=k):=by
  unfold fk
  rw [List.any_map]
  congr 1
  funext e
  exact zeB e.1 k
 unfold putD putL
 rw [ha]
 by_cases q:(l.any fun e=>decide (e.1=k))=true
 ·rw [if_pos q,if_pos q]
  unfold fk
  rw [List.map_map,List.map_map]
  apply List.map_congr_left
  intro e _
  simp only [Function.comp,zeB]
  by_cases h:e.1=k <;> simp [h]
 ·rw [if_neg q,if_neg q]
  unfold fk
  rw [List.map_append]
  rfl
theorem zg5 (l:List ((Int × Int) × Int)) (k:Int × Int):zaC (fk l) (pk k)=(l.find? fun e=>decide (e.1=k)).map fun e=>.int e.2:=by
 induction l with
 | nil=>rfl
 | cons e l ih =>
  unfold zaC fk at ih ⊢
  rw [List.map_cons,List.find?_cons,List.find?_cons]
  simp only [zeB]
  by_cases h:e.1=k
  ·simp [h]
  ·simp [h];simpa using ih
theorem ka (l:List ((Int × Int) × Int)) (k:Int × Int) (m:Int):(putL l k m).map (·.1)=if k ∈ l.map (·.1) then l.map (·.1) else l.map (·.1) ++ [k]:=by
 unfold putL
 by_cases q:(l.any fun e=>decide (e.1=k))=true
 ·have hm:k ∈ l.map (·.1):=by
   obtain ⟨e,he,h⟩:=List.any_eq_true.mp q
   exact List.mem_map.mpr ⟨e,he,of_decide_eq_true h⟩
  rw [if_pos q,if_pos hm,List.map_map]
  apply List.map_congr_left
  intro e _
  simp only [Function.comp]
  split <;> rfl
 ·have hm:k ∉ l.map (·.1):=fun h=>by
   obtain ⟨e,he,h⟩:=List.mem_map.mp h
   exact q (List.any_eq_true.mpr ⟨e,he,decide_eq_true h⟩)
  rw [if_neg q,if_neg hm,List.map_append]
  rfl
theorem zdz {l:List ((Int × Int) × Int)} {k:Int × Int} {m:Int} (h:(l.map (·.1)).Nodup):((putL l k m).map (·.1)).Nodup:=by
 rw [ka]
 split
 ·exact h
 ·rename_i hk
  rw [List.nodup_append]
  exact ⟨h,by simp,fun a ha b hb=>by simp at hb;subst hb;exact fun z=>hk (z ▸ ha)⟩
theorem zcV (l:List ((Int × Int) × Int)) (k:Int × Int) (m:Int):(putL l k m).length ≤ l.length + 1:=by
 unfold putL
 split
 ·simp
 ·simp
theorem zhv {l:List ((Int × Int) × Int)} {k:Int × Int} {m:Int} {e:(Int × Int) × Int} (h:e ∈ putL l k m):e=(k,m) ∨ e ∈ l:=by
 unfold putL at h
 split at h
 ·obtain ⟨e',he,rfl⟩:=List.mem_map.mp h
  by_cases q:e'.1=k
  ·rw [if_pos q];left;rw [q]
  ·rw [if_neg q];exact .inr he
 ·rcases List.mem_append.mp h with h | h
  ·exact .inr h
  ·left;simpa using h
theorem zhu {l:List ((Int × Int) × Int)} {k:Int × Int} {m:Int}:k ∈ (putL l k m).map (·.1):=by
 rw [ka]
 split
 ·assumption
 ·simp
theorem zcW {l:List ((Int × Int) × Int)} {k j:Int × Int} {m:Int} (h:j ∈ l.map (·.1)):j ∈ (putL l k m).map (·.1):=by
 rw [ka]
 split
 ·exact h
 ·exact List.mem_append_left _ h
end L2.Y
namespace L2.Y
open PySem
noncomputable abbrev vI (i:Int):Option En:=some (.val (.int i))
noncomputable abbrev dT (l:List ((Int × Int) × Int)):Option En:=some (.own (.dict ((.none,.none) :: fk l)))
structure FoundOk (count wide:Int) (l:List ((Int × Int) × Int)):Prop where
 nd:(l.map (·.1)).Nodup
 rng:∀ e ∈ l,0 ≤ e.1.1∧e.1.1 < e.1.2∧e.1.2 ≤ count∧1 ≤ e.2∧e.2 ≤ wide
theorem FoundOk.put {count wide:Int} {l:List ((Int × Int) × Int)} {a b m:Int} (h:FoundOk count wide l) (h1:0 ≤ a) (h2:a < b) (h3:b ≤ count) (h4:1 ≤ m) (h5:m ≤ wide):FoundOk count wide (putL l (a,b) m):=by
 refine ⟨zdz h.nd,fun e he => ?_⟩
 rcases zhv he with q | q
 ·subst q;exact ⟨h1,h2,h3,h4,h5⟩
 ·exact h.rng e q
theorem zct {i:Nat} {gk ge:Env'→Option D} {ρ:Env'} {l:List ((Int × Int) × Int)} {a b m:Int} (h1:ge ρ=some (.int m)) (h2:gk ρ=some (.tuple [.int a,.int b])) (h3:ρ[i]?=some (dT l)) (h4:l.length < 16777216):zbG i gk ge ρ=some (.nxt (ρ.set i (dT (putL l (a,b) m)))):=by
 have e3:ownD i ρ=some (.dict ((.none,.none) :: fk l)):=by unfold ownD;rw [h3]
 have hl:(fk l).length < sizeLine:=by unfold fk;rw [List.length_map];exact h4
 unfold zbG
 rw [h1,Option.bind_some,h2,Option.bind_some,e3,Option.bind_some]
 show (if (fk l).length < sizeLine then _ else none)=_
 rw [if_pos hl]
 have:=zjA l (a,b) m
 unfold pk at this
 rw [this]
theorem zdJ (n most wide count:Int) (hw:1 ≤ wide) (hc:0 ≤ count) (hc5:count ≤ 100):∃ l x5,forF (hName 5) xr (zT 1 count.toNat) [vI n,vI most,vI wide,vI count,dT [],none,none,none,none,none,none,none,none,none] =
  some (.nxt [vI n,vI most,vI wide,vI count,dT l,x5,none,none,none,none,none,none,none,none])∧FoundOk count wide l∧(∀ p:Int,1 ≤ p→p ≤ count→∃ a,(a,p) ∈ l.map (·.1))∧(l.length:Int) ≤ count:=by
 obtain ⟨ρ',e,l,x5,rfl,h1,h2,h3⟩:=jI (h:=hName 5) (gb:=xr) (fun i ρ=>∃ l x5,ρ=[vI n,vI most,vI wide,vI count,dT l,x5,none,none,none,none,none,none,none,none]∧FoundOk count wide l∧(∀ p:Int,1 ≤ p→p ≤ i→∃ a,(a,p) ∈ l.map (·.1))∧l.length ≤ i)
  (zT 1 count.toNat) 0 [vI n,vI most,vI wide,vI count,dT [],none,none,none,none,none,none,none,none,none] ⟨[],none,rfl,⟨List.nodup_nil,fun e h=>by simp at h⟩,fun p h1 h2=>by omega,Nat.le_refl _⟩ (fun k d ρ hk hZq=>by
   obtain ⟨l,x5,hr,f1,f2,f3⟩:=hZq
   obtain ⟨hlt,rfl⟩:=qZ hk
   subst hr
   rw [Nat.zero_add] at f2 f3 ⊢
   have b1:=zcu n (1 + k)
   have b2:=zcu n (10 + (1 + k))
   have m1:=Int.emod_nonneg (zW n (1 + k)) (b:=1 + (k:Int)) (by omega)
   have m2:=Int.emod_lt_of_pos (zW n (1 + k)) (b:=1 + (k:Int)) (by omega)
   have m3:=Int.emod_nonneg (zW n (10 + (1 + k))) (b:=wide) (by omega)
   have m4:=Int.emod_lt_of_pos (zW n (10 + (1 + k))) (b:=wide) (by omega)
   refine ⟨_,_,rfl,zct (l:=l) (a:=zW n (1 + k) % (1 + k)) (b:=1 + k) (m:=1 + zW n (10 + (1 + k)) % wide) ?_ ?_ rfl (by omega),putL l (zW n (1 + k) % (1 + k),1 + k) (1 + zW n (10 + (1 + k)) % wide),_,rfl,f1.put m1 m2 (by omega) (by omega) (by omega),fun p p1 p2 => ?_,?_⟩
   ·have hw' : 0 < wide:=by omega
    simp [g2,gK,gA,zc,gNil,gVar,zQ,zH,qy,ja hw']
   ·have hk' : (0:Int) < 1 + k:=by omega
    simp [g2,gK,gA,zc,gNil,gVar,zQ,qy,ja hk',zf4]
   ·by_cases q:p=1 + k
    ·subst q;exact ⟨_,zhu⟩
    ·obtain ⟨a,ha⟩:=f2 p p1 (by push_cast at p2;omega)
     exact ⟨a,zcW ha⟩
   ·have:=zcV l (zW n (1 + k) % (1 + k),1 + (k:Int)) (1 + zW n (10 + (1 + k)) % wide)
    omega)
 rw [jp,Nat.zero_add] at h2 h3
 exact ⟨l,x5,e,h1,fun p p1 p2=>h2 p p1 (by omega),by omega⟩
theorem zdK (n most wide count:Int) (hw:1 ≤ wide) (hc:0 ≤ count) (hc5:count ≤ 100) (t:Nat) (ht:t ≤ 100) (l0:List ((Int × Int) × Int)) (x5:Option En) (h0:FoundOk count wide l0) (hl0:(l0.length:Int) ≤ count):∃ l x6 x7 x8,forF (hName 6) jC (zT 0 t) [vI n,vI most,vI wide,vI count,dT l0,x5,none,none,none,none,none,none,none,none] =
  some (.nxt [vI n,vI most,vI wide,vI count,dT l,x5,x6,x7,x8,none,none,none,none,none])∧FoundOk count wide l∧(∀ k ∈ l0.map (·.1),k ∈ l.map (·.1))∧(l.length:Int) ≤ count + t:=by
 obtain ⟨ρ',e,l,x6,x7,x8,rfl,h1,h2,h3⟩:=jI (h:=hName 6) (gb:=jC) (fun i ρ=>∃ l x6 x7 x8,ρ=[vI n,vI most,vI wide,vI count,dT l,x5,x6,x7,x8,none,none,none,none,none]∧FoundOk count wide l∧(∀ k ∈ l0.map (·.1),k ∈ l.map (·.1))∧(l.length:Int) ≤ count + i)
  (zT 0 t) 0 [vI n,vI most,vI wide,vI count,dT l0,x5,none,none,none,none,none,none,none,none] ⟨l0,none,none,none,rfl,h0,fun _ h=>h,by omega⟩ (fun k d ρ hk hZq=>by
   obtain ⟨l,x6,x7,x8,hr,f1,f2,f3⟩:=hZq
   obtain ⟨hlt,rfl⟩:=qZ hk
   subst hr
   have m1:=Int.emod_nonneg (zW n (20 + (0 + k))) (b:=count + 1) (by omega)
   have m2:=Int.emod_lt_of_pos (zW n (20 + (0 + k))) (b:=count + 1) (by omega)
   have m3:=Int.emod_nonneg (zW n (30 + (0 + k))) (b:=count + 1) (by omega)
   have m4:=Int.emod_lt_of_pos (zW n (30 + (0 + k))) (b:=count + 1) (by omega)
   have m5:=Int.emod_nonneg (zW n (40 + (0 + k))) (b:=wide) (by omega)
   have m6:=Int.emod_lt_of_pos (zW n (40 + (0 + k))) (b:=wide) (by omega)
   have hc' : 0 < count + 1:=by omega
   have hw' : 0 < wide:=by omega
   by_cases q:zW n (20 + (0 + k)) % (count + 1) < zW n (30 + (0 + k)) % (count + 1)
   ·refine ⟨_,_,rfl,?_,putL l (zW n (20 + (0 + k)) % (count + 1),zW n (30 + (0 + k)) % (count + 1)) (1 + zW n (40 + (0 + k)) % wide),vI (0 + k),vI (zW n (20 + (0 + k)) % (count + 1)),vI (zW n (30 + (0 + k)) % (count + 1)),rfl,f1.put m1 q (by omega) (by omega) (by omega),fun j hj=>zcW (f2 j hj),?_⟩
    ·have ed:=zct (i:=4) (gk:=gA tupD (zc (gVar 7) (zc (gVar 8) gNil))) (ge:=g2 addD (gK (.int 1)) (g2 modD (gA (zt 2 F_law_drawn) (zc (gVar 0) (zc (g2 addD (gK (.int 40)) (gVar 6)) gNil))) (gVar 2)))
      (ρ:=[vI n,vI most,vI wide,vI count,dT l,x5,vI (0 + k),vI (zW n (20 + (0 + k)) % (count + 1)),vI (zW n (30 + (0 + k)) % (count + 1)),none,none,none,none,none]) (l:=l) (a:=zW n (20 + (0 + k)) % (count + 1)) (b:=zW n (30 + (0 + k)) % (count + 1)) (m:=1 + zW n (40 + (0 + k)) % wide)
      (by simp [g2,gK,gA,zc,gNil,gVar,zQ,zH,qy,ja hw']) (by simp [g2,gK,gA,zc,gNil,gVar,zf4]) rfl (by omega)
     have e1:sAsg (hName 7) (g2 modD (gA (zt 2 F_law_drawn) (zc (gVar 0) (zc (g2 addD (gK (.int 20)) (gVar 6)) gNil))) (g2 addD (gVar 3) (gK (.int 1)))) [vI n,vI most,vI wide,vI count,dT l,x5,vI (0 + k),x7,x8,none,none,none,none,none]=some (.nxt [vI n,vI most,vI wide,vI count,dT l,x5,vI (0 + k),vI (zW n (20 + (0 + k)) % (count + 1)),x8,none,none,none,none,none]):=by
      simp [sAsg,hName,g2,gK,gA,zc,gNil,gVar,zQ,zH,qy,ja hc']
     have e2:sAsg (hName 8) (g2 modD (gA (zt 2 F_law_drawn) (zc (gVar 0) (zc (g2 addD (gK (.int 30)) (gVar 6)) gNil))) (g2 addD (gVar 3) (gK (.int 1)))) [vI n,vI most,vI wide,vI count,dT l,x5,vI (0 + k),vI (zW n (20 + (0 + k)) % (count + 1)),x8,none,none,none,none,none]=some (.nxt [vI n,vI most,vI wide,vI count,dT l,x5,vI (0 + k),vI (zW n (20 + (0 + k)) % (count + 1)),vI (zW n (30 + (0 + k)) % (count + 1)),none,none,none,none,none]):=by
      simp [sAsg,hName,g2,gK,gA,zc,gNil,gVar,zQ,zH,qy,ja hc']
     show jC [vI n,vI most,vI wide,vI count,dT l,x5,vI (0 + k),x7,x8,none,none,none,none,none]=_
     unfold jC
     rw [sSeq,e1,Option.bind_some]
     show sSeq _ _ _=_
     rw [sSeq,e2,Option.bind_some]
     show sIf _ _ _ _=_
     have e3:gBo (g2 ltD (gVar 7) (gVar 8)) [vI n,vI most,vI wide,vI count,dT l,x5,vI (0 + k),vI (zW n (20 + (0 + k)) % (count + 1)),vI (zW n (30 + (0 + k)) % (count + 1)),none,none,none,none,none]=some true:=by
      show ((some (PyData.bool (decide (zW n (20 + (0 + k)) % (count + 1) < zW n (30 + (0 + k)) % (count + 1))))):Option D).bind za4=some true
      rw [decide_eq_true q]
      rfl
     rw [sIf,e3,Option.bind_some,if_pos rfl]
     exact ed
    ·have:=zcV l (zW n (20 + (0 + k)) % (count + 1),zW n (30 + (0 + k)) % (count + 1)) (1 + zW n (40 + (0 + k)) % wide)
     omega
   ·refine ⟨_,_,rfl,?_,l,vI (0 + k),vI (zW n (20 + (0 + k)) % (count + 1)),vI (zW n (30 + (0 + k)) % (count + 1)),rfl,f1,f2,by omega⟩
    show jC [vI n,vI most,vI wide,vI count,dT l,x5,vI (0 + k),x7,x8,none,none,none,none,none]=_
    have e1:sAsg (hName 7) (g2 modD (gA (zt 2 F_law_drawn) (zc (gVar 0) (zc (g2 addD (gK (.int 20)) (gVar 6)) gNil))) (g2 addD (gVar 3) (gK (.int 1)))) [vI n,vI most,vI wide,vI count,dT l,x5,vI (0 + k),x7,x8,none,none,none,none,none]=some (.nxt [vI n,vI most,vI wide,vI count,dT l,x5,vI (0 + k),vI (zW n (20 + (0 + k)) % (count + 1)),x8,none,none,none,none,none]):=by
     simp [sAsg,hName,g2,gK,gA,zc,gNil,gVar,zQ,zH,qy,ja hc']
    have e2:sAsg (hName 8) (g2 modD (gA (zt 2 F_law_drawn) (zc (gVar 0) (zc (g2 addD (gK (.int 30)) (gVar 6)) gNil))) (g2 addD (gVar 3) (gK (.int 1)))) [vI n,vI most,vI wide,vI count,dT l,x5,vI (0 + k),vI (zW n (20 + (0 + k)) % (count + 1)),x8,none,none,none,none,none]=some (.nxt [vI n,vI most,vI wide,vI count,dT l,x5,vI (0 + k),vI (zW n (20 + (0 + k)) % (count + 1)),vI (zW n (30 + (0 + k)) % (count + 1)),none,none,none,none,none]):=by
     simp [sAsg,hName,g2,gK,gA,zc,gNil,gVar,zQ,zH,qy,ja hc']
    unfold jC
    rw [sSeq,e1,Option.bind_some]
    show sSeq _ _ _=_
    rw [sSeq,e2,Option.bind_some]
    show sIf _ _ _ _=_
    have e3:gBo (g2 ltD (gVar 7) (gVar 8)) [vI n,vI most,vI wide,vI count,dT l,x5,vI (0 + k),vI (zW n (20 + (0 + k)) % (count + 1)),vI (zW n (30 + (0 + k)) % (count + 1)),none,none,none,none,none]=some false:=by
     show ((some (PyData.bool (decide (zW n (20 + (0 + k)) % (count + 1) < zW n (30 + (0 + k)) % (count + 1))))):Option D).bind za4=some false
     rw [decide_eq_false q]
     rfl
    rw [sIf,e3,Option.bind_some]
    rfl)
 rw [jp,Nat.zero_add] at h3
 exact ⟨l,x6,x7,x8,e,h1,h2,h3⟩
end L2.Y
namespace L2.Y
open PySem
structure NamesOk (i:Nat) (ms:List Int):Prop where
 len:ms.length=i + 1
 nd:ms.Nodup
 rng:∀ x ∈ ms,0 ≤ x∧x ≤ i
 zero:ms[0]?=some 0
theorem NamesOk.ins {i:Nat} {ms:List Int} (h:NamesOk i ms) {a:Nat} (h1:1 ≤ a) (h2:a ≤ i + 1):NamesOk (i + 1) (ms.take a ++ [((i:Int) + 1)] ++ ms.drop a):=by
 have hp:(ms.take a ++ [((i:Int) + 1)] ++ ms.drop a).Perm (((i:Int) + 1) :: ms):=by
  rw [List.append_assoc]
  have:=List.perm_middle (a:=(i:Int) + 1) (l₁:=ms.take a) (l₂:=ms.drop a)
  rw [List.take_append_drop] at this
  exact this
 refine ⟨?_,?_,fun x hx => ?_,?_⟩
 ·rw [hp.length_eq,List.length_cons,h.len]
 ·rw [hp.nodup_iff,List.nodup_cons]
  exact ⟨fun z=>by have:=h.rng _ z;omega,h.nd⟩
 ·rcases List.mem_cons.mp (hp.mem_iff.mp hx) with q | q
  ·subst q;push_cast;omega
  ·have:=h.rng x q;push_cast;omega
 ·have hlen:=h.len
  have hz:=h.zero
  rw [List.append_assoc,List.getElem?_append_left (by rw [List.length_take];omega),List.getElem?_take,if_pos (by omega)]
  exact hz
theorem zc4 (n d a:Nat) (h:a ≤ n):HT.sIx n d (some (a:Int))=a:=by
 show (if (a:Int) < 0 then ((a:Int) + (n:Int)).toNat else min (a:Int).toNat n)=a
 rw [if_neg (by omega),Int.toNat_natCast,Nat.min_eq_left h]
theorem vA (ds:List D) (a:Nat) (h:a ≤ ds.length):cutD ds none (some (a:Int))=ds.take a:=by
 unfold cutD
 rw [zc4 _ _ _ h,show HT.sIx ds.length 0 none=0 from rfl,List.drop_zero,Nat.sub_zero]
theorem xG (ds:List D) (a:Nat) (h:a ≤ ds.length):cutD ds (some (a:Int)) none=ds.drop a:=by
 unfold cutD
 rw [zc4 _ _ _ h,show HT.sIx ds.length ds.length none=ds.length from rfl,← List.length_drop,List.take_length]
theorem zdL (n most wide count:Int) (hc:0 ≤ count) (hc5:count ≤ 100) (x4 x5 x6 x7 x8:Option En):∃ ms x5' x10,forF (hName 5) qp (zT 1 count.toNat) [vI n,vI most,vI wide,vI count,x4,x5,x6,x7,x8,some (.val (.list [.int 0])),none,none,none,none] =
  some (.nxt [vI n,vI most,vI wide,vI count,x4,x5',x6,x7,x8,some (.val (.list (ms.map PyData.int))),x10,none,none,none])∧NamesOk count.toNat ms:=by
 obtain ⟨ρ',e,ms,x5',x10,rfl,h1⟩:=jI (h:=hName 5) (gb:=qp) (fun i ρ=>∃ ms x5' x10,ρ=[vI n,vI most,vI wide,vI count,x4,x5',x6,x7,x8,some (.val (.list (ms.map PyData.int))),x10,none,none,none]∧NamesOk i ms)
  (zT 1 count.toNat) 0 [vI n,vI most,vI wide,vI count,x4,x5,x6,x7,x8,some (.val (.list [.int 0])),none,none,none,none] ⟨[0],x5,none,rfl,rfl,by simp,fun x hx=>by simp at hx;subst hx;simp,rfl⟩ (fun k d ρ hk hZq=>by
   obtain ⟨ms,y5,y10,hr,f1⟩:=hZq
   obtain ⟨hlt,rfl⟩:=qZ hk
   subst hr
   rw [Nat.zero_add] at f1 ⊢
   have m1:=Int.emod_nonneg (zW n (60 + (1 + k))) (b:=1 + (k:Int)) (by omega)
   have m2:=Int.emod_lt_of_pos (zW n (60 + (1 + k))) (b:=1 + (k:Int)) (by omega)
   have hk' : (0:Int) < 1 + k:=by omega
   obtain ⟨a,ha⟩:∃ a:Nat,(a:Int)=1 + zW n (60 + (1 + k)) % (1 + k):=⟨(1 + zW n (60 + (1 + k)) % (1 + k)).toNat,by omega⟩
   have hal:a ≤ (ms.map PyData.int).length:=by rw [List.length_map,f1.len];omega
   have e1:sAsg (hName 10) (g2 addD (gK (.int 1)) (g2 modD (gA (zt 2 F_law_drawn) (zc (gVar 0) (zc (g2 addD (gK (.int 60)) (gVar 5)) gNil))) (gVar 5))) [vI n,vI most,vI wide,vI count,x4,vI (1 + k),x6,x7,x8,some (.val (.list (ms.map PyData.int))),y10,none,none,none]=some (.nxt [vI n,vI most,vI wide,vI count,x4,vI (1 + k),x6,x7,x8,some (.val (.list (ms.map PyData.int))),vI a,none,none,none]):=by
    simp [sAsg,hName,g2,gK,gA,zc,gNil,gVar,zQ,zH,qy,ja hk',ha]
   refine ⟨_,_,rfl,?_,ms.take a ++ [((k:Int) + 1)] ++ ms.drop a,vI (1 + k),vI a,rfl,f1.ins (by omega) (by omega)⟩
   show qp [vI n,vI most,vI wide,vI count,x4,vI (1 + k),x6,x7,x8,some (.val (.list (ms.map PyData.int))),y10,none,none,none]=_
   unfold qp
   rw [sSeq,e1,Option.bind_some]
   have s1:slD (.list (ms.map PyData.int)) none (some (a:Int))=some (.list ((ms.map PyData.int).take a)):=by rw [slD,vA _ _ hal]
   have s2:slD (.list (ms.map PyData.int)) (some (a:Int)) none=some (.list ((ms.map PyData.int).drop a)):=by rw [slD,xG _ _ hal]
   have l1:((ms.map PyData.int).take a).length + 1 ≤ sizeLine:=by rw [List.length_take,List.length_map,f1.len];show _ ≤ 16777216;omega
   have l2:(((ms.map PyData.int).take a) ++ [PyData.int (1 + k)]).length + ((ms.map PyData.int).drop a).length ≤ sizeLine:=by rw [List.length_append,List.length_take,List.length_drop,List.length_map,f1.len];show _ ≤ 16777216;simp;omega
   show sAsg (hName 9) _ [vI n,vI most,vI wide,vI count,x4,vI (1 + k),x6,x7,x8,some (.val (.list (ms.map PyData.int))),vI a,none,none,none]=_
   have a1:addD (.list ((ms.map PyData.int).take a)) (.list [.int (1 + k)])=some (.list (((ms.map PyData.int).take a) ++ [.int (1 + k)])):=if_pos l1
   have a2:addD (.list (((ms.map PyData.int).take a) ++ [.int (1 + k)])) (.list ((ms.map PyData.int).drop a))=some (.list (((ms.map PyData.int).take a) ++ [.int (1 + k)] ++ (ms.map PyData.int).drop a)):=if_pos l2
   have e2:(g2 addD (g2 addD (gSl (gVar 9) qq (jU (gVar 10))) (gLs (gLst (zc (gVar 5) gNil)))) (gSl (gVar 9) (jU (gVar 10)) qq)) [vI n,vI most,vI wide,vI count,x4,vI (1 + k),x6,x7,x8,some (.val (.list (ms.map PyData.int))),vI a,none,none,none]=some (.list (((ms.map PyData.int).take a) ++ [.int (1 + k)] ++ (ms.map PyData.int).drop a)):=by
    have g9:gVar 9 [vI n,vI most,vI wide,vI count,x4,vI (1 + k),x6,x7,x8,some (.val (.list (ms.map PyData.int))),vI a,none,none,none]=some (.list (ms.map PyData.int)):=rfl
    have g10:jU (gVar 10) [vI n,vI most,vI wide,vI count,x4,vI (1 + k),x6,x7,x8,some (.val (.list (ms.map PyData.int))),vI a,none,none,none]=some (some (a:Int)):=rfl
    have g5:gLs (gLst (zc (gVar 5) gNil)) [vI n,vI most,vI wide,vI count,x4,vI (1 + k),x6,x7,x8,some (.val (.list (ms.map PyData.int))),vI a,none,none,none]=some (.list [.int (1 + k)]):=rfl
    simp only [g2,gSl,g9,g10,qq,Option.bind_some,s1,s2,g5,a1,a2]
   rw [sAsg,e2]
   simp [hName,List.map_append,List.map_take,List.map_drop,Int.add_comm])
 rw [jp,Nat.zero_add] at h1
 exact ⟨ms,x5',x10,e,h1⟩
end L2.Y
namespace L2.Y
open PySem
noncomputable def jE (l:Int × Int × Int):D:=.tuple [.int l.1,.int l.2.1,.int l.2.2]
noncomputable def zp (c:Int) (ls:List (Int × Int × Int)):D:=.tuple [.int c,.tuple (ls.map jE)]
noncomputable def nmI (ms:List Int) (i:Int):Int:=ms.getD i.toNat 0
noncomputable def ji (ms:List Int) (e:(Int × Int) × Int):Int × Int × Int:=(min (nmI ms e.1.1) (nmI ms e.1.2),max (nmI ms e.1.1) (nmI ms e.1.2),e.2)
theorem kM:∀ {l:List ((Int × Int) × Int)} {e:(Int × Int) × Int},(l.map (·.1)).Nodup→e ∈ l→l.find? (fun x=>decide (x.1=e.1))=some e
 | [],_,_,h=>by simp at h
 | a :: l,e,hn,h=>by
  rw [List.map_cons,List.nodup_cons] at hn
  rw [List.find?_cons]
  rcases List.mem_cons.mp h with q | q
  ·subst q;simp
  ·have ne:¬ a.1=e.1:=fun z=>hn.1 (by rw [z];exact List.mem_map.mpr ⟨e,q,rfl⟩)
   simp only [ne,decide_false]
   exact kM hn.2 q
theorem zcO (i j:Int):minD [.int i,.int j]=some (.int (min i j)):=by
 show some (PyData.int (if j < i then j else i))=_
 congr 2
 by_cases h:j < i
 ·rw [if_pos h];omega
 ·rw [if_neg h];omega
theorem zaD (i j:Int):maxD [.int i,.int j]=some (.int (max i j)):=by
 show some (PyData.int (if j > i then j else i))=_
 congr 2
 by_cases h:j > i
 ·rw [if_pos h];omega
 ·rw [if_neg h];omega
theorem zbk {ms:List Int} {i:Int} (h0:0 ≤ i) (h1:i < ms.length):ixD (.list (ms.map PyData.int)) (.int i)=some (.int (nmI ms i)):=by
 show atI (ms.map PyData.int) i=_
 refine wn h0 ?_
 have:i.toNat < ms.length:=by omega
 simp [nmI,this]
theorem zfG {i:Nat} {ge:Env'→Option D} {ρ:Env'} {ds:List D} {d:D} (h1:ge ρ=some d) (h2:ρ[i]?=some (some (.own (.list ds)))) (h3:ds.length < 16777216):sApp i ge ρ=some (.nxt (ρ.set i (some (.own (.list (ds ++ [d])))))):=by
 have e:ownL i ρ=some ds:=by unfold ownL;rw [h2]
 unfold sApp
 rw [h1,Option.bind_some,e,Option.bind_some]
 exact if_pos h3
theorem zdM (n most wide count:Int) (hc:0 ≤ count) (l:List ((Int × Int) × Int)) (hl:l.length ≤ 1000) (h:FoundOk count wide l) (ms:List Int) (hm:NamesOk count.toNat ms) (x5 x6 x7 x8 x10:Option En) :
  ∃ y7 y8 y12 y13,forF (hTup 2 (jD (hName 7) (jD (hName 8) hNil))) qN ((fk l).map (·.1)) [vI n,vI most,vI wide,vI count,some (.val (.dict ((.none,.int 0) :: fk l))),x5,x6,x7,x8,some (.val (.list (ms.map PyData.int))),x10,some (.own (.list [])),none,none] =
  some (.nxt [vI n,vI most,vI wide,vI count,some (.val (.dict ((.none,.int 0) :: fk l))),x5,x6,y7,y8,some (.val (.list (ms.map PyData.int))),x10,some (.own (.list ((l.map (ji ms)).map jE))),y12,y13]):=by
 obtain ⟨ρ',e,y7,y8,y12,y13,rfl⟩:=jI (h:=hTup 2 (jD (hName 7) (jD (hName 8) hNil))) (gb:=qN) (fun i ρ=>∃ y7 y8 y12 y13,ρ=[vI n,vI most,vI wide,vI count,some (.val (.dict ((.none,.int 0) :: fk l))),x5,x6,y7,y8,some (.val (.list (ms.map PyData.int))),x10,some (.own (.list (((l.take i).map (ji ms)).map jE))),y12,y13])
  ((fk l).map (·.1)) 0 [vI n,vI most,vI wide,vI count,some (.val (.dict ((.none,.int 0) :: fk l))),x5,x6,x7,x8,some (.val (.list (ms.map PyData.int))),x10,some (.own (.list [])),none,none] ⟨x7,x8,none,none,rfl⟩ (fun k d ρ hk hZq=>by
   obtain ⟨y7,y8,y12,y13,hr⟩:=hZq
   subst hr
   rw [Nat.zero_add]
   unfold fk at hk
   rw [List.map_map,List.getElem?_map] at hk
   obtain ⟨en,he,rfl⟩:=Option.map_eq_some_iff.mp hk
   have hen:en ∈ l:=List.mem_of_getElem? he
   obtain ⟨r1,r2,r3,r4,r5⟩:=h.rng en hen
   have hlen:=hm.len
   have hkl:k < l.length:=(List.getElem?_eq_some_iff.mp he).1
   have i1:=zbk (ms:=ms) (i:=en.1.1) r1 (by omega)
   have i2:=zbk (ms:=ms) (i:=en.1.2) (by omega) (by omega)
   have lk:zgx (.dict ((.none,.int 0) :: fk l)) (.tuple [.int en.1.1,.int en.1.2])=some (.int en.2):=by
    show zaC (fk l) (pk en.1)=_
    rw [zg5,kM h.nd hen]
    rfl
   refine ⟨[vI n,vI most,vI wide,vI count,some (.val (.dict ((.none,.int 0) :: fk l))),x5,x6,vI en.1.1,vI en.1.2,some (.val (.list (ms.map PyData.int))),x10,some (.own (.list (((l.take k).map (ji ms)).map jE))),y12,y13],_,rfl,?_,vI en.1.1,vI en.1.2,vI (nmI ms en.1.1),vI (nmI ms en.1.2),rfl⟩
   have e1:sAsg (hName 12) (g2 ixD (gVar 9) (gVar 7)) [vI n,vI most,vI wide,vI count,some (.val (.dict ((.none,.int 0) :: fk l))),x5,x6,vI en.1.1,vI en.1.2,some (.val (.list (ms.map PyData.int))),x10,some (.own (.list (((l.take k).map (ji ms)).map jE))),y12,y13] =
     some (.nxt [vI n,vI most,vI wide,vI count,some (.val (.dict ((.none,.int 0) :: fk l))),x5,x6,vI en.1.1,vI en.1.2,some (.val (.list (ms.map PyData.int))),x10,some (.own (.list (((l.take k).map (ji ms)).map jE))),vI (nmI ms en.1.1),y13]):=by
    show (ixD (.list (ms.map PyData.int)) (.int en.1.1)).bind _=_
    rw [i1];rfl
   have e2:sAsg (hName 13) (g2 ixD (gVar 9) (gVar 8)) [vI n,vI most,vI wide,vI count,some (.val (.dict ((.none,.int 0) :: fk l))),x5,x6,vI en.1.1,vI en.1.2,some (.val (.list (ms.map PyData.int))),x10,some (.own (.list (((l.take k).map (ji ms)).map jE))),vI (nmI ms en.1.1),y13] =
     some (.nxt [vI n,vI most,vI wide,vI count,some (.val (.dict ((.none,.int 0) :: fk l))),x5,x6,vI en.1.1,vI en.1.2,some (.val (.list (ms.map PyData.int))),x10,some (.own (.list (((l.take k).map (ji ms)).map jE))),vI (nmI ms en.1.1),vI (nmI ms en.1.2)]):=by
    show (ixD (.list (ms.map PyData.int)) (.int en.1.2)).bind _=_
    rw [i2];rfl
   unfold qN
   rw [sSeq,e1,Option.bind_some]
   show sSeq _ _ _=_
   rw [sSeq,e2,Option.bind_some]
   have e3:((l.take (k + 1)).map (ji ms)).map jE=((l.take k).map (ji ms)).map jE ++ [jE (ji ms en)]:=by
    rw [List.take_succ,he];simp
   rw [e3]
   refine zfG ?_ rfl (by simp;omega)
   have v1:gA minD (zc (gVar 12) (zc (gVar 13) gNil)) [vI n,vI most,vI wide,vI count,some (.val (.dict ((.none,.int 0) :: fk l))),x5,x6,vI en.1.1,vI en.1.2,some (.val (.list (ms.map PyData.int))),x10,some (.own (.list (((l.take k).map (ji ms)).map jE))),vI (nmI ms en.1.1),vI (nmI ms en.1.2)]=some (.int (min (nmI ms en.1.1) (nmI ms en.1.2))):=zcO _ _
   have v2:gA maxD (zc (gVar 12) (zc (gVar 13) gNil)) [vI n,vI most,vI wide,vI count,some (.val (.dict ((.none,.int 0) :: fk l))),x5,x6,vI en.1.1,vI en.1.2,some (.val (.list (ms.map PyData.int))),x10,some (.own (.list (((l.take k).map (ji ms)).map jE))),vI (nmI ms en.1.1),vI (nmI ms en.1.2)]=some (.int (max (nmI ms en.1.1) (nmI ms en.1.2))):=zaD _ _
   have v3:g2 zgx (zar 4) (gA tupD (zc (gVar 7) (zc (gVar 8) gNil))) [vI n,vI most,vI wide,vI count,some (.val (.dict ((.none,.int 0) :: fk l))),x5,x6,vI en.1.1,vI en.1.2,some (.val (.list (ms.map PyData.int))),x10,some (.own (.list (((l.take k).map (ji ms)).map jE))),vI (nmI ms en.1.1),vI (nmI ms en.1.2)]=some (.int en.2):=lk
   simp only [gA,zc,v3,Option.bind_some,gNil] at v1 v2 ⊢
   rw [v1,v2]
   rfl)
 refine ⟨y7,y8,y12,y13,?_⟩
 rw [e]
 have:l.take (0 + ((fk l).map (·.1)).length)=l:=by rw [List.take_of_length_le];unfold fk;simp
 rw [this]
end L2.Y
namespace L2.Y
open PySem
noncomputable def tri (l:Int × Int × Int):List Int:=[l.1,l.2.1,l.2.2]
noncomputable def zf9:List Int→Int × Int × Int
 | [a,b,c]=>(a,b,c)
 | _=>(0,0,0)
theorem zga (l:Int × Int × Int):zf9 (tri l)=l:=rfl
theorem zcM:∀ ls:List (Int × Int × Int),(ls.map jE).mapM wu=some (ls.map tri)
 | []=>rfl
 | l :: ls=>by
  rw [List.map_cons,List.mapM_cons,zcM ls]
  rfl
noncomputable def yM (ls:List (Int × Int × Int)):List (Int × Int × Int):=(yr (ls.map tri)).map zf9
theorem zbI (ls:List (Int × Int × Int)):(yM ls).map tri=yr (ls.map tri):=by
 unfold yM
 rw [List.map_map]
 have:∀ k ∈ yr (ls.map tri),(tri ∘ zf9) k=k:=fun k hk=>by
  obtain ⟨l,_,rfl⟩:=List.mem_map.mp ((wc _).mem_iff.mp hk)
  rfl
 rw [List.map_congr_left this,List.map_id']
theorem zdD (ls:List (Int × Int × Int)):(yM ls).Perm ls:=by
 unfold yM
 have:=(wc (ls.map tri)).map zf9
 rw [List.map_map] at this
 have e:(zf9 ∘ tri)=id:=funext zga
 rw [e,List.map_id] at this
 exact this
theorem zhL (ls:List (Int × Int × Int)) (h:ls.length < 64):zfU (ls.map jE)=some ((yM ls).map jE):=by
 unfold zfU
 rw [zcM,Option.bind_some,if_pos (by simpa using h),← zbI,List.map_map]
 rfl
theorem zhN (ls:List (Int × Int × Int)):(yM ls).Pairwise fun a b=>HT.lexLt (tri b) (tri a)=false:=by
 have:=xP (ls.map tri)
 rw [← zbI,List.pairwise_map] at this
 exact this
noncomputable def Ris (a b:Int × Int × Int):Prop:=a.1 < b.1 ∨ a.1=b.1∧a.2.1 < b.2.1
theorem zkX {a b:Int × Int × Int} (h:HT.lexLt (tri b) (tri a)=false) (hn:¬ (a.1=b.1∧a.2.1=b.2.1)):Ris a b:=by
 unfold tri at h
 rw [zbo] at h
 by_cases e:b.1=a.1
 ·rw [if_pos e,zbo] at h
  by_cases e2:b.2.1=a.2.1
  ·exact absurd ⟨e.symm,e2.symm⟩ hn
  ·rw [if_neg e2] at h
   have:=of_decide_eq_false h
   exact .inr ⟨e.symm,by omega⟩
 ·rw [if_neg e] at h
  have:=of_decide_eq_false h
  exact .inl (by omega)
theorem Ris.trans {a b c:Int × Int × Int} (h1:Ris a b) (h2:Ris b c):Ris a c:=by
 unfold Ris at *
 omega
structure GoodYard (most wide count:Int) (ls:List (Int × Int × Int)):Prop where
 c1:1 ≤ count
 c2:count ≤ most
 rng:∀ l ∈ ls,0 ≤ l.1∧l.1 < l.2.1∧l.2.1 ≤ count∧1 ≤ l.2.2∧l.2.2 ≤ wide
 ris:ls.Pairwise Ris
 few:(ls.length:Int) ≤ count + 3
 conn:∀ S:Int→Prop,S 0→(∀ l ∈ ls,S l.1 ↔ S l.2.1)→∀ p,0 ≤ p→p ≤ count→S p
theorem zih {c:Nat} {ms:List Int} (h:NamesOk c ms) {i j:Int} (hi:0 ≤ i) (hi2:i ≤ c) (hj:0 ≤ j) (hj2:j ≤ c) (e:nmI ms i=nmI ms j):i=j:=by
 have hl:=h.len
 have a1:i.toNat < ms.length:=by omega
 have a2:j.toNat < ms.length:=by omega
 unfold nmI at e
 have e' : ms[i.toNat]=ms[j.toNat]:=by simpa [a1,a2] using e
 have:=(List.getElem_inj (h₀:=a1) (h₁:=a2) h.nd).mp e'
 omega
theorem zii {c:Nat} {ms:List Int} (h:NamesOk c ms) {i:Int} (hi:0 ≤ i) (hi2:i ≤ c):0 ≤ nmI ms i∧nmI ms i ≤ c:=by
 have hl:=h.len
 have a1:i.toNat < ms.length:=by omega
 unfold nmI
 have:=h.rng ms[i.toNat] (by simp)
 simpa [a1] using this
theorem zfb {c:Nat} {ms:List Int} (h:NamesOk c ms):nmI ms 0=0:=by
 have:=h.zero
 unfold nmI
 rw [List.getD_eq_getElem?_getD]
 show (ms[0]?).getD 0=0
 rw [this];rfl
theorem vR:∀ (m:Nat) (ms:List Int),ms.Nodup→(∀ x ∈ ms,0 ≤ x∧x < m)→ms.length ≤ m
 | 0,ms,_,h=>by
  cases ms with
  | nil=>exact Nat.le_refl _
  | cons a r=>have:=h a List.mem_cons_self;omega
 | m + 1,ms,hn,h=>by
  by_cases q:(m:Int) ∈ ms
  ·have l1:=List.length_erase_of_mem q
   have:=vR m (ms.erase m) (hn.erase _) fun x hx=>by
    have h1:=h x (List.mem_of_mem_erase hx)
    have h2:x ≠ m:=fun z=>by
     subst z
     exact (List.Nodup.not_mem_erase hn) hx
    push_cast at h1
    omega
   omega
  ·have:=vR m ms hn fun x hx=>by
    have h1:=h x hx
    have h2:x ≠ m:=fun z=>q (z ▸ hx)
    push_cast at h1
    omega
   omega
theorem zi6 {c:Nat} {ms:List Int} (h:NamesOk c ms) {p:Int} (h1:0 ≤ p) (h2:p ≤ c):∃ i:Int,0 ≤ i∧i ≤ c∧nmI ms i=p:=by
 have hm:p ∈ ms:=Classical.byContradiction fun q=>by
  have:=vR (c + 1) (p :: ms) (List.nodup_cons.mpr ⟨q,h.nd⟩) fun x hx=>by
   rcases List.mem_cons.mp hx with z | z
   ·subst z;push_cast;omega
   ·have:=h.rng x z;push_cast;omega
  rw [List.length_cons,h.len] at this
  omega
 obtain ⟨i,hi,e⟩:=List.getElem_of_mem hm
 have hl:=h.len
 refine ⟨i,by omega,by omega,?_⟩
 unfold nmI
 simp [hi,e]
theorem ziL {most wide count:Int} {l:List ((Int × Int) × Int)} {ms:List Int} (c1:1 ≤ count) (c2:count ≤ most) (h:FoundOk count wide l) (hm:NamesOk count.toNat ms) (hl:(l.length:Int) ≤ count + 3) (ht:∀ p:Int,1 ≤ p→p ≤ count→∃ a,(a,p) ∈ l.map (·.1)):GoodYard most wide count (yM (l.map (ji ms))):=by
 have pm:=zdD (l.map (ji ms))
 have hcc:((count.toNat:Nat):Int)=count:=by omega
 have inl:∀ {x},x ∈ yM (l.map (ji ms))→∃ e ∈ l,x=ji ms e:=fun hx=>by
  obtain ⟨e,he,rfl⟩:=List.mem_map.mp (pm.mem_iff.mp hx)
  exact ⟨e,he,rfl⟩
 have ne:∀ e ∈ l,nmI ms e.1.1 ≠ nmI ms e.1.2:=fun e he z=>by
  obtain ⟨r1,r2,r3,_⟩:=h.rng e he
  have:=zih hm r1 (by omega) (by omega) (by omega) z
  omega
 refine ⟨c1,c2,fun x hx => ?_,?_,by rw [pm.length_eq,List.length_map];exact hl,fun S s0 hS p p1 p2 => ?_⟩
 ·obtain ⟨e,he,rfl⟩:=inl hx
  obtain ⟨r1,r2,r3,r4,r5⟩:=h.rng e he
  have n1:=zii hm r1 (by omega)
  have n2:=zii hm (i:=e.1.2) (by omega) (by omega)
  have:=ne e he
  unfold ji
  refine ⟨?_,?_,?_,r4,r5⟩ <;> simp only <;> omega
 ·have ndp:((l.map (ji ms)).map fun x=>(x.1,x.2.1)).Nodup:=by
   rw [List.map_map]
   have hnd:=h.nd
   rw [List.Nodup,List.pairwise_map] at hnd ⊢
   refine hnd.imp_of_mem fun {a b} ha hb hab z=>hab ?_
   obtain ⟨r1,r2,r3,_⟩:=h.rng a ha
   obtain ⟨t1,t2,t3,_⟩:=h.rng b hb
   have z1:min (nmI ms a.1.1) (nmI ms a.1.2)=min (nmI ms b.1.1) (nmI ms b.1.2):=congrArg Prod.fst z
   have z2:max (nmI ms a.1.1) (nmI ms a.1.2)=max (nmI ms b.1.1) (nmI ms b.1.2):=congrArg Prod.snd z
   have go:∀ {i j},nmI ms i=nmI ms j→0 ≤ i→i ≤ count→0 ≤ j→j ≤ count→i=j:=fun e a1 a2 b1 b2=>zih hm a1 (by omega) b1 (by omega) e
   by_cases q1:nmI ms a.1.1=nmI ms b.1.1
   ·have q2:nmI ms a.1.2=nmI ms b.1.2:=by omega
    exact Prod.ext (go q1 r1 (by omega) t1 (by omega)) (go q2 (by omega) (by omega) (by omega) (by omega))
   ·have q2:nmI ms a.1.1=nmI ms b.1.2:=by omega
    have q3:nmI ms a.1.2=nmI ms b.1.1:=by omega
    have w1:=go q2 r1 (by omega) (by omega) (by omega)
    have w2:=go q3 (by omega) (by omega) t1 (by omega)
    omega
  have ndp' : ((yM (l.map (ji ms))).map fun x=>(x.1,x.2.1)).Nodup:=(pm.map _).nodup_iff.mpr ndp
  rw [List.Nodup,List.pairwise_map] at ndp'
  exact ((zhN (l.map (ji ms))).and ndp').imp fun {a b} ⟨h1,h2⟩=>zkX h1 fun z=>h2 (Prod.ext z.1 z.2)
 ·have key:∀ k:Nat,∀ q:Int,0 ≤ q→q ≤ count→q ≤ k→S (nmI ms q):=by
   intro k
   induction k with
   | zero =>
    intro q q0 q1 q2
    have:q=0:=by omega
    subst this
    rw [zfb hm];exact s0
   | succ k ih =>
    intro q q0 q1 q2
    by_cases hq:q=0
    ·subst hq;rw [zfb hm];exact s0
    ·obtain ⟨a,ha⟩:=ht q (by omega) q1
     obtain ⟨e,he,ee⟩:=List.mem_map.mp ha
     obtain ⟨r1,r2,r3,_⟩:=h.rng e he
     have e1:e.1.1=a:=congrArg Prod.fst ee
     have e2:e.1.2=q:=congrArg Prod.snd ee
     have hx:ji ms e ∈ yM (l.map (ji ms)):=pm.mem_iff.mpr (List.mem_map.mpr ⟨e,he,rfl⟩)
     have iff:=hS _ hx
     have prev:=ih a (by omega) (by omega) (by push_cast at q2;omega)
     unfold ji at iff
     simp only at iff
     rw [e1,e2] at iff
     by_cases lt:nmI ms a ≤ nmI ms q
     ·rw [Int.min_eq_left lt,Int.max_eq_right lt] at iff
      exact iff.mp prev
     ·rw [Int.min_eq_right (by omega),Int.max_eq_left (by omega)] at iff
      exact iff.mpr prev
  obtain ⟨i,i1,i2,i3⟩:=zi6 hm p1 (by omega)
  rw [← i3]
  exact key i.toNat i i1 (by omega) (by omega)
end L2.Y
namespace L2.Y
open PySem
theorem zm {g h:GS} {ρ ρ' : Env'} (e:g ρ=some (.nxt ρ')):sSeq g h ρ=h ρ':=by
 unfold sSeq
 rw [e]
 rfl
theorem zhG {g h:GS} {ρ:Env'} {d:D} (e:g ρ=some (.ret d)):sSeq g h ρ=some (.ret d):=by
 unfold sSeq
 rw [e]
 rfl
theorem zB {n:Nat} {g:GS} {ds:List D} {d:D} (e:g (xQ n ds)=some (.ret d)):jn n g ds=some d:=by
 unfold jn
 rw [e]
 rfl
theorem qL {g:Env'→Option (List D)} {h:GT} {gb:GS} {ρ:Env'} {ds:List D} {o:Option Out} (e:g ρ=some ds) (e2:forF h gb ds ρ=o):sFor g h gb ρ=o:=by
 unfold sFor
 rw [e,Option.bind_some]
 exact e2
theorem qU {i j:Int} (h1:-(2 ^ 62) ≤ i) (h2:i < 2 ^ 62) (h3:-(2 ^ 62) ≤ j) (h4:j < 2 ^ 62):qE [.int i,.int j]=some (zT i (j - i).toNat):=if_pos ⟨h1,h2,h3,h4⟩
theorem ke {j:Int} (h3:-(2 ^ 62) ≤ j) (h4:j < 2 ^ 62):wK [.int j]=some (zT 0 j.toNat):=if_pos ⟨h3,h4⟩
theorem zgh (n most wide:Int) (hm1:1 ≤ most) (hm2:most ≤ 50) (hw:1 ≤ wide):∃ count ls,F_law_yard [.int n,.int most,.int wide]=some (zp count ls)∧GoodYard most wide count ls:=by
 have hm0:0 < most:=by omega
 have c0:=Int.emod_nonneg n (b:=most) (by omega)
 have c9:=Int.emod_lt_of_pos n (b:=most) hm0
 obtain ⟨count,hc⟩:∃ count,count=1 + n % most:=⟨_,rfl⟩
 have t0:=Int.emod_nonneg (n / 7) (b:=4) (by omega)
 have t9:=Int.emod_lt_of_pos (n / 7) (b:=4) (by omega)
 obtain ⟨l1,x5,e1,f1,f2,f3⟩:=zdJ n most wide count hw (by omega) (by omega)
 obtain ⟨l,x6,x7,x8,e2,g1,g2',g3⟩:=zdK n most wide count hw (by omega) (by omega) (n / 7 % 4).toNat (by omega) l1 x5 f1 f3
 obtain ⟨ms,y5,x10,e3,hms⟩:=zdL n most wide count (by omega) (by omega) (dT l) x5 x6 x7 x8
 obtain ⟨y7,y8,y12,y13,e4⟩:=zdM n most wide count (by omega) l (by omega) g1 ms hms y5 x6 x7 x8 x10
 have hle:(l.length:Int) ≤ count + 3:=by omega
 refine ⟨count,yM (l.map (ji ms)),?_,ziL (by omega) (by omega) g1 hms hle fun p p1 p2=>let ⟨a,ha⟩:=f2 p p1 p2;⟨a,g2' _ ha⟩⟩
 unfold F_law_yard
 refine zB ?_
 show yb [vI n,vI most,vI wide,none,none,none,none,none,none,none,none,none,none,none]=_
 unfold yb
 rw [zm (ρ':=[vI n,vI most,vI wide,vI count,none,none,none,none,none,none,none,none,none,none]) (by
  show ((modD (.int n) (.int most)).bind fun y=>addD (.int 1) y).bind _=_
  rw [ja hm0,Option.bind_some,zH,Option.bind_some,hc]
  rfl)]
 rw [zm (ρ':=[vI n,vI most,vI wide,vI count,dT [],none,none,none,none,none,none,none,none,none]) rfl]
 rw [zm (qL (ds:=zT 1 count.toNat) (by
  show qE [.int 1,.int (count + 1)]=_
  rw [qU (by decide) (by decide) (by omega) (by omega)]
  congr 2
  omega) e1)]
 rw [zm (qL (ds:=zT 0 (n / 7 % 4).toNat) (by
  show ((((zdj (.int n) (.int 7)).bind fun x=>modD x (.int 4)).bind fun x=>(some [x]:Option (List D))).bind wK)=_
  rw [vF (by decide) (by decide),Option.bind_some,ja (by decide),Option.bind_some,Option.bind_some,ke (by omega) (by omega)]) e2)]
 rw [zm (ρ':=[vI n,vI most,vI wide,vI count,dT l,x5,x6,x7,x8,some (.val (.list [.int 0])),none,none,none,none]) rfl]
 rw [zm (qL (ds:=zT 1 count.toNat) (by
  show qE [.int 1,.int (count + 1)]=_
  rw [qU (by decide) (by decide) (by omega) (by omega)]
  congr 2
  omega) e3)]
 rw [zm (ρ':=[vI n,vI most,vI wide,vI count,dT l,y5,x6,x7,x8,some (.val (.list (ms.map PyData.int))),x10,some (.own (.list [])),none,none]) rfl]
 rw [zm (ρ':=[vI n,vI most,vI wide,vI count,some (.val (.dict ((.none,.int 0) :: fk l))),y5,x6,y7,y8,some (.val (.list (ms.map PyData.int))),x10,some (.own (.list ((l.map (ji ms)).map jE))),y12,y13]) (by
  show sFor _ _ _ [vI n,vI most,vI wide,vI count,some (.val (.dict ((.none,.int 0) :: fk l))),y5,x6,x7,x8,some (.val (.list (ms.map PyData.int))),x10,some (.own (.list [])),none,none]=_
  exact qL (ds:=(fk l).map (·.1)) rfl e4)]
 have es:zaR [.list ((l.map (ji ms)).map jE)]=some ((yM (l.map (ji ms))).map jE):=zhL _ (by simp;omega)
 generalize hr:([vI n,vI most,vI wide,vI count,some (.val (.dict ((.none,.int 0) :: fk l))),y5,x6,y7,y8,some (.val (.list (ms.map PyData.int))),x10,some (.own (.list ((l.map (ji ms)).map jE))),y12,y13]:Env')=ρ
 have v3:gVar 3 ρ=some (.int count):=by rw [← hr];rfl
 have v11:zar 11 ρ=some (.list ((l.map (ji ms)).map jE)):=by rw [← hr];rfl
 simp only [sRet,gA,zc,gNil,gLs,gItL,v3,v11,Option.bind_some,es,Option.map_some]
 rfl
end L2.Y
namespace L2.Y
open PySem
noncomputable def LkOk (c:Int) (l:Int × Int × Int):Prop:=0 ≤ l.1∧l.1 < l.2.1∧l.2.1 ≤ c∧1 ≤ l.2.2∧l.2.2 ≤ 4
noncomputable def pairD (l:Int × Int × Int):D:=.tuple [.int l.1,.int l.2.1]
theorem zc5 (l:Int × Int × Int):slD (jE l) none (some 2)=some (pairD l):=rfl
theorem wN (ds:List D):seqD (.list ds)=some ds:=rfl
theorem qG (ds:List D):seqD (.tuple ds)=some ds:=rfl
theorem kJ {α:Type} (f:α→Bool):∀ l:List α,kI (l.map fun x=>.bool (f x))=some (l.map f)
 | []=>rfl
 | x :: l=>by
  unfold kI
  rw [List.map_cons,List.mapM_cons,show List.mapM za4 (l.map fun x=>.bool (f x))=some (l.map f) from kJ f l]
  rfl
theorem zgs {α:Type} (f:α→Bool) (l:List α):allD [.list (l.map fun x=>.bool (f x))]=some (.bool (l.all f)):=by
 show (kI _).map _=_
 rw [kJ]
 simp [List.all_map]
noncomputable def unlink:D→Int × Int × Int
 | .tuple [.int a,.int b,.int m]=>(a,b,m)
 | _=>(0,0,0)
theorem vM (l:List Int):wB (l.map PyData.int)=some l:=by
 induction l with
 | nil=>rfl
 | cons x l ih =>
  unfold wB at ih ⊢
  rw [List.map_cons,List.mapM_cons,ih]
  rfl
theorem wV (l:List Int):sumD [.list (l.map PyData.int)]=some (.int l.sum):=by
 show (wB _).map _=_
 rw [vM]
 rfl
theorem zbL (ls:List (Int × Int × Int)) (p:Int × Int × Int→Bool):sumD [.list (((ls.map jE).filter fun d=>p (unlink d)).map fun d=>.int (unlink d).2.2)]=some (.int ((ls.filter p).map (·.2.2)).sum):=by
 have e:((ls.map jE).filter fun d=>p (unlink d)).map (fun d=>PyData.int (unlink d).2.2)=((ls.filter p).map (·.2.2)).map PyData.int:=by
  rw [List.filter_map,List.map_map,List.map_map]
  rfl
 rw [e,wV]
theorem zay (c:Int) (ls:List (Int × Int × Int)):ixD (zp c ls) (.int 1)=some (.tuple (ls.map jE)):=rfl
theorem jA (c:Int) (ls:List (Int × Int × Int)):ixD (zp c ls) (.int 0)=some (.int c):=rfl
theorem zic (p a b:Int):inD (.int p) (.tuple [.int a,.int b])=some (.bool (decide (a=p) || decide (b=p))):=by
 show (if (([.int a,.int b]:List D).all SeqAt.shaped && SeqAt.shaped (.int p))=true then some (([.int a,.int b]:List D).any fun y=>PyData.eqv y (.int p)) else none).map _=_
 rw [if_pos (by simp [xa])]
 simp only [List.any_cons,List.any_nil,PyData.eqv,Option.map_some,Bool.or_false]
 by_cases h1:a=p <;> by_cases h2:b=p <;> simp [h1,h2]
noncomputable def kC (ls:List (Int × Int × Int)) (p:Int):Int:=((ls.filter fun l=>decide (l.1=p) || decide (l.2.1=p)).map (·.2.2)).sum
theorem zab (c p:Int) (ls:List (Int × Int × Int)) (h:ls.length ≤ 1000):F_size_of [zp c ls,.int p]=some (.int (kC ls p)):=by
 unfold F_size_of
 refine zB ?_
 show vj [some (.val (zp c ls)),vI p]=_
 unfold vj
 refine zX (zu (za (jz (zL (qJ (zy (x:=zp c ls) rfl zI (zay c ls)) (qG _)) (by simp;omega) (yP (fun d=>decide ((unlink d).1=p) || decide ((unlink d).2.1=p)) (fun d=>.int (unlink d).2.2) _ fun d hd => ?_))) zg) (zbL ls fun l=>decide (l.1=p) || decide (l.2.1=p)))
 obtain ⟨l,_,rfl⟩:=List.mem_map.mp hd
 refine ⟨[vI l.1,vI l.2.1,vI l.2.2,vI p],rfl,jO (zy (x:=.int p) rfl (y:=.tuple [.int l.1,.int l.2.1]) rfl (zic p l.1 l.2.1)),fun _=>rfl⟩
theorem zN (ds:List D):jR [.list ds]=some (.tuple ds):=rfl
noncomputable def zfP (c:Int) (ls:List (Int × Int × Int)):List Int:=(List.range c.toNat).map fun (k:Nat)=>kC ls (1 + k)
theorem zhJ (c:Int) (h0:0 ≤ c) (h9:c ≤ 1000) (ls:List (Int × Int × Int)) (h:ls.length ≤ 1000):F_sizes [zp c ls]=some (.tuple ((zfP c ls).map PyData.int)):=by
 unfold F_sizes
 refine zB ?_
 show zbR [some (.val (zp c ls))]=_
 unfold zbR
 have er:qE [.int 1,.int (c + 1)]=some (zT 1 c.toNat):=by
  rw [qU (by decide) (by decide) (by omega) (by omega)]
  congr 2
  omega
 refine zX (zu (za (jz (zL (jt (za zI (za (zy (zy (x:=zp c ls) rfl zI (jA c ls)) zI (zH c 1)) zg)) er) (by rw [jp];omega) (vz (fun d=>match d with | .int p=>.int (kC ls p) | d=>d) _ fun d hd => ?_))) zg) ?_)
 ·obtain ⟨k,hk,rfl⟩:=zdA hd
  exact ⟨[vI (1 + k),some (.val (zp c ls))],rfl,zu (za (x:=zp c ls) rfl (za (x:=.int (1 + k)) rfl zg)) (by rw [zQ];exact zab c (1 + k) ls h)⟩
 ·rw [zN]
  congr 2
  unfold zT zfP
  rw [List.map_map,List.map_map]
  rfl
theorem kl (a b:Int):SeqAt.shaped (.tuple [.int a,.int b])=true:=by simp [SeqAt.shaped,PyData.canLay0,PyData.canLayAll0,PyData.depth,PyData.depthAll]
noncomputable def yK (ls:List (Int × Int × Int)) (a b:Int):Int:=((ls.filter fun l=>!decide (l.1=l.2.1) && ((decide (a=l.1) && decide (b=l.2.1)) || (decide (b=l.1) && decide (a=l.2.1)))).map (·.2.2)).sum
noncomputable def twoI (ls:List (Int × Int × Int)) (a b:Int):Int:=((ls.filter fun l=>decide (l.1=min a b) && decide (l.2.1=max a b)).map (·.2.2)).sum
theorem zgA (x y a b:Int):eqD (.tuple [.int x,.int y]) (.tuple [.int a,.int b])=some (.bool (decide (x=a) && decide (y=b))):=by
 unfold eqD
 rw [kl,kl]
 simp only [PyData.eqv,PyData.eqvAll,Bool.and_true]
 by_cases h1:x=a <;> by_cases h2:y=b <;> simp [h1,h2]
theorem zcH (l:Int × Int × Int):ixD (jE l) (.int 2)=some (.int l.2.2):=rfl
theorem kG (c a b:Int) (ls:List (Int × Int × Int)) (h:ls.length ≤ 1000):F_between [zp c ls,.int a,.int b]=some (.int (twoI ls a b)):=by
 unfold F_between
 refine zB ?_
 show va [some (.val (zp c ls)),vI a,vI b,none]=_
 unfold va
 rw [zm (ρ':=[some (.val (zp c ls)),vI a,vI b,some (.val (.tuple [.int (min a b),.int (max a b)]))]) (zG (zu (za (zu (za (x:=.int a) rfl (za (x:=.int b) rfl zg)) (zcO a b)) (za (zu (za (x:=.int a) rfl (za (x:=.int b) rfl zg)) (zaD a b)) zg)) (zf4 _ _)) rfl)]
 refine zX (zu (za (jz (zL (qJ (zy (x:=zp c ls) rfl zI (zay c ls)) (qG _)) (by simp;omega) (yP (fun d=>decide ((unlink d).1=min a b) && decide ((unlink d).2.1=max a b)) (fun d=>.int (unlink d).2.2) _ fun d hd => ?_))) zg) (zbL ls fun l=>decide (l.1=min a b) && decide (l.2.1=max a b)))
 obtain ⟨l,_,rfl⟩:=List.mem_map.mp hd
 refine ⟨[some (.val (jE l)),some (.val (.tuple [.int (min a b),.int (max a b)]))],rfl,jO (zy (x:=pairD l) (yz (d:=jE l) rfl rfl (qr zI) (zc5 l)) (y:=.tuple [.int (min a b),.int (max a b)]) rfl (zgA _ _ _ _)),fun _=>zy (x:=jE l) rfl zI (zcH l)⟩
theorem zhX {c:Int} {ls:List (Int × Int × Int)} (h:∀ l ∈ ls,LkOk c l) {a b:Int} (hab:a ≠ b):twoI ls a b=yK ls a b:=by
 unfold twoI yK
 congr 2
 apply List.filter_congr
 intro l hl
 obtain ⟨h1,h2,_⟩:=h l hl
 rw [Bool.eq_iff_iff]
 simp only [Bool.and_eq_true,Bool.or_eq_true,Bool.not_eq_true',decide_eq_true_eq,decide_eq_false_iff_not]
 omega
theorem zfW {α:Type} (f g:α→Int):∀ l:List α,(l.map fun x=>f x + g x).sum=(l.map f).sum + (l.map g).sum
 | []=>rfl
 | x :: l=>by simp only [List.map_cons,List.sum_cons,zfW f g l];omega
theorem zc9 {α:Type} (l:List α):(l.map fun _=>(0:Int)).sum=0:=by
 induction l with
 | nil=>rfl
 | cons x l ih=>simp only [List.map_cons,List.sum_cons,ih];rfl
theorem zfX (n:Nat) (q m:Int):((List.range n).map fun (k:Nat)=>if (k:Int)=q then m else 0).sum=if 0 ≤ q∧q < n then m else 0:=by
 induction n with
 | zero=>rw [if_neg (by omega)];rfl
 | succ n ih =>
  rw [List.range_succ,List.map_append,List.sum_append,ih]
  simp only [List.map_cons,List.map_nil,List.sum_cons,List.sum_nil]
  by_cases h:(n:Int)=q
  ·rw [if_pos h,if_neg (by omega),if_pos (by omega)];omega
  ·rw [if_neg h]
   by_cases h2:0 ≤ q∧q < (n:Int)
   ·rw [if_pos h2,if_pos (by omega)];omega
   ·rw [if_neg h2,if_neg (by omega)];rfl
theorem zd8 (l:Int × Int × Int) (ls:List (Int × Int × Int)) (a b:Int) (h:l.1 < l.2.1):yK (l :: ls) a b=(if (a=l.1∧b=l.2.1) ∨ (b=l.1∧a=l.2.1) then l.2.2 else 0) + yK ls a b:=by
 unfold yK
 rw [List.filter_cons]
 by_cases q:(a=l.1∧b=l.2.1) ∨ (b=l.1∧a=l.2.1)
 ·have:(!decide (l.1=l.2.1) && ((decide (a=l.1) && decide (b=l.2.1)) || (decide (b=l.1) && decide (a=l.2.1))))=true:=by
   simp only [Bool.and_eq_true,Bool.or_eq_true,Bool.not_eq_true',decide_eq_true_eq,decide_eq_false_iff_not]
   exact ⟨by omega,q⟩
  rw [this,if_pos rfl,if_pos q,List.map_cons,List.sum_cons]
 ·have:(!decide (l.1=l.2.1) && ((decide (a=l.1) && decide (b=l.2.1)) || (decide (b=l.1) && decide (a=l.2.1))))=false:=by
   rw [← Bool.not_eq_true]
   intro z
   simp only [Bool.and_eq_true,Bool.or_eq_true,Bool.not_eq_true',decide_eq_true_eq,decide_eq_false_iff_not] at z
   exact q z.2
  rw [this,if_neg q]
  simp
theorem zfO (l:Int × Int × Int) (ls:List (Int × Int × Int)) (p:Int):kC (l :: ls) p=(if l.1=p ∨ l.2.1=p then l.2.2 else 0) + kC ls p:=by
 unfold kC
 rw [List.filter_cons]
 by_cases q:l.1=p ∨ l.2.1=p
 ·have:(decide (l.1=p) || decide (l.2.1=p))=true:=by
   simpa using q
  rw [this,if_pos rfl,if_pos q,List.map_cons,List.sum_cons]
 ·have:(decide (l.1=p) || decide (l.2.1=p))=false:=by
   rw [← Bool.not_eq_true]
   intro z
   exact q (by simpa using z)
  rw [this,if_neg q]
  simp
theorem zc8 {c:Int} (hc:0 ≤ c) (p:Int):∀ {ls:List (Int × Int × Int)},(∀ l ∈ ls,LkOk c l)→((List.range (c.toNat + 1)).map fun (k:Nat)=>yK ls p k).sum=kC ls p
 | [],_=>by
  have:(fun (k:Nat)=>yK [] p k)=fun _=>(0:Int):=rfl
  rw [this,zc9]
  rfl
 | l :: ls,h=>by
  obtain ⟨h1,h2,h3,_⟩:=h l List.mem_cons_self
  have ih:=zc8 hc p (ls:=ls) fun x hx=>h x (List.mem_cons_of_mem _ hx)
  have e:(fun (k:Nat)=>yK (l :: ls) p k)=fun (k:Nat)=>(if (p=l.1∧(k:Int)=l.2.1) ∨ ((k:Int)=l.1∧p=l.2.1) then l.2.2 else 0) + yK ls p k:=funext fun k=>zd8 l ls p k h2
  rw [e,zfW,ih,zfO]
  congr 1
  by_cases q1:l.1=p
  ·have e2:(fun (k:Nat)=>if (p=l.1∧(k:Int)=l.2.1) ∨ ((k:Int)=l.1∧p=l.2.1) then l.2.2 else 0)=fun (k:Nat)=>if (k:Int)=l.2.1 then l.2.2 else 0:=funext fun k=>by
    by_cases z:(k:Int)=l.2.1
    ·rw [if_pos z,if_pos (.inl ⟨q1.symm,z⟩)]
    ·rw [if_neg z,if_neg (by omega)]
   rw [e2,zfX,if_pos (by omega),if_pos (Or.inl q1)]
  ·by_cases q2:l.2.1=p
   ·have e2:(fun (k:Nat)=>if (p=l.1∧(k:Int)=l.2.1) ∨ ((k:Int)=l.1∧p=l.2.1) then l.2.2 else 0)=fun (k:Nat)=>if (k:Int)=l.1 then l.2.2 else 0:=funext fun k=>by
     by_cases z:(k:Int)=l.1
     ·rw [if_pos z,if_pos (.inr ⟨z,q2.symm⟩)]
     ·rw [if_neg z,if_neg (by omega)]
    rw [e2,zfX,if_pos (by omega),if_pos (Or.inr q2)]
   ·have e2:(fun (k:Nat)=>if (p=l.1∧(k:Int)=l.2.1) ∨ ((k:Int)=l.1∧p=l.2.1) then l.2.2 else 0)=fun (_:Nat)=>(0:Int):=funext fun k=>by
     rw [if_neg (by omega)]
    rw [e2,zc9,if_neg (by omega)]
end L2.Y
namespace L2.Y
open PySem
end L2.Y
namespace L2.Y
open PySem L2.Sd
noncomputable def vD (n:Nat) (f:Nat→Int):List D:=(List.range n).map fun k=>.int (f k)
theorem jH (n:Nat) (f:Nat→Int):(vD n f).length=n:=by simp [vD]
theorem wd {n:Nat} {f g:Nat→Int} (h:∀ k,k < n→f k=g k):vD n f=vD n g:=by
 unfold vD
 exact List.map_congr_left fun k hk=>by rw [h k (List.mem_range.mp hk)]
theorem we {n:Nat} {f:Nat→Int} {k:Nat} (h:k < n):(vD n f)[k]?=some (.int (f k)):=by simp [vD,h]
theorem zh0 {n:Nat} {f:Nat→Int} {j:Int} (h0:0 ≤ j) (h:j < n):atI (vD n f) j=some (.int (f j.toNat)):=wn h0 (we (by omega))
theorem ku (n:Nat) (f:Nat→Int):vD (n + 1) f=.int (f 0) :: vD n fun k=>f (k + 1):=by
 unfold vD
 rw [List.range_succ_eq_map,List.map_cons,List.map_map]
 rfl
theorem zix {n:Nat} {f:Nat→Int} {i:Nat} {x:Int}:(vD n f).set i (.int x)=vD n fun k=>if k=i then x else f k:=by
 apply List.ext_getElem?
 intro k
 by_cases hk:k < n
 ·rw [we hk]
  by_cases e:k=i
  ·subst e;rw [List.getElem?_set_self (by rw [jH];exact hk),if_pos rfl]
  ·rw [List.getElem?_set_ne (Ne.symm e),we hk,if_neg e]
 ·rw [List.getElem?_eq_none (by rw [List.length_set,jH];omega),List.getElem?_eq_none (by rw [jH];omega)]
theorem zgi:∀ (n:Nat) (f g:Nat→Int),zip2 (vD n f) (vD n g)=(List.range n).map fun k=>.tuple [.int (f k),.int (g k)]
 | 0,_,_=>rfl
 | n + 1,f,g=>by
  rw [ku,ku,List.range_succ_eq_map,List.map_cons,List.map_map]
  show _ :: zip2 _ _=_
  rw [zgi n]
  rfl
theorem kx (n:Nat) (f g:Nat→Int):zipT [.tuple (vD n f),.tuple (vD n g)]=some ((List.range n).map fun k=>.tuple [.int (f k),.int (g k)]):=by
 show some (zip2 _ _)=_
 rw [zgi]
theorem zcy:∀ (n i:Nat) (f:Nat→Int),qM i (vD n f)=(List.range n).map fun k=>.tuple [.int ((i + k:Nat):Int),.int (f k)]
 | 0,_,_=>rfl
 | n + 1,i,f=>by
  rw [ku,List.range_succ_eq_map,List.map_cons,List.map_map]
  show _ :: qM (i + 1) _=_
  rw [zcy n]
  congr 1
  apply List.map_congr_left
  intro k _
  show (PyData.tuple [.int ((i + 1 + k:Nat):Int),.int (f (k + 1))]:D)=.tuple [.int ((i + (k + 1):Nat):Int),.int (f (k + 1))]
  rw [show i + 1 + k=i + (k + 1) by omega]
theorem zgz (n:Nat) (f:Nat→Int):zew [.tuple (vD n f)]=some ((List.range n).map fun k=>.tuple [.int (k:Int),.int (f k)]):=by
 show some (qM 0 _)=_
 rw [zcy]
 simp only [Nat.zero_add]
theorem jm {h:GT} {ge:Env'→Option D} {ρ:Env'} {m:Nat} (p:Nat→D) (f:Nat→D) (hh:∀ k,k < m→∃ ρ1,h (p k) ρ=some ρ1∧ge ρ1=some (f k)):xF h qd ge ρ ((List.range m).map p)=some ((List.range m).map f):=by
 have key:∀ l:List Nat,(∀ k ∈ l,k < m)→xF h qd ge ρ (l.map p)=some (l.map f):=by
  intro l
  induction l with
  | nil=>intro _;rfl
  | cons k l ih =>
   intro hl
   obtain ⟨ρ1,e1,e2⟩:=hh k (hl k List.mem_cons_self)
   show (h (p k) ρ).bind _=_
   rw [e1,Option.bind_some]
   show (some true).bind _=_
   rw [Option.bind_some,if_pos rfl,e2,Option.bind_some,ih fun j hj=>hl j (List.mem_cons_of_mem _ hj)]
   rfl
 exact key _ fun k hk=>List.mem_range.mp hk
noncomputable def xm (n:Nat) (s h:Nat→Int):Bool:=(List.range n).all fun k=>decide (h k < s k)
theorem xi {n:Nat} {s h:Nat→Int}:xm n s h=true ↔ kr n s h:=by
 unfold xm kr
 rw [List.all_eq_true]
 exact ⟨fun q j hj=>of_decide_eq_true (q j (List.mem_range.mpr hj)),fun q j hj=>decide_eq_true (q j (List.mem_range.mp hj))⟩
theorem yx (n:Nat) (hn:n ≤ 1000) (h s:Nat→Int):F_all_below [.tuple (vD n h),.tuple (vD n s)]=some (.bool (xm n s h)):=by
 unfold F_all_below
 refine zB ?_
 show wj [some (.val (.tuple (vD n h))),some (.val (.tuple (vD n s)))]=_
 unfold wj
 exact zX (zu (za (jz (zL (jt (za (x:=.tuple (vD n h)) rfl (za (x:=.tuple (vD n s)) rfl zg)) (kx n h s)) (by simp;omega)
  (jm _ (fun k=>.bool (decide (h k < s k))) fun k hk=>⟨[vI (h k),vI (s k)],rfl,zy (x:=.int (h k)) rfl (y:=.int (s k)) rfl (zb3 _ _)⟩))) zg) (zgs _ _))
theorem zhI {i:Nat} {gi ge:Env'→Option D} {ρ:Env'} {ds:List D} {d:D} {j:Int} (h1:ge ρ=some d) (h2:gi ρ=some (.int j)) (h3:ρ[i]?=some (some (.own (.list ds)))) (h0:0 ≤ j) (h4:j < ds.length):zhH i gi ge ρ=some (.nxt (ρ.set i (some (.own (.list (ds.set j.toNat d)))))):=by
 unfold zhH ownL ixN
 rw [h1,Option.bind_some,h2,Option.bind_some,h3]
 simp only [Option.bind_some,if_pos h0,if_pos h4]
theorem zhE {i:Nat} {h:D→D→Option D} {gi ge:Env'→Option D} {ρ:Env'} {ds:List D} {x y z:D} {j:Int} (h1:ge ρ=some y) (h2:gi ρ=some (.int j)) (h3:ρ[i]?=some (some (.own (.list ds)))) (h0:0 ≤ j) (h5:ds[j.toNat]?=some x) (h6:h x y=some z):zhD i h gi ge ρ=some (.nxt (ρ.set i (some (.own (.list (ds.set j.toNat z)))))):=by
 have h4:j.toNat < ds.length:=(List.getElem?_eq_some_iff.mp h5).1
 unfold zhD ownL ixN
 rw [h2,Option.bind_some,h3]
 simp only [Option.bind_some,wn h0 h5,h1,h6,if_pos h0]
 rw [if_pos (by omega),Option.bind_some]
noncomputable def tieB (ls:List (Int × Int × Int)) (p q:Nat):Int:=yK ls p q
theorem wR {c:Int} {n:Nat} (hc:c=n) {ls:List (Int × Int × Int)} (h:∀ l ∈ ls,LkOk c l) (i:Nat):kC ls (1 + i)=szB n (tieB ls) i:=by
 subst hc
 rw [← zc8 (by omega) (1 + (i:Int)) h]
 unfold szB sm tieB
 rw [show (1 + (i:Int))=((i + 1:Nat):Int) by omega]
 rfl
theorem zda {c:Int} {ls:List (Int × Int × Int)} (h:∀ l ∈ ls,LkOk c l) {i j:Nat} (hij:i ≠ j):twoI ls (1 + i) (1 + j)=tieB ls (i + 1) (j + 1):=by
 rw [zhX h (by omega)]
 unfold tieB
 rw [show (1 + (i:Int))=((i + 1:Nat):Int) by omega,show (1 + (j:Int))=((j + 1:Nat):Int) by omega]
end L2.Y
namespace L2.Y
open PySem L2.Sd
theorem kK (n:Nat) (hn:n ≤ 1000) (h m:Nat→Int) (o:Int) (hm:∀ k,k < n→-(2 ^ 64) < m k∧m k < 2 ^ 64):F_changed [.tuple (vD n h),.tuple (vD n m),.int o]=some (.tuple (vD n fun k=>h k + m k * o)):=by
 unfold F_changed
 refine zB ?_
 show vc [some (.val (.tuple (vD n h))),some (.val (.tuple (vD n m))),vI o]=_
 unfold vc
 exact zX (zu (za (jz (zL (jt (za (x:=.tuple (vD n h)) rfl (za (x:=.tuple (vD n m)) rfl zg)) (kx n h m)) (by simp;omega)
  (jm _ (fun k=>.int (h k + m k * o)) fun k hk=>⟨[vI (h k),vI (m k),vI o],rfl,zy (x:=.int (h k)) rfl (zy (x:=.int (m k)) rfl (y:=.int o) rfl (qv (hm k hk).1 (hm k hk).2)) (zH _ _)⟩))) zg) (zN _))
theorem yy {c:Int} {n:Nat} (hc:c=n) (hn:n ≤ 1000) {ls:List (Int × Int × Int)} (hl:∀ l ∈ ls,LkOk c l) (h:ls.length ≤ 1000) {i:Nat} (hi:i < n):F_change_by [zp c ls,.int (1 + i)]=some (.tuple (vD n (chB n (tieB ls) i))):=by
 unfold F_change_by
 refine zB ?_
 show wk [some (.val (zp c ls)),vI (1 + i),none]=_
 unfold wk
 have er:qE [.int 1,.int (c + 1)]=some (zT 1 n):=by
  rw [qU (by decide) (by decide) (by omega) (by omega)]
  congr 2
  omega
 rw [zm (ρ':=[some (.val (zp c ls)),vI (1 + i),some (.own (.list (vD n fun k=>twoI ls (1 + i) (1 + k))))]) (zfI (zL (jt (za zI (za (zy (zy (x:=zp c ls) rfl zI (jA c ls)) zI (zH c 1)) zg)) er) (by rw [jp];omega)
  (jm _ (fun k=>.int (twoI ls (1 + i) (1 + k))) fun k hk=>⟨[vI (1 + k),some (.val (zp c ls)),vI (1 + i)],rfl,zu (za (x:=zp c ls) rfl (za (x:=.int (1 + i)) rfl (za (x:=.int (1 + k)) rfl zg))) (by rw [jN];exact kG c (1 + i) (1 + k) ls h)⟩)))]
 rw [zm (zhI (j:=1 + i - 1) (zeG (zu (za (x:=zp c ls) rfl (za (x:=.int (1 + i)) rfl zg)) (by rw [zQ];exact zab c (1 + i) ls h)) (yS _)) (zy (x:=.int (1 + i)) rfl zI (wU _ _)) (ds:=vD n fun k=>twoI ls (1 + i) (1 + k)) rfl (by omega) (by rw [jH];omega))]
 refine zX (zu (za (x:=.list _) rfl zg) ?_)
 rw [zN,zix]
 congr 2
 refine wd fun k hk => ?_
 have e1:(1 + (i:Int) - 1).toNat=i:=by omega
 rw [e1,wR hc hl]
 unfold chB
 by_cases e:k=i
 ·subst e;rw [if_pos rfl,if_pos rfl]
 ·rw [if_neg e,if_neg (Ne.symm e),zda hl (Ne.symm e)]
end L2.Y
namespace L2.Y
open PySem
theorem yv {c:Env'→Option Bool} {gb:GS} (P:Nat→Env'→Prop) (R:Env'→Prop) (step:∀ m ρ,P m ρ→(c ρ=some false∧R ρ) ∨ (c ρ=some true∧∃ ρ2 m2,gb ρ=some (.nxt ρ2)∧m2 < m∧P m2 ρ2)):∀ m ρ,P m ρ→∃ ρ',jZ c gb (m + 1) ρ=some (.nxt ρ')∧R ρ':=by
 intro m
 induction m using Nat.strongRecOn with
 | _ m ih =>
  intro ρ hp
  rcases step m ρ hp with ⟨e,r⟩ | ⟨e,ρ2,m2,e2,hm,hp2⟩
  ·refine ⟨ρ,?_,r⟩
   show (c ρ).bind _=_
   rw [e]
   rfl
  ·have key:∀ (k:Nat) ρ3 o,m2 + 1 ≤ k→jZ c gb (m2 + 1) ρ3=some o→jZ c gb k ρ3=some o:=fun k ρ3 o hk q=>by
    have mono:∀ (a b:Nat) ρ o,a ≤ b→jZ c gb a ρ=some o→jZ c gb b ρ=some o:=by
     intro a
     induction a with
     | zero=>intro b ρ o _ q;cases q
     | succ a ih2 =>
      intro b ρ o hab q
      obtain ⟨b',rfl⟩:∃ b',b=b' + 1:=⟨b - 1,by omega⟩
      unfold jZ at q ⊢
      obtain ⟨x,q1,q2⟩:=Option.bind_eq_some_iff.mp q
      rw [q1,Option.bind_some]
      cases x with
      | false=>exact q2
      | true =>
       simp only [if_true] at q2 ⊢
       obtain ⟨o1,q3,q4⟩:=Option.bind_eq_some_iff.mp q2
       rw [q3,Option.bind_some]
       cases o1 with
       | nxt ρ4=>exact ih2 b' ρ4 o (by omega) q4
       | cnt ρ4=>exact ih2 b' ρ4 o (by omega) q4
       | brk ρ4=>exact q4
       | ret d=>exact q4
    exact mono _ _ _ _ hk q
   obtain ⟨ρ',e3,r⟩:=ih m2 hm ρ2 hp2
   refine ⟨ρ',?_,r⟩
   show (c ρ).bind _=_
   rw [e,Option.bind_some,if_pos rfl,e2,Option.bind_some]
   exact key m ρ2 _ (by omega) e3
theorem kg {c:Env'→Option Bool} {gb:GS} {n:Nat} {ρ:Env'} {o:Out} (h:jZ c gb n ρ=some o):wM c gb ρ=some o:=by
 have mono:∀ (a b:Nat) ρ o,a ≤ b→jZ c gb a ρ=some o→jZ c gb b ρ=some o:=by
  intro a
  induction a with
  | zero=>intro b ρ o _ q;cases q
  | succ a ih2 =>
   intro b ρ o hab q
   obtain ⟨b',rfl⟩:∃ b',b=b' + 1:=⟨b - 1,by omega⟩
   unfold jZ at q ⊢
   obtain ⟨x,q1,q2⟩:=Option.bind_eq_some_iff.mp q
   rw [q1,Option.bind_some]
   cases x with
   | false=>exact q2
   | true =>
    simp only [if_true] at q2 ⊢
    obtain ⟨o1,q3,q4⟩:=Option.bind_eq_some_iff.mp q2
    rw [q3,Option.bind_some]
    cases o1 with
    | nxt ρ4=>exact ih2 b' ρ4 o (by omega) q4
    | cnt ρ4=>exact ih2 b' ρ4 o (by omega) q4
    | brk ρ4=>exact q4
    | ret d=>exact q4
 have hx:∃ n o,jZ c gb n ρ=some o:=⟨n,o,h⟩
 unfold wM
 rw [dif_pos hx]
 have h2:=hx.choose_spec.choose_spec
 have h3:=mono _ _ _ _ (Nat.le_max_left n hx.choose) h
 have h4:=mono _ _ _ _ (Nat.le_max_right n hx.choose) h2
 rw [h3] at h4
 exact h4.symm
end L2.Y
namespace L2.Y
open PySem L2.Sd
structure YOk (c:Int) (n:Nat) (ls:List (Int × Int × Int)):Prop where
 ec:c=n
 en:n ≤ 1000
 lk:∀ l ∈ ls,LkOk c l
 len:ls.length ≤ 1000
 net:Net n (tieB ls)
 sz:∀ i,i < n→szB n (tieB ls) i < 1073741824
 mb:∀ i j,i < n→j < n→-(2 ^ 64) < chB n (tieB ls) i j∧chB n (tieB ls) i j < 2 ^ 64
variable {c:Int} {n:Nat} {ls:List (Int × Int × Int)}
theorem YOk.yd (O:YOk c n ls):Yd n (chB n (tieB ls)) (szB n (tieB ls)):=O.net.yd O.net.size_pos
theorem YOk.sizes (O:YOk c n ls):F_sizes [zp c ls]=some (.tuple (vD n (szB n (tieB ls)))):=by
 have hc:=O.ec
 have hn:=O.en
 rw [zhJ c (by omega) (by omega) ls O.len]
 congr 2
 unfold zfP vD
 rw [List.map_map,show c.toNat=n by omega]
 exact List.map_congr_left fun k _=>congrArg PyData.int (wR O.ec O.lk k)
end L2.Y
namespace L2.Sd
noncomputable def rnd (M:Nat→Nat→Int) (s h t:Nat→Int):Nat→(Nat→Int) × (Nat→Int)
 | 0=>(h,t)
 | i + 1=>((fun j=>(rnd M s h t i).1 j + M i j * max ((rnd M s h t i).1 i / s i) 0),fun k=>if k=i then (rnd M s h t i).2 k + max ((rnd M s h t i).1 i / s i) 0 else (rnd M s h t i).2 k)
structure StOk (n:Nat) (M:Nat→Nat→Int) (s g h t:Nat→Int):Prop where
 is:∀ j,j < n→h j=fc n M g t j
 way:Way n M s g t
 nn:∀ j,j < n→0 ≤ h j
variable {n:Nat} {M:Nat→Nat→Int} {s g h t:Nat→Int}
theorem StOk.step (Y:Yd n M s) (I:StOk n M s g h t) {i:Nat} (hi:i < n) {o:Int} (h0:0 ≤ o) (ho:o * s i ≤ h i):StOk n M s g (fun j=>h j + M i j * o) (fun k=>if k=i then t k + o else t k):=by
 refine ⟨fun j hj => ?_,I.way.step Y hi h0 (by rw [← I.is i hi];exact ho),fun j hj => ?_⟩
 ·show h j + M i j * o=_
  rw [zlg hi,I.is j hj,Int.mul_comm]
 ·show 0 ≤ h j + M i j * o
  by_cases e:i=j
  ·subst e
   rw [Y.dia i hi,Int.neg_mul,Int.mul_comm]
   omega
  ·have:=I.nn j hj
   have:=Int.mul_nonneg (Y.off i j hi hj e) h0
   omega
theorem zfE (Y:Yd n M s) (I:StOk n M s g h t):∀ i,i ≤ n→StOk n M s g (rnd M s h t i).1 (rnd M s h t i).2∧(∀ k,i ≤ k→k < n→h k ≤ (rnd M s h t i).1 k)∧(∀ k,k < n→t k ≤ (rnd M s h t i).2 k)∧∀ k,k < i→s k ≤ h k→t k + 1 ≤ (rnd M s h t i).2 k
 | 0,_=>⟨I,fun _ _ _=>Int.le_refl _,fun _ _=>Int.le_refl _,fun k hk=>by omega⟩
 | i + 1,hi=>by
  obtain ⟨J,a,b,c⟩:=zfE Y I i (by omega)
  have hp:=Y.pos i (by omega)
  have hnn:=J.nn i (by omega)
  have q0:0 ≤ (rnd M s h t i).1 i / s i:=Int.ediv_nonneg hnn (by omega)
  have em:max ((rnd M s h t i).1 i / s i) 0=(rnd M s h t i).1 i / s i:=by omega
  have hle:(rnd M s h t i).1 i / s i * s i ≤ (rnd M s h t i).1 i:=Int.ediv_mul_le _ (by omega)
  have e1:(rnd M s h t (i + 1)).1=fun j=>(rnd M s h t i).1 j + M i j * ((rnd M s h t i).1 i / s i):=by
   show (fun j=>(rnd M s h t i).1 j + M i j * max ((rnd M s h t i).1 i / s i) 0)=_
   rw [em]
  have e2:(rnd M s h t (i + 1)).2=fun k=>if k=i then (rnd M s h t i).2 k + (rnd M s h t i).1 i / s i else (rnd M s h t i).2 k:=by
   show (fun k=>if k=i then (rnd M s h t i).2 k + max ((rnd M s h t i).1 i / s i) 0 else (rnd M s h t i).2 k)=_
   rw [em]
  rw [e1,e2]
  refine ⟨J.step Y (by omega) q0 hle,fun k hk hkn => ?_,fun k hk => ?_,fun k hk hs => ?_⟩
  ·have:=a k (by omega) hkn
   have:=Int.mul_nonneg (Y.off i k (by omega) hkn (by omega)) q0
   show h k ≤ (rnd M s h t i).1 k + M i k * ((rnd M s h t i).1 i / s i)
   omega
  ·have:=b k hk
   show t k ≤ if k=i then _ else _
   by_cases e:k=i
   ·rw [if_pos e];omega
   ·rw [if_neg e];omega
  ·show t k + 1 ≤ if k=i then _ else _
   by_cases e:k=i
   ·subst e
    rw [if_pos rfl]
    have:=b k (by omega)
    have h1:=a k (Nat.le_refl _) (by omega)
    have:1 ≤ (rnd M s h t k).1 k / s k:=by
     rw [Int.le_ediv_iff_mul_le (by omega)]
     omega
    omega
   ·rw [if_neg e]
    exact c k (by omega) hs
theorem zhz (Y:Yd n M s) (I:StOk n M s g h t) (hs:¬ kr n s h):sm n t + 1 ≤ sm n (rnd M s h t n).2:=by
 obtain ⟨_,_,b,c⟩:=zfE Y I n (Nat.le_refl _)
 have:∃ k,k < n∧s k ≤ h k:=by
  apply Classical.byContradiction
  intro z
  exact hs fun j hj=>Int.not_le.mp fun q=>z ⟨j,hj,q⟩
 obtain ⟨k,hk,hkk⟩:=this
 rw [← zfQ hk]
 refine zci fun j hj => ?_
 by_cases e:j=k
 ·subst e;rw [if_pos rfl];exact c j hk hkk
 ·rw [if_neg e];exact b j hj
end L2.Sd
namespace L2.Y
open PySem L2.Sd
theorem zaZ {n:Nat} {s h:Nat→Int} (q:xm n s h=false):¬ kr n s h:=fun z=>by rw [xi.mpr z] at q;cases q
variable {c:Int} {n:Nat} {ls:List (Int × Int × Int)}
noncomputable def chs (n:Nat) (ls:List (Int × Int × Int)):List D:=(List.range n).map fun i=>.tuple (vD n (chB n (tieB ls) i))
theorem zcg (O:YOk c n ls) (a0 a1:Option En) (h t:Nat→Int) (x6 x7 x8:Option En):∃ y6 y7 y8,xf [a0,a1,some (.val (.tuple (vD n (szB n (tieB ls))))),some (.val (.list (chs n ls))),some (.own (.list (vD n t))),some (.val (.tuple (vD n h))),x6,x7,x8] =
  some (.nxt [a0,a1,some (.val (.tuple (vD n (szB n (tieB ls))))),some (.val (.list (chs n ls))),some (.own (.list (vD n (rnd (chB n (tieB ls)) (szB n (tieB ls)) h t n).2))),some (.val (.tuple (vD n (rnd (chB n (tieB ls)) (szB n (tieB ls)) h t n).1))),y6,y7,y8]):=by
 obtain ⟨ρ',e,y6,y7,y8,rfl⟩:=jI (h:=hTup 2 (jD (hName 6) (jD (hName 7) hNil))) (gb:=xc)
  (fun i ρ=>∃ x6 x7 x8,ρ=[a0,a1,some (.val (.tuple (vD n (szB n (tieB ls))))),some (.val (.list (chs n ls))),some (.own (.list (vD n (rnd (chB n (tieB ls)) (szB n (tieB ls)) h t i).2))),some (.val (.tuple (vD n (rnd (chB n (tieB ls)) (szB n (tieB ls)) h t i).1))),x6,x7,x8])
  ((List.range n).map fun (k:Nat)=>(.tuple [.int (k:Int),.int (szB n (tieB ls) k)]:D)) 0 _ ⟨x6,x7,x8,rfl⟩ (fun k d ρ hk hZq=>by
   obtain ⟨x6,x7,x8,hr⟩:=hZq
   subst hr
   rw [List.getElem?_map] at hk
   obtain ⟨k',hk',rfl⟩:=Option.map_eq_some_iff.mp hk
   obtain ⟨hlt,hkk⟩:=List.getElem?_eq_some_iff.mp hk'
   simp at hlt hkk
   subst hkk
   rw [Nat.zero_add]
   have hs:=O.net.size_pos k hlt
   have hs2:=O.sz k hlt
   generalize hH:(rnd (chB n (tieB ls)) (szB n (tieB ls)) h t k)=R
   refine ⟨[a0,a1,some (.val (.tuple (vD n (szB n (tieB ls))))),some (.val (.list (chs n ls))),some (.own (.list (vD n R.2))),some (.val (.tuple (vD n R.1))),vI k,vI (szB n (tieB ls) k),x8],_,rfl,?_,
    vI k,vI (szB n (tieB ls) k),vI (max (R.1 k / szB n (tieB ls) k) 0),rfl⟩
   show xc _=some (.nxt [a0,a1,_,_,some (.own (.list (vD n (rnd (chB n (tieB ls)) (szB n (tieB ls)) h t (k + 1)).2))),some (.val (.tuple (vD n (rnd (chB n (tieB ls)) (szB n (tieB ls)) h t (k + 1)).1))),_,_,_])
   unfold xc
   rw [zm (ρ':=[a0,a1,some (.val (.tuple (vD n (szB n (tieB ls))))),some (.val (.list (chs n ls))),some (.own (.list (vD n R.2))),some (.val (.tuple (vD n R.1))),vI k,vI (szB n (tieB ls) k),vI (max (R.1 k / szB n (tieB ls) k) 0)])
    (zG (zu (za (zy (zy (x:=.tuple (vD n R.1)) rfl (y:=.int k) rfl (zh0 (by omega) (by omega))) (y:=.int (szB n (tieB ls) k)) rfl (vF (by omega) hs2)) (za zI zg)) (zaD _ _)) (by rw [show ((k:Int).toNat)=k by omega];rfl))]
   rw [zm (ρ':=[a0,a1,some (.val (.tuple (vD n (szB n (tieB ls))))),some (.val (.list (chs n ls))),some (.own (.list (vD n R.2))),some (.val (.tuple (vD n fun j=>R.1 j + chB n (tieB ls) k j * max (R.1 k / szB n (tieB ls) k) 0))),vI k,vI (szB n (tieB ls) k),vI (max (R.1 k / szB n (tieB ls) k) 0)])
    (zG (zu (za (x:=.tuple (vD n R.1)) rfl (za (zy (x:=.list (chs n ls)) rfl (y:=.int k) rfl (d:=.tuple (vD n (chB n (tieB ls) k))) (wn (by omega) (by rw [show ((k:Int).toNat)=k by omega];simp [chs,hlt]))) (za (x:=.int (max (R.1 k / szB n (tieB ls) k) 0)) rfl zg))) (by rw [jN];exact kK n O.en R.1 _ _ fun j hj=>O.mb k j hlt hj)) rfl)]
   rw [zhE (x:=.int (R.2 k)) (y:=.int (max (R.1 k / szB n (tieB ls) k) 0)) (j:=k) (ds:=vD n R.2) rfl rfl rfl (by omega) (by rw [show ((k:Int).toNat)=k by omega];exact we hlt) (zgq _ _)]
   rw [zix,show ((k:Int).toNat)=k by omega]
   have e1:(rnd (chB n (tieB ls)) (szB n (tieB ls)) h t (k + 1)).1=fun j=>R.1 j + chB n (tieB ls) k j * max (R.1 k / szB n (tieB ls) k) 0:=by rw [← hH];rfl
   have e2:(vD n fun j=>if j=k then R.2 k + max (R.1 k / szB n (tieB ls) k) 0 else R.2 j)=vD n (rnd (chB n (tieB ls)) (szB n (tieB ls)) h t (k + 1)).2:=wd fun j _=>by
    rw [← hH]
    show _=if j=k then _ else _
    by_cases e:j=k
    ·subst e;simp only [if_true]
    ·rw [if_neg e,if_neg e]
   rw [e1,e2]
   rfl)
 refine ⟨y6,y7,y8,?_⟩
 simp only [List.length_map,List.length_range,Nat.zero_add] at e
 unfold xf
 exact qL (ds:=(List.range n).map fun (k:Nat)=>(.tuple [.int (k:Int),.int (szB n (tieB ls) k)]:D)) (jt (za (x:=.tuple (vD n (szB n (tieB ls)))) rfl zg) (zgz _ _)) e
theorem zfD:∀ n:Nat,(List.replicate n [(.int 0:D)]).flatten=vD n fun _=>0
 | 0=>rfl
 | n + 1=>by rw [List.replicate_succ,List.flatten_cons,zfD n,ku];rfl
theorem zdB (O:YOk c n ls) (g:Nat→Int) (hg:∀ j,j < n→0 ≤ g j):∃ t,F_settled [zp c ls,.tuple (vD n g)]=some (.tuple [.tuple (vD n (fc n (chB n (tieB ls)) g t)),.tuple (vD n t)])∧Odo n (chB n (tieB ls)) (szB n (tieB ls)) g t∧∀ j,j < n→0 ≤ fc n (chB n (tieB ls)) g t j:=by
 have Y:=O.yd
 obtain ⟨σ,B⟩:=O.net.brings g
 have hc:=O.ec
 have hn:=O.en
 have er:qE [.int 1,.int (c + 1)]=some (zT 1 n):=by
  rw [qU (by decide) (by decide) (by omega) (by omega)]
  congr 2
  omega
 obtain ⟨ρ',e,h,t,x6,x7,x8,I,hs,rfl⟩:=yv (c:=wz (gTr (gA (zt 2 F_all_below) (zc (gVar 5) (zc (gVar 2) gNil))))) (gb:=xf)
  (fun m ρ=>∃ h t x6 x7 x8,StOk n (chB n (tieB ls)) (szB n (tieB ls)) g h t∧(m:Int)=sm n σ - sm n t∧ρ=[some (.val (zp c ls)),some (.val (.tuple (vD n g))),some (.val (.tuple (vD n (szB n (tieB ls))))),some (.val (.list (chs n ls))),some (.own (.list (vD n t))),some (.val (.tuple (vD n h))),x6,x7,x8])
  (fun ρ=>∃ h t x6 x7 x8,StOk n (chB n (tieB ls)) (szB n (tieB ls)) g h t∧kr n (szB n (tieB ls)) h∧ρ=[some (.val (zp c ls)),some (.val (.tuple (vD n g))),some (.val (.tuple (vD n (szB n (tieB ls))))),some (.val (.list (chs n ls))),some (.own (.list (vD n t))),some (.val (.tuple (vD n h))),x6,x7,x8])
  (fun m ρ hZq=>by
   obtain ⟨h,t,x6,x7,x8,I,hm,hr⟩:=hZq
   subst hr
   have ec:∀ b,xm n (szB n (tieB ls)) h=b→wz (gTr (gA (zt 2 F_all_below) (zc (gVar 5) (zc (gVar 2) gNil)))) [some (.val (zp c ls)),some (.val (.tuple (vD n g))),some (.val (.tuple (vD n (szB n (tieB ls))))),some (.val (.list (chs n ls))),some (.own (.list (vD n t))),some (.val (.tuple (vD n h))),x6,x7,x8]=some (!b):=fun b hb =>
    wA (zbh (zu (za (x:=.tuple (vD n h)) rfl (za (x:=.tuple (vD n (szB n (tieB ls)))) rfl zg)) (by rw [zQ,yx n O.en,hb])))
   cases hb:xm n (szB n (tieB ls)) h with
   | true=>exact .inl ⟨ec true hb,h,t,x6,x7,x8,I,xi.mp hb,rfl⟩
   | false =>
    obtain ⟨y6,y7,y8,e2⟩:=zcg O (some (.val (zp c ls))) (some (.val (.tuple (vD n g)))) h t x6 x7 x8
    obtain ⟨J,_,_,_⟩:=zfE Y I n (Nat.le_refl _)
    have more:=zhz Y I (zaZ hb)
    have le:sm n (rnd (chB n (tieB ls)) (szB n (tieB ls)) h t n).2 ≤ sm n σ:=zci fun k hk=>J.way.le σ B k hk
    exact .inr ⟨ec false hb,_,(sm n σ - sm n (rnd (chB n (tieB ls)) (szB n (tieB ls)) h t n).2).toNat,e2,by omega,_,_,y6,y7,y8,J,by omega,rfl⟩)
  (sm n σ).toNat [some (.val (zp c ls)),some (.val (.tuple (vD n g))),some (.val (.tuple (vD n (szB n (tieB ls))))),some (.val (.list (chs n ls))),some (.own (.list (vD n fun _=>0))),some (.val (.tuple (vD n g))),none,none,none]
  ⟨g,fun _=>0,none,none,none,⟨fun j _=>(zeD g j).symm,Way.start,hg⟩,by
   have:=kn (n:=n) (f:=σ) B.1
   have z:sm n (fun _=>0)=0:=by
    have:=qw n 0 (fun _=>0)
    simpa using this
   omega,rfl⟩
 have ev:vD n h=vD n (fc n (chB n (tieB ls)) g t):=wd I.is
 refine ⟨t,?_,I.way.odo fun j hj=>by rw [← I.is j hj];exact hs j hj,fun j hj=>by rw [← I.is j hj];exact I.nn j hj⟩
 unfold F_settled
 refine zB ?_
 show vi [some (.val (zp c ls)),some (.val (.tuple (vD n g))),none,none,none,none,none,none,none]=_
 unfold vi
 rw [zm (zG (zu (za (x:=zp c ls) rfl zg) (by rw [xn];exact O.sizes)) rfl)]
 rw [zm (wa (ds:=chs n ls) (zL (jt (za zI (za (zy (zy (x:=zp c ls) rfl zI (jA c ls)) zI (zH c 1)) zg)) er) (by rw [jp];omega)
  (jm _ (fun i=>.tuple (vD n (chB n (tieB ls) i))) fun k hk=>⟨[vI (1 + k),some (.val (zp c ls))],rfl,zu (za (x:=zp c ls) rfl (za (x:=.int (1 + k)) rfl zg)) (by rw [zQ];exact yy O.ec O.en O.lk O.len hk)⟩)))]
 rw [zm (ρ':=[some (.val (zp c ls)),some (.val (.tuple (vD n g))),some (.val (.tuple (vD n (szB n (tieB ls))))),some (.val (.list (chs n ls))),some (.own (.list (vD n fun _=>0))),none,none,none,none]) (by
  refine zfI (ds:=vD n fun _=>0) ?_
  show gF2 mulL _ _ _=_
  unfold gF2
  rw [jz (vG (za zI zg) (show 1 ≤ 16777216 by decide)),Option.bind_some,zy (x:=zp c ls) rfl zI (jA c ls),Option.bind_some]
  show repD [.int 0] c=_
  unfold repD
  rw [if_pos ⟨by omega,by omega,by
   show 1 * c.toNat ≤ 16777216
   omega⟩,show c.toNat=n by omega]
  exact congrArg some (zfD n))]
 rw [zm (ρ':=[some (.val (zp c ls)),some (.val (.tuple (vD n g))),some (.val (.tuple (vD n (szB n (tieB ls))))),some (.val (.list (chs n ls))),some (.own (.list (vD n fun _=>0))),some (.val (.tuple (vD n g))),none,none,none]) rfl]
 rw [zm (kg e)]
 rw [← ev]
 exact zX (zu (za (x:=.tuple (vD n h)) rfl (za (zu (za (x:=.list (vD n t)) rfl zg) (zN _)) zg)) (zf4 _ _))
end L2.Y
namespace L2.Y
open PySem L2.Sd
theorem zbM {c:Int} {ls:List (Int × Int × Int)} (h:∀ l ∈ ls,LkOk c l) (p:Int × Int × Int→Bool):0 ≤ ((ls.filter p).map (·.2.2)).sum∧((ls.filter p).map (·.2.2)).sum ≤ 4 * ls.length:=by
 induction ls with
 | nil=>simp
 | cons l ls ih =>
  obtain ⟨a,b⟩:=ih fun x hx=>h x (List.mem_cons_of_mem _ hx)
  obtain ⟨_,_,_,h4,h5⟩:=h l List.mem_cons_self
  rw [List.filter_cons,List.length_cons]
  split
  ·rw [List.map_cons,List.sum_cons];omega
  ·omega
theorem zdE {c:Int} {ls:List (Int × Int × Int)} (h:∀ l ∈ ls,LkOk c l) (p:Int × Int × Int→Bool) {l:Int × Int × Int} (hl:l ∈ ls) (hp:p l=true):1 ≤ ((ls.filter p).map (·.2.2)).sum:=by
 induction ls with
 | nil=>cases hl
 | cons x ls ih =>
  obtain ⟨a,_⟩:=zbM (fun y hy=>h y (List.mem_cons_of_mem _ hy)) p
  obtain ⟨_,_,_,h4,_⟩:=h x List.mem_cons_self
  rw [List.filter_cons]
  rcases List.mem_cons.mp hl with e | e
  ·subst e
   rw [if_pos hp,List.map_cons,List.sum_cons]
   omega
  ·have:=ih (fun y hy=>h y (List.mem_cons_of_mem _ hy)) e
   split
   ·rw [List.map_cons,List.sum_cons];omega
   ·omega
theorem zf0 (ls:List (Int × Int × Int)) (p q:Nat):tieB ls p q=tieB ls q p:=by
 unfold tieB yK
 congr 2
 apply List.filter_congr
 intro l _
 rw [Bool.or_comm]
theorem ziu (ls:List (Int × Int × Int)) (p:Nat):tieB ls p p=0:=by
 unfold tieB yK
 have:ls.filter (fun l=>!decide (l.1=l.2.1) && ((decide ((p:Int)=l.1) && decide ((p:Int)=l.2.1)) || (decide ((p:Int)=l.1) && decide ((p:Int)=l.2.1))))=[]:=by
  rw [List.filter_eq_nil_iff]
  intro l _ z
  simp only [Bool.and_eq_true,Bool.or_eq_true,Bool.not_eq_true',decide_eq_true_eq,decide_eq_false_iff_not] at z
  omega
 rw [this]
 rfl
theorem zla {c:Int} {n:Nat} {ls:List (Int × Int × Int)} (ec:c=n) (en:n ≤ 1000) (lk:∀ l ∈ ls,LkOk c l) (len:ls.length ≤ 1000) (conn:∀ S:Int→Prop,S 0→(∀ l ∈ ls,S l.1 ↔ S l.2.1)→∀ p,0 ≤ p→p ≤ c→S p):YOk c n ls:=by
 have net:Net n (tieB ls):=⟨zf0 ls,fun p q=>(zbM lk _).1,ziu ls,fun S h0 hs p hp=>by
  have one:∀ l ∈ ls,1 ≤ tieB ls l.1.toNat l.2.1.toNat:=fun l hl=>by
   obtain ⟨h1,h2,h3,h4,h5⟩:=lk l hl
   refine zdE lk _ hl ?_
   simp only [Bool.and_eq_true,Bool.or_eq_true,Bool.not_eq_true',decide_eq_true_eq,decide_eq_false_iff_not]
   omega
  have:=conn (fun x=>S x.toNat) h0 (fun l hl=>by
   obtain ⟨h1,h2,h3,h4,h5⟩:=lk l hl
   exact ⟨hs _ _ (by omega) (by omega) (one l hl),hs _ _ (by omega) (by omega) (by rw [zf0];exact one l hl)⟩) p (by omega) (by omega)
  simpa using this⟩
 have sz:∀ i,szB n (tieB ls) i ≤ 4000:=fun i=>by
  rw [← wR ec lk]
  have:=(zbM lk fun l=>decide (l.1=1 + (i:Int)) || decide (l.2.1=1 + (i:Int))).2
  unfold kC
  omega
 refine ⟨ec,en,lk,len,net,fun i _ => ?_,fun i j hi hj => ?_⟩
 ·have:=sz i;omega
 ·unfold chB
  split
  ·have:=sz i
   have:=net.size_pos i hi
   omega
  ·have:=zbM lk (fun l=>!decide (l.1=l.2.1) && ((decide (((i + 1:Nat):Int)=l.1) && decide (((j + 1:Nat):Int)=l.2.1)) || (decide (((j + 1:Nat):Int)=l.1) && decide (((i + 1:Nat):Int)=l.2.1))))
   have e:tieB ls (i + 1) (j + 1)=((ls.filter fun l=>!decide (l.1=l.2.1) && ((decide (((i + 1:Nat):Int)=l.1) && decide (((j + 1:Nat):Int)=l.2.1)) || (decide (((j + 1:Nat):Int)=l.1) && decide (((i + 1:Nat):Int)=l.2.1)))).map (·.2.2)).sum:=rfl
   rw [← e] at this
   omega
end L2.Y
namespace L2.Y
open PySem L2.Sd
structure Sets (c:Int) (n:Nat) (ls:List (Int × Int × Int)) (g t:Nat→Int):Prop where
 ev:F_settled [zp c ls,.tuple (vD n g)]=some (.tuple [.tuple (vD n (fc n (chB n (tieB ls)) g t)),.tuple (vD n t)])
 odo:Odo n (chB n (tieB ls)) (szB n (tieB ls)) g t
 nn:∀ j,j < n→0 ≤ fc n (chB n (tieB ls)) g t j
theorem zaN {c:Int} {n:Nat} {ls:List (Int × Int × Int)} (O:YOk c n ls) (g:Nat→Int) (hg:∀ j,j < n→0 ≤ g j):∃ t,Sets c n ls g t :=
 let ⟨t,a,b,d⟩:=zdB O g hg;⟨t,a,b,d⟩
theorem Sets.put {c:Int} {n:Nat} {ls:List (Int × Int × Int)} {f g t u v:Nat→Int} (hg:∀ k,k < n→0 ≤ g k) (S:Sets c n ls f t) (U:Sets c n ls (fun k=>fc n (chB n (tieB ls)) f t k + g k) u) (V:Sets c n ls (fun k=>f k + g k) v) :
  (∀ k,k < n→v k=t k + u k)∧∀ j,fc n (chB n (tieB ls)) (fun k=>f k + g k) v j=fc n (chB n (tieB ls)) (fun k=>fc n (chB n (tieB ls)) f t k + g k) u j:=by
 have e:=V.odo.one (S.odo.put hg U.odo)
 refine ⟨e,fun j => ?_⟩
 rw [xT (g':=fun k=>f k + g k) rfl e,fc_g,fc_g,zeC]
end L2.Y
namespace L2.Y
open PySem L2.Sd
theorem step {g h:GS} {ρ:Env'} {r:Out} (P:Env'→Prop) (e:∃ ρ',g ρ=some (.nxt ρ')∧P ρ') (k:∀ ρ',P ρ'→h ρ'=some r):sSeq g h ρ=some r:=by
 obtain ⟨ρ',e1,e2⟩:=e
 rw [zm e1]
 exact k ρ' e2
theorem vV {ns:List Int} {ρ:Env'} (k:Int) (hk:0 ≤ k) (h:gVar 0 ρ=some (scrD (ns.map PyData.int))):gA (zt 2 F_law_mixed) (zc (gVar 0) (zc (gK (.int k)) gNil)) ρ=some (.int (mixI ns k)) :=
 zu (za h (za zI zg)) (by rw [zQ];exact zg8 ns k hk)
theorem kB {c:Env'→Option Bool} {g h:GS} {ρ:Env'} (h1:c ρ=some false):sIf c g h ρ=h ρ:=by rw [zio h1];rfl
theorem zk0 {c:Env'→Option Bool} {g h:GS} {ρ:Env'} (h1:c ρ=some true):sIf c g h ρ=g ρ:=by rw [zio h1];rfl
noncomputable def grI' (x m:Int) (k:Nat):Int:=zW x (50 + k) % (m + 1)
end L2.Y
namespace L2.Y
open PySem L2.Sd
theorem zbi (x:Int) (c:Int) (n:Nat) (hc:c=n) (m:Int) (hn:n ≤ 1000) (hm:0 ≤ m):F_law_grains [.int x,.int c,.int m]=some (.tuple (vD n (grI' x m))):=by
 subst hc
 unfold F_law_grains
 refine zB ?_
 show xx [vI x,vI n,vI m]=_
 unfold xx
 have er:wK [.int n]=some (zT 0 n):=by
  rw [ke (by omega) (by omega)]
  rfl
 refine zX (zu (za (jz (zL (jt (za (x:=.int n) rfl zg) er) (by rw [jp];omega) (jm _ (fun k=>.int (grI' x m k)) fun j hj => ?_))) zg) (zN _))
 refine ⟨[vI (0 + j),vI x,vI m],rfl,?_⟩
 refine zy (zu (za (x:=.int x) rfl (za (zy zI (y:=.int (0 + j)) rfl (zH 50 _)) zg)) (by rw [zQ];exact qy x _)) (zy (x:=.int m) rfl zI (zH m 1)) ?_
 rw [ja (by omega),show (0:Int) + j=j by omega]
 rfl
end L2.Y
namespace L2.Y
open PySem L2.Sd
end L2.Y
namespace L2.Y
open PySem L2.Sd
theorem zeJ {most wide c:Int} {ls:List (Int × Int × Int)} (g:GoodYard most wide c ls) (hm:most ≤ 50) (hw:wide ≤ 4):YOk c c.toNat ls:=by
 have h1:=g.c1
 have h2:=g.c2
 have h3:=g.few
 exact zla (by omega) (by omega) (fun l hl=>by have:=g.rng l hl;exact ⟨this.1,this.2.1,this.2.2.1,this.2.2.2.1,by omega⟩) (by omega) g.conn
end L2.Y
namespace L2.Sd
variable {n:Nat} {B:Nat→Nat→Int}
theorem zdC {n:Nat} {f:Nat→Int} (h:∀ k,k < n→0 ≤ f k) (e:sm n f=0):∀ k,k < n→f k=0:=fun k hk=>by
 have a:=h k hk
 have b:=zfR (f:=f) hk fun j hj _=>h j hj
 omega
noncomputable def fire (n:Nat) (M:Nat→Nat→Int) (z:Nat→Int) (j:Nat):Int:=sm n fun k=>z k * M k j
theorem xI {M:Nat→Nat→Int} (g t:Nat→Int) (j:Nat):fc n M g t j=g j + fire n M t j:=rfl
theorem xU {M:Nat→Nat→Int} (z u:Nat→Int) (j:Nat):fire n M (fun k=>z k + u k) j=fire n M z j + fire n M u j:=by
 unfold fire
 rw [← km]
 exact zP fun k _=>Int.add_mul _ _ _
theorem qz {M:Nat→Nat→Int} (c:Int) (z:Nat→Int) (j:Nat):fire n M (fun k=>c * z k) j=c * fire n M z j:=by
 unfold fire
 rw [← qw]
 exact zP fun k _=>Int.mul_assoc _ _ _
theorem kN {M:Nat→Nat→Int} {z u:Nat→Int} (h:∀ k,k < n→z k=u k) (j:Nat):fire n M z j=fire n M u j:=zP fun k hk=>by rw [h k hk]
theorem zas:∀ (n:Nat) (x:Nat→Int),0 < n→∃ i,i < n∧∀ k,k < n→x k ≤ x i
 | 0,_,h=>absurd h (by omega)
 | 1,x,_=>⟨0,by omega,fun k hk=>by rw [show k=0 by omega];omega⟩
 | n + 2,x,_=>by
  obtain ⟨i,hi,h⟩:=zas (n + 1) x (by omega)
  by_cases q:x i ≤ x (n + 1)
  ·exact ⟨n + 1,by omega,fun k hk=>by
    by_cases e:k=n + 1
    ·rw [e];omega
    ·have:=h k (by omega);omega⟩
  ·exact ⟨i,by omega,fun k hk=>by
    by_cases e:k=n + 1
    ·rw [e];omega
    ·exact h k (by omega)⟩
theorem Net.ker_le (N:Net n B) {x:Nat→Int} (h:∀ j,j < n→fire n (chB n B) x j=0):∀ k,k < n→x k ≤ 0:=by
 intro k0 hk0
 apply Int.not_lt.mp
 intro hpos
 obtain ⟨i,hi,hmax⟩:=zas n x (by omega)
 have mpos:0 < x i:=by have:=hmax k0 hk0;omega
 let H:Nat→Int:=fun p=>if p=0 then 0 else x (p - 1)
 have h0:H 0=0:=rfl
 have hs:∀ k,H (k + 1)=x k:=fun k=>by show (if k + 1=0 then 0 else x (k + 1 - 1))=x k;rw [if_neg (by omega)];rfl
 have hle:∀ p,p ≤ n→H p ≤ x i:=fun p hp=>by
  cases p with
  | zero=>rw [h0];omega
  | succ p=>rw [hs];exact hmax p (by omega)
 have nb:∀ j,j < n→x j=x i→∀ p,p ≤ n→1 ≤ B (j + 1) p→H p=x i:=fun j hj ej p hp hb=>by
  have f:=N.flow H h0 hj
  have e:(sm n fun k=>H (k + 1) * chB n B k j)=0:=by
   rw [← h j hj]
   exact zP fun k _=>by rw [hs]
  rw [e] at f
  have z:=zdC (n:=n + 1) (f:=fun p=>(H (j + 1) - H p) * B (j + 1) p) (fun q hq=>Int.mul_nonneg (by rw [hs,ej];have:=hle q (by omega);omega) (N.nn _ _)) (by omega) p (by omega)
  have z' : (H (j + 1) - H p) * B (j + 1) p=0:=z
  rcases Int.mul_eq_zero.mp z' with q | q
  ·rw [hs,ej] at q;omega
  ·omega
 have all:=N.conn (fun p=>¬ (∃ j,j < n∧p=j + 1∧x j=x i)) (fun ⟨j,_,e,_⟩=>by omega) (fun p q hp hq hb hnp hZq=>by
  obtain ⟨j,hj,e,ej⟩:=hZq
  subst e
  rw [N.sym] at hb
  have:=nb j hj ej p hp hb
  cases p with
  | zero=>rw [h0] at this;omega
  | succ p=>rw [hs] at this;exact hnp ⟨p,by omega,rfl,this⟩)
 exact all (i + 1) (by omega) ⟨i,hi,rfl,rfl⟩
theorem Net.ker (N:Net n B) {x:Nat→Int} (h:∀ j,j < n→fire n (chB n B) x j=0):∀ k,k < n→x k=0:=fun k hk=>by
 have a:=N.ker_le h k hk
 have b:=N.ker_le (x:=fun k=>(-1) * x k) (fun j hj=>by rw [qz,h j hj];rfl) k hk
 omega
section
variable {M:Nat→Nat→Int} {s:Nat→Int}
noncomputable def Rst (n:Nat) (M:Nat→Nat→Int) (s g r:Nat→Int):Prop:=∃ t,Odo n M s g t∧∀ j,j < n→r j=fc n M g t j
theorem Rst.one {g r r' : Nat→Int} (a:Rst n M s g r) (b:Rst n M s g r'):∀ j,j < n→r j=r' j:=fun j hj=>by
 obtain ⟨t,o,e⟩:=a
 obtain ⟨t',o',e'⟩:=b
 rw [e j hj,e' j hj]
 exact xT rfl (o.one o')
theorem Rst.congr {g g' r:Nat→Int} (h:∀ j,j < n→g j=g' j) (a:Rst n M s g r):Rst n M s g' r:=by
 obtain ⟨t,o,e⟩:=a
 exact ⟨t,o.congr h fun _ _=>rfl,fun j hj=>by rw [e j hj];exact xT (h j hj) fun _ _=>rfl⟩
theorem Rst.put {f g r r' : Nat→Int} (hg:∀ j,j < n→0 ≤ g j) (a:Rst n M s f r) (b:Rst n M s (fun k=>r k + g k) r'):Rst n M s (fun k=>f k + g k) r':=by
 obtain ⟨t,o,e⟩:=a
 obtain ⟨u,o',e'⟩:=b
 have o2:=o'.congr (g':=fun k=>fc n M f t k + g k) (t':=u) (fun k hk=>by rw [e k hk]) fun _ _=>rfl
 refine ⟨_,o.put hg o2,fun j hj => ?_⟩
 rw [e' j hj,xI,xI,xU,e j hj,xI]
 omega
structure Lift (n:Nat) (M:Nat→Nat→Int) (s e σ:Nat→Int):Prop where
 rst:Rst n M s (fun k=>2 * s k) σ
 eq:∀ j,j < n→e j=2 * s j - σ j
 lt:∀ j,j < n→σ j < s j
 nn:∀ j,j < n→0 ≤ σ j
end
variable {s:Nat→Int}
end L2.Sd
set_option maxHeartbeats 4000000
namespace L2.Sd
noncomputable def up (i p:Nat):Nat:=if p < i then p else p + 1
noncomputable def dC:Nat→(Nat→Nat→Int)→Int
 | 0,_=>1
 | n + 1,A=>sm (n + 1) fun i=>(if i % 2=0 then 1 else -1) * A i 0 * dC n fun p q=>A (up i p) (q + 1)
theorem zcl {n i p:Nat} (hi:i < n + 1) (hp:p < n):up i p < n + 1:=by unfold up;split <;> omega
theorem qP:∀ (n:Nat) {A A' : Nat→Nat→Int},(∀ p q,p < n→q < n→A p q=A' p q)→dC n A=dC n A'
 | 0,_,_,_=>rfl
 | n + 1,A,A',h=>zP fun i hi=>by
  rw [h i 0 hi (by omega),qP n fun p q hp hq=>h _ _ (zcl hi hp) (by omega)]
noncomputable def rowAt (A:Nat→Nat→Int) (k:Nat) (d:Nat→Int) (p q:Nat):Int:=if p=k then d q else A p q
theorem zfS {n m:Nat} (hm:m < n + 1) (f:Nat→Int):sm (n + 1) f=f m + sm n fun k=>f (up m k):=by
 induction n with
 | zero =>
  have:m=0:=by omega
  subst this
  rw [zY,yq,yq]
  omega
 | succ n ih =>
  by_cases e:m=n + 1
  ·subst e
   rw [zY,zP (g:=fun k=>f (up (n + 1) k)) fun k hk=>by unfold up;rw [if_pos hk]]
   omega
  ·rw [zY,ih (by omega),zY _ (fun k=>f (up m k))]
   have:up m n=n + 1:=by unfold up;rw [if_neg (by omega)]
   rw [this]
   omega
noncomputable def dn (i k:Nat):Nat:=if k < i then k else k - 1
theorem zgb {i k:Nat} (h:k ≠ i) (p:Nat):up i p=k ↔ p=dn i k:=by
 unfold up dn
 by_cases a:p < i <;> by_cases b:k < i <;> simp [a,b] <;> omega
theorem zhZ (i p:Nat):up i p ≠ i:=by unfold up;split <;> omega
theorem zc2 {i k:Nat} (h:k ≠ i) (A:Nat→Nat→Int) (d:Nat→Int):(fun p q=>rowAt A k d (up i p) (q + 1))=rowAt (fun p q=>A (up i p) (q + 1)) (dn i k) fun q=>d (q + 1):=by
 funext p q
 unfold rowAt
 by_cases e:up i p=k
 ·rw [if_pos e,if_pos ((zgb h p).mp e)]
 ·rw [if_neg e,if_neg fun z=>e ((zgb h p).mpr z)]
theorem zaM (k:Nat) (A:Nat→Nat→Int) (d:Nat→Int):(fun p q=>rowAt A k d (up k p) (q + 1))=fun p q=>A (up k p) (q + 1):=by
 funext p q
 unfold rowAt
 rw [if_neg (zhZ k p)]
theorem zj6 {n i k:Nat} (hi:i < n + 1) (hk:k < n + 1) (h:k ≠ i):dn i k < n:=by unfold dn;split <;> omega
theorem lin:∀ (n:Nat) {k:Nat} (A:Nat→Nat→Int) (a b:Int) (u v:Nat→Int),k < n→dC n (rowAt A k fun q=>a * u q + b * v q)=a * dC n (rowAt A k u) + b * dC n (rowAt A k v)
 | 0,k,A,a,b,u,v,h=>absurd h (by omega)
 | n + 1,k,A,a,b,u,v,h=>by
  show sm (n + 1) _=a * sm (n + 1) _ + b * sm (n + 1) _
  rw [← qw,← qw,← km]
  refine zP fun i hi => ?_
  by_cases e:k=i
  ·subst e
   rw [zaM,zaM,zaM]
   unfold rowAt
   rw [if_pos rfl,if_pos rfl,if_pos rfl]
   dsimp only
   generalize (if k % 2=0 then (1:Int) else -1)=s
   generalize dC n _=W
   generalize u 0=x
   generalize v 0=y
   grind
  ·rw [zc2 e,zc2 e,zc2 e,lin n _ a b (fun q=>u (q + 1)) (fun q=>v (q + 1)) (zj6 hi h e)]
   have r:∀ d:Nat→Int,rowAt A k d i 0=A i 0:=fun d=>if_neg fun z=>e z.symm
   rw [r,r,r]
   generalize (if i % 2=0 then (1:Int) else -1)=s
   generalize dC n _=W
   generalize dC n _=Z
   generalize A i 0=x
   grind
theorem lin0 (n:Nat) {k:Nat} (hk:k < n) (A:Nat→Nat→Int):dC n (rowAt A k fun _=>0)=0:=by
 have:=lin n A 0 0 (fun _=>0) (fun _=>0) hk
 rw [Int.zero_mul,Int.zero_mul] at this
 exact this
theorem zig (n:Nat) {k:Nat} (hk:k < n) (A V:Nat→Nat→Int) (c:Nat→Int):∀ m,dC n (rowAt A k fun q=>sm m fun i=>c i * V i q)=sm m fun i=>c i * dC n (rowAt A k (V i))
 | 0=>lin0 n hk A
 | m + 1=>by
  rw [zY,← zig n hk A V c m]
  have:=lin n A 1 (c m) (fun q=>sm m fun i=>c i * V i q) (V m) hk
  rw [Int.one_mul] at this
  rw [← this]
  congr 2
  funext q
  rw [zY,Int.one_mul]
theorem zhB (n k:Nat) (A:Nat→Nat→Int):dC n (rowAt A k (A k))=dC n A:=qP n fun p q _ _=>by
 unfold rowAt
 split
 ·rename_i e;rw [e]
 ·rfl
theorem zjI (k:Nat):(if (k + 1) % 2=0 then (1:Int) else -1)=-(if k % 2=0 then 1 else -1):=by
 by_cases e:k % 2=0
 ·rw [if_neg (by omega),if_pos e]
 ·rw [if_pos (by omega),if_neg e];rfl
theorem twin:∀ (n:Nat) {k:Nat} (A:Nat→Nat→Int),k + 1 < n→(∀ q,q < n→A k q=A (k + 1) q)→dC n A=0
 | 0,k,A,h,_=>absurd h (by omega)
 | n + 1,k,A,h,e=>by
  show sm (n + 1) _=0
  have z:∀ i,i < n + 1→i ≠ k→i ≠ k + 1→(if i % 2=0 then (1:Int) else -1) * A i 0 * (dC n fun p q=>A (up i p) (q + 1))=0:=fun i hi h1 h2=>by
   have d1:up i (dn i k)=k:=(zgb (fun x=>h1 x.symm) _).mpr rfl
   have d2:up i (dn i k + 1)=k + 1:=(zgb (fun x=>h2 x.symm) _).mpr (by unfold dn;split <;> split <;> omega)
   have d3:dn i k + 1 < n:=by
    have:=zj6 hi (show k + 1 < n + 1 by omega) fun x=>h2 x.symm
    have q:dn i (k + 1)=dn i k + 1:=by unfold dn;split <;> split <;> omega
    omega
   rw [twin n (k:=dn i k) _ d3 (fun q hq=>by rw [d1,d2];exact e (q + 1) (by omega)),Int.mul_zero]
  have m:(dC n fun p q=>A (up (k + 1) p) (q + 1))=dC n fun p q=>A (up k p) (q + 1):=qP n fun p q hp hq=>by
   by_cases x:p=k
   ·subst x
    have a:up (p + 1) p=p:=by unfold up;rw [if_pos (by omega)]
    have b:up p p=p + 1:=by unfold up;rw [if_neg (by omega)]
    rw [a,b]
    exact e (q + 1) (by omega)
   ·have:up (k + 1) p=up k p:=by unfold up;split <;> split <;> omega
    rw [this]
  have n1:n=(n - 1) + 1:=by omega
  have hk:up (k + 1) k=k:=by unfold up;rw [if_pos (by omega)]
  rw [zfS (m:=k + 1) (by omega)]
  have r:∀ f:Nat→Int,(∀ i,i < n→i ≠ k→f i=0)→sm n f=f k:=fun f hf=>by
   rw [n1,zfS (m:=k) (by omega),zP (g:=fun i=>0 * f i) fun i hi=>by rw [hf _ (by have:=zcl (n:=n - 1) (i:=k) (by omega) hi;omega) (zhZ k i),Int.zero_mul],qw,Int.zero_mul,Int.add_zero]
  rw [r (fun i=>(if up (k + 1) i % 2=0 then (1:Int) else -1) * A (up (k + 1) i) 0 * (dC n fun p q=>A (up (up (k + 1) i) p) (q + 1))) fun i hi hik=>z _ (zcl (by omega) hi) (fun x=>hik ((zgb (by omega) i).mp x ▸ (by unfold dn;rw [if_pos (by omega)]))) (zhZ _ _)]
  show (if (k + 1) % 2=0 then (1:Int) else -1) * A (k + 1) 0 * (dC n fun p q=>A (up (k + 1) p) (q + 1)) + (if up (k + 1) k % 2=0 then (1:Int) else -1) * A (up (k + 1) k) 0 * (dC n fun p q=>A (up (up (k + 1) k) p) (q + 1))=0
  rw [hk,zjI,m,← e 0 (by omega),Int.neg_mul,Int.neg_mul]
  omega
theorem swp (n:Nat) {k:Nat} (A:Nat→Nat→Int) (h:k + 1 < n):dC n (rowAt (rowAt A k (A (k + 1))) (k + 1) (A k))=-dC n A:=by
 let f:(Nat→Int)→(Nat→Int)→Int:=fun x y=>dC n (rowAt (rowAt A k x) (k + 1) y)
 have ff:∀ x,f x x=0:=fun x=>twin n (k:=k) _ h fun q _=>by
  unfold rowAt
  rw [if_neg (by omega),if_pos rfl,if_pos rfl]
 have ex:∀ x y,rowAt (rowAt A k x) (k + 1) y=rowAt (rowAt A (k + 1) y) k x:=fun x y=>by
  funext p q
  unfold rowAt
  by_cases a:p=k <;> by_cases b:p=k + 1 <;> simp [a,b] <;> omega
 have l2:∀ x y z,f x (fun q=>1 * y q + 1 * z q)=f x y + f x z:=fun x y z=>by
  show dC n (rowAt (rowAt A k x) (k + 1) fun q=>1 * y q + 1 * z q)=_
  rw [lin n _ 1 1 y z h,Int.one_mul,Int.one_mul]
 have l1:∀ x y z,f (fun q=>1 * y q + 1 * z q) x=f y x + f z x:=fun x y z=>by
  show dC n (rowAt (rowAt A k fun q=>1 * y q + 1 * z q) (k + 1) x)=_
  rw [ex,lin n _ 1 1 y z (by omega),Int.one_mul,Int.one_mul,← ex,← ex]
 have a:=ff fun q=>1 * A k q + 1 * A (k + 1) q
 rw [l2,l1,l1,ff,ff] at a
 have b:f (A k) (A (k + 1))=dC n A:=by
  show dC n (rowAt (rowAt A k (A k)) (k + 1) (A (k + 1)))=_
  refine qP n fun p q _ _ => ?_
  unfold rowAt
  by_cases x:p=k + 1
  ·rw [if_pos x,x]
  ·rw [if_neg x]
   split
   ·rename_i y;rw [y]
   ·rfl
 show f (A (k + 1)) (A k)=_
 omega
theorem zjV (n:Nat):∀ (m:Nat) {i:Nat} (A:Nat→Nat→Int),i + m + 1 < n→(∀ q,q < n→A i q=A (i + m + 1) q)→dC n A=0
 | 0,i,A,h,e=>twin n A h e
 | m + 1,i,A,h,e=>by
  have s:=swp n (k:=i + m + 1) A h
  have z:=zjV n m (i:=i) (rowAt (rowAt A (i + m + 1) (A (i + m + 1 + 1))) (i + m + 1 + 1) (A (i + m + 1))) (by omega) fun q hq=>by
   unfold rowAt
   rw [if_neg (by omega),if_neg (by omega),if_neg (by omega),if_pos rfl]
   exact e q hq
  omega
theorem zld (n:Nat) {i k:Nat} (hi:i < n) (hk:k < n) (h:i ≠ k) (A:Nat→Nat→Int):dC n (rowAt A k (A i))=0:=by
 have ri:∀ q,rowAt A k (A i) i q=A i q:=fun q=>if_neg h
 have rk:∀ q,rowAt A k (A i) k q=A i q:=fun q=>if_pos rfl
 by_cases q:i < k
 ·refine zjV n (k - i - 1) (i:=i) _ (by omega) fun q _ => ?_
  rw [show i + (k - i - 1) + 1=k by omega,ri,rk]
 ·refine zjV n (i - k - 1) (i:=k) _ (by omega) fun q _ => ?_
  rw [show k + (i - k - 1) + 1=i by omega,ri,rk]
theorem zeo {n k:Nat} (h1:1 ≤ n) (hk:k < n) (A:Nat→Nat→Int) (z:Nat→Int):dC n (rowAt A k (fire n A z))=z k * dC n A:=by
 have:=zig n hk A A z n
 show dC n (rowAt A k fun q=>sm n fun i=>z i * A i q)=_
 rw [this,show n=(n - 1) + 1 by omega,zfS (m:=k) (by omega),← show n=(n - 1) + 1 by omega,zhB,zP (g:=fun i=>0 * z (up k i)) fun i hi=>by
  rw [zld n (by have:=zcl (n:=n - 1) (i:=k) (by omega) hi;omega) hk (zhZ k i),Int.mul_zero,Int.zero_mul],qw,Int.zero_mul,Int.add_zero]
theorem sclC {n k:Nat} (hk:k < n) (A:Nat→Nat→Int) (c:Int) (z:Nat→Int):dC n (rowAt A k fun q=>c * z q)=c * dC n (rowAt A k z):=by
 have:=lin n A c 0 z (fun _=>0) hk
 rw [Int.zero_mul (dC n _),Int.add_zero (c * _)] at this
 rw [← this]
 congr 2
 funext q
 rw [Int.zero_mul,Int.add_zero]
end L2.Sd
set_option maxHeartbeats 4000000
namespace L2.Sd
noncomputable def mrg (B:Nat→Nat→Int) (p q:Nat):Int:=match p,q with
 | 0,0=>0
 | 0,q + 1=>B 0 (q + 2) + B 1 (q + 2)
 | p + 1,0=>B (p + 2) 0 + B (p + 2) 1
 | p + 1,q + 1=>B (p + 2) (q + 2)
theorem Net.mrg {n:Nat} {B:Nat→Nat→Int} (N:Net (n + 1) B):Net n (mrg B) where
 sym:=fun p q=>by
  match p,q with
  | 0,0=>rfl
  | 0,q + 1=>show B 0 (q + 2) + B 1 (q + 2)=B (q + 2) 0 + B (q + 2) 1;rw [N.sym 0,N.sym 1]
  | p + 1,0=>show B (p + 2) 0 + B (p + 2) 1=B 0 (p + 2) + B 1 (p + 2);rw [N.sym 0,N.sym 1]
  | p + 1,q + 1=>exact N.sym _ _
 nn:=fun p q=>by
  match p,q with
  | 0,0=>exact Int.le_refl _
  | 0,q + 1=>have:=N.nn 0 (q + 2);have:=N.nn 1 (q + 2);show 0 ≤ B 0 (q + 2) + B 1 (q + 2);omega
  | p + 1,0=>have:=N.nn (p + 2) 0;have:=N.nn (p + 2) 1;show 0 ≤ B (p + 2) 0 + B (p + 2) 1;omega
  | p + 1,q + 1=>exact N.nn _ _
 no:=fun p=>by
  match p with
  | 0=>rfl
  | p + 1=>exact N.no _
 conn:=fun S h0 hS p hp=>by
  have all:=N.conn (fun p=>p ≤ 1 ∨ S (p - 1)) (.inl (by omega)) (fun p q hp hq hb hs=>by
   match q with
   | 0=>exact .inl (by omega)
   | 1=>exact .inl (by omega)
   | q + 2 =>
    right
    show S (q + 1)
    match p with
    | 0=>exact hS 0 (q + 1) (by omega) (by omega) (by show 1 ≤ B 0 (q + 2) + B 1 (q + 2);have:=N.nn 1 (q + 2);omega) h0
    | 1=>exact hS 0 (q + 1) (by omega) (by omega) (by show 1 ≤ B 0 (q + 2) + B 1 (q + 2);have:=N.nn 0 (q + 2);omega) h0
    | p + 2 =>
     rcases hs with hs | hs
     ·omega
     ·exact hS (p + 1) (q + 1) (by omega) (by omega) hb hs)
  cases p with
  | zero=>exact h0
  | succ p =>
   rcases all (p + 2) (by omega) with q | q
   ·omega
   ·exact q
theorem zk3 (n:Nat) (B:Nat→Nat→Int) (i:Nat):szB n (mrg B) i=szB (n + 1) B (i + 1):=by
 unfold szB
 rw [xl,xl,xl]
 show B (i + 2) 0 + B (i + 2) 1 + sm n (fun k=>B (i + 2) (k + 2))=B (i + 2) 0 + (B (i + 2) 1 + sm n fun k=>B (i + 2) (k + 2))
 omega
theorem zj2 (n:Nat) (B:Nat→Nat→Int) (i j:Nat):chB (n + 1) B (i + 1) (j + 1)=chB n (mrg B) i j:=by
 unfold chB
 rw [zk3]
 by_cases e:i=j
 ·rw [if_pos (by omega),if_pos e]
 ·rw [if_neg (by omega),if_neg e]
  rfl
theorem dep:∀ (n:Nat) (v:Nat→Nat→Int),∃ c:Nat→Int,(∃ k,k < n + 1∧c k ≠ 0)∧∀ j,j < n→sm (n + 1) (fun k=>c k * v k j)=0
 | 0,_=>⟨fun _=>1,⟨0,by omega,by decide⟩,fun j hj=>absurd hj (by omega)⟩
 | n + 1,v=>by
  by_cases h:∃ m,m < n + 2∧v m n ≠ 0
  ·obtain ⟨m,hm,hv⟩:=h
   obtain ⟨c,⟨k,hk,hck⟩,hc⟩:=dep n fun k j=>v m n * v (up m k) j - v (up m k) n * v m j
   -- which one k is behind m
   let dn:Nat→Nat:=fun p=>if p < m then p else p - 1
   have du:∀ k,dn (up m k)=k:=fun k=>by
    show (if up m k < m then up m k else up m k - 1)=k
    unfold up
    by_cases q:k < m
    ·rw [if_pos q,if_pos q]
    ·rw [if_neg q,if_neg (by omega)]
     omega
   have um:∀ k,up m k ≠ m:=fun k=>by unfold up;split <;> omega
   let a:Nat→Int:=fun p=>if p=m then -(sm (n + 1) fun k=>c k * v (up m k) n) else c (dn p) * v m n
   have am:a m=-(sm (n + 1) fun k=>c k * v (up m k) n):=if_pos rfl
   have au:∀ k,a (up m k)=c k * v m n:=fun k=>by
    show (if up m k=m then _ else c (dn (up m k)) * v m n)=_
    rw [if_neg (um k),du]
   refine ⟨a,⟨up m k,zcl hm hk,?_⟩,fun j hj => ?_⟩
   ·rw [au]
    exact Int.mul_ne_zero hck hv
   ·have e1:(sm (n + 1) fun k=>a (up m k) * v (up m k) j)=(sm (n + 1) fun k=>c k * (v m n * v (up m k) j - v (up m k) n * v m j)) + v m j * sm (n + 1) fun k=>c k * v (up m k) n:=by
     rw [← qw,← km]
     refine zP fun k _ => ?_
     rw [au]
     generalize c k=C
     generalize v m n=V
     generalize v (up m k) j=W
     generalize v (up m k) n=Z
     generalize v m j=U
     grind
    have e0:(sm (n + 1) fun k=>c k * (v m n * v (up m k) j - v (up m k) n * v m j))=0:=by
     by_cases e:j=n
     ·subst e
      rw [zP (g:=fun k=>0 * c k) fun k _=>by
       rw [Int.mul_comm (v m j),Int.sub_self,Int.mul_zero,Int.zero_mul],qw,Int.zero_mul]
     ·exact hc j (by omega)
    rw [zfS hm,e1,e0,am]
    generalize sm (n + 1) (fun k=>c k * v (up m k) n)=S
    generalize v m j=V
    rw [Int.neg_mul,Int.mul_comm V]
    omega
  ·obtain ⟨c,⟨k,hk,hck⟩,hc⟩:=dep n v
   refine ⟨fun p=>if p < n + 1 then c p else 0,⟨k,by omega,by show (if k < n + 1 then c k else 0) ≠ 0;rw [if_pos hk];exact hck⟩,fun j hj => ?_⟩
   rw [zY]
   show sm (n + 1) (fun k=>(if k < n + 1 then c k else 0) * v k j) + (if n + 1 < n + 1 then c (n + 1) else 0) * v (n + 1) j=0
   rw [if_neg (by omega),Int.zero_mul,Int.add_zero]
   by_cases e:j=n
   ·subst e
    rw [zP (g:=fun k=>0 * c k) fun k hk=>by
     have:v k j=0:=Classical.byContradiction fun z=>h ⟨k,by omega,z⟩
     rw [this,Int.mul_zero,Int.zero_mul],qw,Int.zero_mul]
   ·rw [zP (g:=fun k=>c k * v k j) fun k hk=>by rw [if_pos hk]]
    exact hc j (by omega)
theorem zba:∀ {n:Nat} {B:Nat→Nat→Int},Net n B→dC n (chB n B) ≠ 0
 | 0,_,_=>by
  show (1:Int) ≠ 0
  decide
 | n + 1,B,N=>fun h=>by
  let R:=chB (n + 1) B
  let d:Nat→Int:=fun q=>if q=0 then 1 else 0
  obtain ⟨c,⟨k0,hk0,hc0⟩,hc⟩:=dep (n + 1) fun k j=>if k < n + 1 then R k j else d j
  have hb:∀ j,j < n + 1→fire (n + 1) R c j + c (n + 1) * d j=0:=fun j hj=>by
   have:=hc j hj
   rw [zY] at this
   have e:sm (n + 1) (fun k=>c k * (if k < n + 1 then R k j else d j))=fire (n + 1) R c j:=zP fun k hk=>by rw [if_pos hk]
   rw [e,if_neg (by omega)] at this
   exact this
  have cn:c (n + 1) ≠ 0:=fun z=>by
   have:=N.ker (x:=c) (fun j hj=>by have:=hb j hj;rw [z,Int.zero_mul] at this;show fire (n + 1) R c j=0;omega)
   by_cases e:k0=n + 1
   ·exact hc0 (e ▸ z)
   ·exact hc0 (this k0 (by omega))
  have a:=zeo (n:=n + 1) (k:=0) (by omega) (by omega) R c
  rw [h,Int.mul_zero,qP (n + 1) (A':=rowAt R 0 fun q=>-c (n + 1) * d q) fun p q _ hq=>by
   unfold rowAt
   split
   ·have:=hb q hq;show fire (n + 1) R c q=-c (n + 1) * d q;rw [Int.neg_mul];omega
   ·rfl,sclC (by omega)] at a
  have z:dC (n + 1) (rowAt R 0 d)=0:=by
   rcases Int.mul_eq_zero.mp a with q | q
   ·exact absurd (by omega:c (n + 1)=0) cn
   ·exact q
  have e:dC (n + 1) (rowAt R 0 d)=dC n (chB n (mrg B)):=by
   show sm (n + 1) _=_
   rw [zfS (m:=0) (by omega),zP (n:=n) (g:=fun i=>0 * c i) fun i hi=>by
    have u:up 0 i=i + 1:=by unfold up;rw [if_neg (by omega)]
    rw [u,zc2 (by omega)]
    have:dC n (rowAt (fun p q=>R (up (i + 1) p) (q + 1)) (dn (i + 1) 0) fun q=>d (q + 1))=0:=lin0 n (by unfold dn;rw [if_pos (by omega)];omega) _
    rw [this,Int.mul_zero,Int.zero_mul],qw,Int.zero_mul,Int.add_zero,zaM]
   show 1 * 1 * _=_
   rw [Int.one_mul,Int.one_mul]
   exact qP n fun p q _ _=>zj2 n B p q
  exact zba N.mrg (e ▸ z)
theorem ziX {n:Nat} {B:Nat→Nat→Int} (h1:1 ≤ n) (N:Net n B) (d:Nat→Int):(∃ z,∀ j,j < n→d j=fire n (chB n B) z j) ↔ ∀ k,k < n→dC n (chB n B) ∣ dC n (rowAt (chB n B) k d):=by
 have ne:=zba N
 constructor
 ·rintro ⟨z,hz⟩ k hk
  refine ⟨z k,?_⟩
  rw [qP n (A':=rowAt (chB n B) k (fire n (chB n B) z)) fun p q _ hq=>by
   unfold rowAt
   split
   ·exact hz q hq
   ·rfl,zeo h1 hk,Int.mul_comm]
 ·intro h
  obtain ⟨c,⟨k0,hk0,hc0⟩,hc⟩:=dep n fun k j=>if k < n then chB n B k j else d j
  have hb:∀ j,j < n→fire n (chB n B) c j + c n * d j=0:=fun j hj=>by
   have:=hc j hj
   rw [zY] at this
   have e:sm n (fun k=>c k * (if k < n then chB n B k j else d j))=fire n (chB n B) c j:=zP fun k hk=>by rw [if_pos hk]
   rw [e,if_neg (by omega)] at this
   exact this
  have cn:c n ≠ 0:=fun z=>by
   have:=N.ker (x:=c) (fun j hj=>by have:=hb j hj;rw [z,Int.zero_mul] at this;omega)
   by_cases e:k0=n
   ·exact hc0 (e ▸ z)
   ·exact hc0 (this k0 (by omega))
  have key:∀ k,k < n→∃ q,dC n (rowAt (chB n B) k d)=dC n (chB n B) * q∧-c n * q=c k:=fun k hk=>by
   obtain ⟨q,hq⟩:=h k hk
   refine ⟨q,hq,?_⟩
   have a:=zeo h1 hk (chB n B) c
   have b:=sclC hk (chB n B) (-c n) d
   rw [qP n (A':=rowAt (chB n B) k (fire n (chB n B) c)) fun p q _ hq=>by
    unfold rowAt
    split
    ·have:=hb q hq;show -c n * d q=_;rw [Int.neg_mul];omega
    ·rfl,a,hq] at b
   have:dC n (chB n B) * (c k - -c n * q)=0:=by
    rw [Int.mul_sub]
    generalize dC n (chB n B)=W at b
    grind
   rcases Int.mul_eq_zero.mp this with z | z
   ·exact absurd z ne
   ·omega
  have kq:∀ k,∃ q,k < n→-c n * q=c k:=fun k=>by
   by_cases hk:k < n
   ·obtain ⟨q,_,e⟩:=key k hk
    exact ⟨q,fun _=>e⟩
   ·exact ⟨0,fun z=>absurd z hk⟩
  refine ⟨fun k=>Classical.choose (kq k),fun j hj => ?_⟩
  have e1:fire n (chB n B) c j=-c n * fire n (chB n B) (fun k=>Classical.choose (kq k)) j:=by
   rw [← qz]
   exact kN (fun k hk=>(Classical.choose_spec (kq k) hk).symm) j
  have e2:=hb j hj
  rw [e1] at e2
  have:c n * (d j - fire n (chB n B) (fun k=>Classical.choose (kq k)) j)=0:=by
   generalize fire n (chB n B) (fun k=>Classical.choose (kq k)) j=F at e2 ⊢
   grind
  rcases Int.mul_eq_zero.mp this with z | z
  ·exact absurd z cn
  ·omega
end L2.Sd
namespace L2.Y
open PySem L2.Sd
variable {c:Int} {n:Nat} {ls:List (Int × Int × Int)}
noncomputable def matF (n m:Nat) (A:Nat→Nat→Int):List D:=(List.range n).map fun i=>.tuple (vD m (A i))
theorem jB (n m:Nat) (A:Nat→Nat→Int):(matF n m A).length=n:=by simp [matF]
theorem zhy {n i:Nat} (hi:i < n + 1):(List.range (n + 1)).take i ++ (List.range (n + 1)).drop (i + 1)=(List.range n).map (up i):=by
 apply List.ext_getElem
 ·rw [List.length_append,List.length_take,List.length_drop,List.length_map,List.length_range,List.length_range]
  omega
 ·intro k h1 h2
  rw [List.length_map,List.length_range] at h2
  rw [List.getElem_append]
  simp only [List.getElem_take,List.getElem_drop,List.getElem_range,List.getElem_map,List.length_take,List.length_range]
  unfold up
  rw [Nat.min_eq_left (by omega)]
  split <;> omega
theorem zi2 {n m i:Nat} (hi:i < n + 1) (A:Nat→Nat→Int):(matF (n + 1) m A).take i ++ (matF (n + 1) m A).drop (i + 1)=matF n m fun p=>A (up i p):=by
 unfold matF
 rw [← List.map_take,← List.map_drop,← List.map_append,zhy hi,List.map_map]
 rfl
theorem zi3 {n m k:Nat} (hk:k < n) (A:Nat→Nat→Int) (d:Nat→Int):(matF n m A).take k ++ [.tuple (vD m d)] ++ (matF n m A).drop (k + 1)=matF n m (rowAt A k d):=by
 have e:(matF n m A).take k ++ [.tuple (vD m d)] ++ (matF n m A).drop (k + 1)=(matF n m A).set k (.tuple (vD m d)):=by
  rw [List.set_eq_take_append_cons_drop,if_pos (by rw [jB];exact hk),List.append_assoc]
  rfl
 rw [e]
 apply List.ext_getElem
 ·rw [List.length_set,jB,jB]
 ·intro i h1 h2
  rw [List.getElem_set]
  simp only [matF,List.getElem_map,List.getElem_range]
  by_cases q:k=i
  ·rw [if_pos q]
   congr 1
   exact wd fun j _=>by unfold rowAt;rw [if_pos q.symm]
  ·rw [if_neg q]
   congr 1
   exact wd fun j _=>by unfold rowAt;rw [if_neg fun z=>q z.symm]
theorem zhA (m:Nat) (f:Nat→Int):(vD (m + 1) f).drop 1=vD m fun q=>f (q + 1):=by rw [ku];rfl
theorem zcw:∀ (ds:List D) (i k:Nat),(qM i ds)[k]?=(ds[k]?).map fun d=>(.tuple [.int ((i + k:Nat):Int),d]:D)
 | [],_,_=>by simp [qM]
 | d :: ds,i,0=>by simp [qM]
 | d :: ds,i,k + 1=>by
  show (qM (i + 1) ds)[k]?=_
  rw [zcw ds (i + 1) k,List.getElem?_cons_succ,show i + 1 + k=i + (k + 1) by omega]
theorem zcx:∀ (ds:List D) (i:Nat),(qM i ds).length=ds.length
 | [],_=>rfl
 | d :: ds,i=>by rw [qM,List.length_cons,List.length_cons,zcx]
theorem zhF {i:Nat} {g:Env'→Option D} {ρ:Env'} {a b:Int} (h1:gVar i ρ=some (.int a)) (h2:g ρ=some (.int b)):zfH i g ρ=some (.nxt (ρ.set i (some (.val (.int (a + b)))))):=by
 unfold zfH
 rw [h1,Option.bind_some,h2,Option.bind_some]
 rfl
theorem zam {α:Type} {h:GT} {ge:Env'→Option D} {ρ:Env'} (p:α→D) (f:α→D):∀ l:List α,(∀ x ∈ l,∃ ρ1,h (p x) ρ=some ρ1∧ge ρ1=some (f x))→xF h qd ge ρ (l.map p)=some (l.map f)
 | [],_=>rfl
 | x :: l,hh=>by
  obtain ⟨ρ1,e1,e2⟩:=hh x List.mem_cons_self
  have ih:=zam p f l fun y hy=>hh y (List.mem_cons_of_mem _ hy)
  rw [List.map_cons,xF,e1,Option.bind_some]
  show (some true).bind _=_
  rw [Option.bind_some,if_pos rfl,e2,Option.bind_some,ih]
  rfl
noncomputable def sg (i:Nat):Int:=if i % 2=0 then 1 else -1
theorem zjJ (i:Nat):sg (i + 1)=-sg i:=by
 unfold sg
 by_cases h:i % 2=0
 ·rw [if_pos h,if_neg (by omega)]
 ·rw [if_neg h,if_pos (by omega)];rfl
theorem zlA (i:Nat):sg i=1 ∨ sg i=-1:=by unfold sg;split <;> simp
theorem zbU {a b:List D} (h:a.length + b.length ≤ 16777216):addD (.list a) (.list b)=some (.list (a ++ b)):=if_pos h
noncomputable def dtT (n:Nat) (A:Nat→Nat→Int) (i:Nat):Int:=sg i * A i 0 * dC n fun p q=>A (up i p) (q + 1)
theorem dC_s (n:Nat) (A:Nat→Nat→Int):dC (n + 1) A=sm (n + 1) (dtT n A):=rfl
noncomputable def dtB (k:Nat):GS:=(sSeq (kf 5 (jx 1 [] (gIt seqD (g2 addD (gSl (gVar 0) qq (jU (gVar 3))) (gSl (gVar 0) (jU (g2 addD (gVar 3) (gK (.int 1)))) qq))) (hName 0) qd (gSl (gVar 0) (jU (gK (.int 1))) qq)))
  (sSeq (zfH 1 (g2 qW (g2 qW (gVar 2) (g2 ixD (gVar 4) (gK (.int 0)))) (gA (zt 1 (F_determinant k)) (zc (gVar 5) gNil))))
  (sAsg (hName 2) (g1 negD (gVar 2)))))
theorem zes:∀ (k n:Nat) (A:Nat→Nat→Int),n < k→n ≤ 100→(∀ p q,p < n→q < n→-(2 ^ 60) < A p q∧A p q < 2 ^ 60)→F_determinant k [.list (matF n n A)]=some (.int (dC n A))
 | 0,_,_,h,_,_=>absurd h (by omega)
 | k + 1,0,A,_,_,_=>by
  show jn 6 (jq (F_determinant k)) [.list []]=_
  refine zB ?_
  show jq (F_determinant k) [some (.val (.list [])),none,none,none,none,none]=_
  unfold jq
  exact zhG (by rw [zk0 rfl];rfl)
 | k + 1,n + 1,A,hk,hn,hb=>by
  have bd:∀ p q,p < n + 1→q < n + 1→-(2 ^ 64) < A p q∧A p q < 2 ^ 64:=fun p q hp hq=>by have:=hb p q hp hq;omega
  let R:Option En:=some (.val (.list (matF (n + 1) (n + 1) A)))
  show jn 6 (jq (F_determinant k)) [.list (matF (n + 1) (n + 1) A)]=_
  refine zB ?_
  show jq (F_determinant k) [R,none,none,none,none,none]=_
  unfold jq
  have ec:wz (gTr (gVar 0)) [R,none,none,none,none,none]=some false:=by
   refine wA (b:=true) ?_
   show some (!(matF (n + 1) (n + 1) A).isEmpty)=_
   have:(matF (n + 1) (n + 1) A).isEmpty=false:=by
    cases h:matF (n + 1) (n + 1) A with
    | nil=>have:=jB (n + 1) (n + 1) A;rw [h] at this;cases this
    | cons _ _=>rfl
   rw [this]
   rfl
  rw [zm (ρ':=[R,none,none,none,none,none]) (by rw [kB ec];rfl),zm (ρ':=[R,vI 0,none,none,none,none]) (zG zI rfl),zm (ρ':=[R,vI 0,vI 1,none,none,none]) (zG zI rfl)]
  obtain ⟨ρ',e,x3,x4,x5,hr⟩:=jI (h:=hTup 2 (jD (hName 3) (jD (hName 4) hNil))) (gb:=dtB k)
   (fun i ρ=>∃ x3 x4 x5,ρ=[R,vI (sm i (dtT n A)),vI (sg i),x3,x4,x5]) (qM 0 (matF (n + 1) (n + 1) A)) 0 [R,vI 0,vI 1,none,none,none] ⟨none,none,none,rfl⟩ (fun i d ρ hi hZq=>by
    obtain ⟨x3,x4,x5,hr⟩:=hZq
    subst hr
    rw [zcw] at hi
    obtain ⟨d0,hd0,rfl⟩:=Option.map_eq_some_iff.mp hi
    have hin:i < n + 1:=by have:=(List.getElem?_eq_some_iff.mp hd0).1;rw [jB] at this;exact this
    have ed:d0=.tuple (vD (n + 1) (A i)):=by
     unfold matF at hd0
     rw [List.getElem?_map,List.getElem?_range hin] at hd0
     exact (Option.some.inj hd0).symm
    subst ed
    rw [Nat.zero_add] at *
    have ih:=zes k n (fun p q=>A (up i p) (q + 1)) (by omega) (by omega) fun p q hp hq=>hb _ _ (zcl hin hp) (by omega)
    have t1:slD (.list (matF (n + 1) (n + 1) A)) none (some (i:Int))=some (.list ((matF (n + 1) (n + 1) A).take i)):=by
     show some (PyData.list _)=_
     rw [vA _ _ (by rw [jB];omega)]
    have t2:slD (.list (matF (n + 1) (n + 1) A)) (some ((i:Int) + 1)) none=some (.list ((matF (n + 1) (n + 1) A).drop (i + 1))):=by
     show some (PyData.list (cutD _ (some ((i + 1:Nat):Int)) none))=_
     rw [xG _ _ (by rw [jB];omega)]
    let ρ1:Env':=[R,vI (sm i (dtT n A)),vI (sg i),vI i,some (.val (.tuple (vD (n + 1) (A i)))),x5]
    let ρ2:Env':=[R,vI (sm i (dtT n A)),vI (sg i),vI i,some (.val (.tuple (vD (n + 1) (A i)))),some (.val (.list (matF n n fun p q=>A (up i p) (q + 1))))]
    refine ⟨ρ1,[R,vI (sm (i + 1) (dtT n A)),vI (sg (i + 1)),vI i,some (.val (.tuple (vD (n + 1) (A i)))),some (.val (.list (matF n n fun p q=>A (up i p) (q + 1))))],rfl,?_,_,_,_,rfl⟩
    unfold dtB
    rw [zm (ρ':=ρ2) (by
     refine wa (zL (ds:=matF n (n + 1) fun p=>A (up i p)) (qJ (zy (yz (d:=.list (matF (n + 1) (n + 1) A)) rfl rfl (qr (i:=i) rfl) t1) (yz (d:=.list (matF (n + 1) (n + 1) A)) rfl (qr (zy (x:=.int i) rfl zI (zH _ _))) rfl t2) (by
      rw [zbU (by rw [List.length_take,List.length_drop,jB];omega),zi2 hin])) rfl) (by rw [jB];omega) ?_)
     refine zam _ _ _ fun p _=>⟨[some (.val (.tuple (vD (n + 1) (A (up i p)))))],rfl,yz (d:=.tuple (vD (n + 1) (A (up i p)))) rfl (qr zI) rfl ?_⟩
     show some (PyData.tuple (cutD _ (some ((1:Nat):Int)) none))=_
     rw [xG _ _ (by rw [jH];omega),zhA])]
    have b0:=bd i 0 hin (by omega)
    have hsg:=zlA i
    have b1:=hb i 0 hin (by omega)
    have bs:-(2 ^ 64) < sg i * A i 0∧sg i * A i 0 < 2 ^ 64:=by rcases hsg with q | q <;> rw [q] <;> omega
    rw [zm (ρ':=[R,vI (sm i (dtT n A) + dtT n A i),vI (sg i),vI i,some (.val (.tuple (vD (n + 1) (A i)))),some (.val (.list (matF n n fun p q=>A (up i p) (q + 1))))]) (by
     refine (zhF (a:=sm i (dtT n A)) (b:=dtT n A i) rfl ?_).trans rfl
     exact zy (zy (x:=.int (sg i)) rfl (zy (x:=.tuple (vD (n + 1) (A i))) rfl zI (zh0 (by omega) (by omega))) (qv (by rcases hsg with q | q <;> omega) (by rcases hsg with q | q <;> omega))) (zu (za (x:=.list (matF n n fun p q=>A (up i p) (q + 1))) rfl zg) (by rw [xn];exact ih)) (qv bs.1 bs.2)),zjJ,zY]
    exact zG (zeG (x:=.int (sg i)) rfl (yS _)) rfl)
  subst hr
  rw [zcx,jB,Nat.zero_add] at e
  refine (zm (qL (ds:=qM 0 (matF (n + 1) (n + 1) A)) (jt (za (x:=.list (matF (n + 1) (n + 1) A)) rfl zg) rfl) e)).trans ?_
  rw [dC_s]
  exact zX rfl
end L2.Y
namespace L2.Y
open PySem L2.Sd
variable {c:Int} {n:Nat} {ls:List (Int × Int × Int)}
noncomputable abbrev RR (n:Nat) (ls:List (Int × Int × Int)):=chB n (tieB ls)
noncomputable abbrev SZ (n:Nat) (ls:List (Int × Int × Int)):=szB n (tieB ls)
theorem zdH (n:Nat) (hn:n ≤ 1000) (f g:Nat→Int):F_without [.tuple (vD n f),.tuple (vD n g)]=some (.tuple (vD n fun k=>f k - g k)):=by
 unfold F_without
 refine zB ?_
 show vm [some (.val (.tuple (vD n f))),some (.val (.tuple (vD n g)))]=_
 unfold vm
 exact zX (zu (za (jz (zL (jt (za (x:=.tuple (vD n f)) rfl (za (x:=.tuple (vD n g)) rfl zg)) (kx n f g)) (by rw [List.length_map,List.length_range];omega) (jm _ _ fun k hk=>⟨[vI (f k),vI (g k)],rfl,zy (x:=.int (f k)) rfl (y:=.int (g k)) rfl (wU _ _)⟩))) zg) (zN _))
theorem zhQ (O:YOk c n ls) (h1:1 ≤ n) (h5:n ≤ 5) (d:Nat→Int) (hd:∀ k,k < n→-(2 ^ 60) < d k∧d k < 2 ^ 60) (hm:∀ i j,i < n→j < n→-(2 ^ 60) < RR n ls i j∧RR n ls i j < 2 ^ 60) :
  F_times_for [zp c ls,.tuple (vD n d)]=some (.tuple [.int (dC n (RR n ls)),.tuple (vD n fun k=>dC n (rowAt (RR n ls) k d))]):=by
 have hc:=O.ec
 have hn:=O.en
 let Y:Option En:=some (.val (zp c ls))
 let Dd:Option En:=some (.val (.tuple (vD n d)))
 let M:Option En:=some (.val (.list (matF n n (RR n ls))))
 have er:qE [.int 1,.int (c + 1)]=some ((List.range n).map fun (k:Nat)=>(.int (1 + (k:Int)):D)):=by
  rw [qU (by decide) (by decide) (by omega) (by omega),show (c + 1 - 1).toNat=n by omega]
  rfl
 have e1:wK [.int c]=some ((List.range n).map fun (k:Nat)=>(.int (0 + (k:Int)):D)):=by
  rw [ke (by omega) (by omega),show c.toNat=n by omega]
  rfl
 unfold F_times_for
 refine zB ?_
 show wl [Y,Dd,none,none]=_
 unfold wl
 rw [zm (ρ':=[Y,Dd,M,none]) (zG (jz (zL (jt (za zI (za (zy (zy (x:=zp c ls) rfl zI (jA _ _)) zI (zH _ _)) zg)) er) (by rw [List.length_map,List.length_range];omega) (jm _ (fun i=>.tuple (vD n (RR n ls i))) fun k hk=>⟨[vI (1 + k),Y],rfl,zu (za (x:=zp c ls) rfl (za (x:=.int (1 + k)) rfl zg)) (by rw [zQ];exact yy O.ec O.en O.lk O.len hk)⟩))) rfl)]
 rw [zm (ρ':=[Y,Dd,M,some (.val (.list (vD n fun k=>dC n (rowAt (RR n ls) k d))))]) (by
  refine wa (zL (jt (za (zy (x:=zp c ls) rfl zI (jA _ _)) zg) e1) (by rw [List.length_map,List.length_range];omega) (jm _ _ fun k hk=>⟨[vI (0 + k),M,Dd],rfl,?_⟩))
  have t1:slD (.list (matF n n (RR n ls))) none (some (0 + (k:Int)))=some (.list ((matF n n (RR n ls)).take k)):=by
   show some (PyData.list _)=_
   rw [Int.zero_add,vA _ _ (by rw [jB];omega)]
  have t2:slD (.list (matF n n (RR n ls))) (some (0 + (k:Int) + 1)) none=some (.list ((matF n n (RR n ls)).drop (k + 1))):=by
   rw [Int.zero_add]
   show some (PyData.list (cutD _ (some ((k + 1:Nat):Int)) none))=_
   rw [xG _ _ (by rw [jB];omega)]
  refine zu (za (zy (zy (yz (d:=.list (matF n n (RR n ls))) rfl rfl (qr (i:=0 + k) rfl) t1) (jz (vG (za (x:=.tuple (vD n d)) rfl zg) (by simp))) (zbU (by rw [List.length_take,jB];simp;omega))) (yz (d:=.list (matF n n (RR n ls))) rfl (qr (zy (x:=.int (0 + k)) rfl zI (zH _ _))) rfl t2) (zbU (by rw [List.length_append,List.length_take,List.length_drop,jB];simp;omega))) zg) ?_
  rw [xn,zi3 hk]
  exact zes 8 n _ (by omega) (by omega) fun p q hp hq=>by
   unfold rowAt
   split
   ·exact hd q hq
   ·exact hm p q hp hq)]
 exact zX (zu (za (zu (za (x:=.list (matF n n (RR n ls))) rfl zg) (by rw [xn];exact zes 8 n _ (by omega) (by omega) hm)) (za (zu (za (x:=.list (vD n fun k=>dC n (rowAt (RR n ls) k d))) rfl zg) (zN _)) zg)) (zf4 _ _))
theorem zj9 (O:YOk c n ls) (g:Nat→Int) (hg:∀ j,j < n→0 ≤ g j):∃ r,Rst n (RR n ls) (SZ n ls) g r:=by
 obtain ⟨t,S⟩:=zaN O g hg
 exact ⟨_,t,S.odo,fun _ _=>rfl⟩
theorem ze7 (O:YOk c n ls):∃ e σ,F_lift_of [zp c ls]=some (.tuple (vD n e))∧Lift n (RR n ls) (SZ n ls) e σ:=by
 have hn:=O.en
 have sp:=O.net.size_pos
 obtain ⟨t,S⟩:=zaN O (fun k=>2 * SZ n ls k) fun j hj=>by show 0 ≤ 2 * SZ n ls j;have:(1:Int) ≤ SZ n ls j:=sp j hj;omega
 let σ:=fc n (RR n ls) (fun k=>2 * SZ n ls k) t
 refine ⟨fun k=>2 * SZ n ls k - σ k,σ,?_,⟨t,S.odo,fun _ _=>rfl⟩,fun _ _=>rfl,S.odo.br.2,S.nn⟩
 unfold F_lift_of
 refine zB ?_
 let Y:Option En:=some (.val (zp c ls))
 show vh [Y,none]=_
 unfold vh
 rw [zm (ρ':=[Y,some (.val (.tuple (vD n fun k=>2 * SZ n ls k)))]) (zG (zu (za (jz (zL (ds:=vD n (SZ n ls)) (qJ (zu (za (x:=zp c ls) rfl zg) (by rw [xn];exact O.sizes)) rfl) (by rw [jH];omega) (jm _ _ fun k hk=>⟨[vI (SZ n ls k)],rfl,zy zI (y:=.int (SZ n ls k)) rfl (qv (by omega) (by omega))⟩))) zg) (zN _)) rfl)]
 exact zX (zu (za (x:=.tuple (vD n fun k=>2 * SZ n ls k)) rfl (za (zy (zu (za (x:=zp c ls) rfl (za (x:=.tuple (vD n fun k=>2 * SZ n ls k)) rfl zg)) (by rw [zQ];exact S.ev)) zI rfl) zg)) (by rw [zQ];exact zdH n hn _ _))
theorem zgP (n:Nat) (f:Nat→Int):wB (vD n f)=some ((List.range n).map f):=by
 have:vD n f=((List.range n).map f).map PyData.int:=by unfold vD;rw [List.map_map];rfl
 rw [this,vM]
end L2.Y
namespace L2.Y
open PySem L2.Sd
noncomputable def plI (n:Nat) (U:Nat→Bool):List Int:=((List.range n).filter U).map fun (k:Nat)=>1 + (k:Int)
theorem zby {n:Nat} {U V:Nat→Bool} (h:∀ k,k < n→U k=V k):plI n U=plI n V:=by
 unfold plI
 rw [List.filter_congr fun k hk=>h k (List.mem_range.mp hk)]
theorem zaL {n:Nat} {U:Nat→Bool} (h:plI n U=[]):∀ k,k < n→U k=false:=fun k hk=>by
 unfold plI at h
 have:=List.filter_eq_nil_iff.mp (List.map_eq_nil_iff.mp h) k (List.mem_range.mpr hk)
 simpa using this
theorem zcd (n:Nat) (U:Nat→Bool):(plI n U).length ≤ n:=by
 unfold plI
 rw [List.length_map]
 exact Nat.le_trans (List.length_filter_le _ _) (by rw [List.length_range];exact Nat.le_refl _)
theorem zjm {n:Nat} {U:Nat→Bool} {p:Int}:p ∈ plI n U ↔ ∃ k,k < n∧U k=true∧p=1 + (k:Int):=by
 unfold plI
 rw [List.mem_map]
 constructor
 ·rintro ⟨k,hk,rfl⟩
  obtain ⟨h1,h2⟩:=List.mem_filter.mp hk
  exact ⟨k,List.mem_range.mp h1,h2,rfl⟩
 ·rintro ⟨k,h1,h2,rfl⟩
  exact ⟨k,List.mem_filter.mpr ⟨List.mem_range.mpr h1,h2⟩,rfl⟩
theorem zft {n:Nat} {U:Nat→Bool} {k:Nat} (hk:k < n):(plI n U).contains (1 + (k:Int))=U k:=by
 rw [Bool.eq_iff_iff,List.contains_iff_mem,zjm]
 constructor
 ·rintro ⟨j,_,h,e⟩
  obtain rfl:j=k:=by omega
  exact h
 ·intro h
  exact ⟨k,hk,h,rfl⟩
noncomputable def WI (ls:List (Int × Int × Int)) (n:Nat) (U:Nat→Bool) (k:Nat):Int:=((plI n U).map fun q=>twoI ls (1 + k) q).sum
noncomputable def CI (ls:List (Int × Int × Int)) (n:Nat) (g:Nat→Int) (U:Nat→Bool) (k:Nat):Bool:=U k && decide (WI ls n U k ≤ g k)
noncomputable def NI (ls:List (Int × Int × Int)) (n:Nat) (g:Nat→Int) (U:Nat→Bool) (k:Nat):Bool:=U k && !CI ls n g U k
noncomputable def UI (ls:List (Int × Int × Int)) (n:Nat) (g:Nat→Int):Nat→Nat→Bool
 | 0=>fun _=>true
 | t + 1=>NI ls n g (UI ls n g t)
noncomputable def TI (ls:List (Int × Int × Int)) (n:Nat) (g:Nat→Int) (t:Nat):List Int:=plI n (CI ls n g (UI ls n g t))
variable {ls:List (Int × Int × Int)} {n:Nat} {g:Nat→Int}
theorem zgm {U V:Nat→Bool} (h:∀ k,k < n→U k=V k) {k:Nat} (hk:k < n):CI ls n g U k=CI ls n g V k:=by
 unfold CI WI
 rw [h k hk,zby h]
theorem zgo {t:Nat} (h:TI ls n g t=[]):TI ls n g (t + 1)=[]:=by
 have h1:=zaL h
 rw [← h]
 unfold TI
 refine zby fun k hk=>zgm (fun j hj => ?_) hk
 show NI ls n g (UI ls n g t) j=_
 unfold NI
 rw [h1 j hj]
 simp
theorem zel (l:List Nat) (U C:Nat→Bool) (h:∀ k,C k=true→U k=true):(l.filter fun k=>U k && !C k).length + (l.filter C).length=(l.filter U).length:=by
 induction l with
 | nil=>rfl
 | cons k l ih =>
  cases hu:U k with
  | true =>
   cases hc:C k with
   | true=>simp [List.filter_cons,hu,hc];omega
   | false=>simp [List.filter_cons,hu,hc];omega
  | false =>
   have hc:C k=false:=by
    cases hc:C k with
    | true=>rw [h k hc] at hu;cases hu
    | false=>rfl
   simp [List.filter_cons,hu,hc];omega
theorem zcr (t:Nat):(plI n (UI ls n g (t + 1))).length + (TI ls n g t).length=(plI n (UI ls n g t)).length:=by
 unfold TI plI
 rw [List.length_map,List.length_map,List.length_map]
 exact zel _ _ _ fun k h=>by unfold CI at h;exact (Bool.and_eq_true _ _ ▸ h).1
theorem zcs:(plI n (UI ls n g 0)).length=n:=by
 unfold plI UI
 rw [List.length_map,List.filter_eq_self.mpr fun _ _=>rfl,List.length_range]
noncomputable def dueI (ls:List (Int × Int × Int)) (n:Nat) (g:Nat→Int) (t:Nat):List (List Int):=((List.range t).map (TI ls n g)).filter fun l=>!l.isEmpty
theorem yR (t:Nat):dueI ls n g (t + 1)=dueI ls n g t ++ if (TI ls n g t).isEmpty then [] else [TI ls n g t]:=by
 unfold dueI
 rw [List.range_succ,List.map_append,List.filter_append]
 cases h:(TI ls n g t).isEmpty <;> simp [List.filter_cons,h]
theorem yu {t:Nat} (h:TI ls n g t=[]):∀ s,TI ls n g (t + s)=[]
 | 0=>h
 | s + 1=>zgo (yu h s)
theorem zcv {t:Nat} (h:TI ls n g t=[]):∀ s,dueI ls n g (t + s)=dueI ls n g t
 | 0=>rfl
 | s + 1=>by
  rw [show t + (s + 1)=(t + s) + 1 by omega,yR,yu h s,zcv h s]
  simp
theorem zh6 {t:Nat} (h:∀ s,s < t→TI ls n g s ≠ []):(plI n (UI ls n g t)).length + t ≤ n:=by
 induction t with
 | zero=>rw [zcs];omega
 | succ t ih =>
  have:=ih fun s hs=>h s (by omega)
  have e:=zcr (ls:=ls) (n:=n) (g:=g) t
  have p:0 < (TI ls n g t).length:=by
   cases z:TI ls n g t with
   | nil=>exact absurd z (h t (by omega))
   | cons a r=>simp
  omega
theorem zet (t:Nat):(dueI ls n g t).length ≤ t:=by
 unfold dueI
 exact Nat.le_trans (List.length_filter_le _ _) (by simp)
theorem zeu (t:Nat):(plI n (UI ls n g t)).length + ((dueI ls n g t).map List.length).sum=n:=by
 induction t with
 | zero=>rw [zcs];rfl
 | succ t ih =>
  have e:=zcr (ls:=ls) (n:=n) (g:=g) t
  rw [yR,List.map_append,List.sum_append]
  cases z:(TI ls n g t).isEmpty with
  | true =>
   have:TI ls n g t=[]:=by simpa using z
   rw [this] at e
   simp at e ⊢
   omega
  | false=>simp;omega
theorem zgI (l:List Int) (p:Int):hasD (.int p) (.list (l.map PyData.int))=some (l.contains p):=by
 have h1:(l.map PyData.int).all SeqAt.shaped=true:=by
  rw [List.all_map,List.all_eq_true]
  exact fun x _=>xa x
 show (if ((l.map PyData.int).all SeqAt.shaped && SeqAt.shaped (.int p))=true then some ((l.map PyData.int).any fun y=>PyData.eqv y (.int p)) else none)=_
 rw [if_pos (by rw [h1,xa];rfl)]
 congr 1
 rw [List.any_map,List.contains_eq_any_beq]
 rw [Bool.eq_iff_iff,List.any_eq_true,List.any_eq_true]
 constructor
 ·rintro ⟨x,hx,h⟩
  refine ⟨x,hx,?_⟩
  simp only [Function.comp,PyData.eqv] at h
  have:x=p:=by simpa using h
  simpa using this.symm
 ·rintro ⟨x,hx,h⟩
  refine ⟨x,hx,?_⟩
  have:p=x:=by simpa using h
  simp only [Function.comp,PyData.eqv]
  simpa using this.symm
theorem zeK (l:List Int) (p:Int):hasD (.int p) (.tuple (l.map PyData.int))=some (l.contains p):=zgI l p
theorem vW (l:List Int) (p:Int):jX (.int p) (.tuple (l.map PyData.int))=some (.bool (!l.contains p)):=by unfold jX;rw [zeK];rfl
theorem zhY {c:Int} (h:∀ l ∈ ls,LkOk c l) (a:Int):twoI ls a a=0:=by
 unfold twoI
 have:ls.filter (fun l=>decide (l.1=min a a) && decide (l.2.1=max a a))=[]:=by
  rw [List.filter_eq_nil_iff]
  intro l hl z
  obtain ⟨_,h2,_⟩:=h l hl
  simp only [Bool.and_eq_true,decide_eq_true_eq] at z
  omega
 rw [this]
 rfl
end L2.Y
namespace L2.Y
open PySem L2.Sd
variable {c:Int} {n:Nat} {ls:List (Int × Int × Int)}
theorem yQ {h:GT} {gt:Env'→Option Bool} {ge:Env'→Option D} {ρ:Env'} (p:Nat→D) (q:Nat→Bool) (f:Nat→D):∀ l:List Nat,(∀ k ∈ l,∃ ρ1,h (p k) ρ=some ρ1∧gt ρ1=some (q k)∧(q k=true→ge ρ1=some (f k)))→xF h gt ge ρ (l.map p)=some ((l.filter q).map f)
 | [],_=>rfl
 | k :: l,hl=>by
  obtain ⟨ρ1,e1,e2,e3⟩:=hl k List.mem_cons_self
  have ih:=yQ p q f l fun j hj=>hl j (List.mem_cons_of_mem _ hj)
  show (h (p k) ρ).bind _=_
  rw [e1,Option.bind_some,e2,Option.bind_some]
  cases z:q k with
  | true=>simp only [if_true];rw [e3 z,Option.bind_some,ih,List.filter_cons_of_pos z];rfl
  | false=>simp only [Bool.false_eq_true,if_false];rw [ih,List.filter_cons_of_neg (by simp [z])]
theorem zdx (n:Nat) (U:Nat→Bool):(plI n U).map PyData.int=((List.range n).filter U).map fun (k:Nat)=>(.int (1 + (k:Int)):D):=by
 unfold plI
 rw [List.map_map]
 rfl
noncomputable def toB (ls:List (Int × Int × Int)) (p:Int):D→D
 | .int q=>.int (twoI ls p q)
 | d=>d
noncomputable def lenT:D→D
 | .tuple ds=>.int ds.length
 | d=>d
theorem zf1 (hll:ls.length ≤ 1000) (p:Int) (l:List Int) (hl:l.length ≤ 1000):F_ties_to [zp c ls,.int p,.list (l.map PyData.int)]=some (.int ((l.map fun q=>twoI ls p q).sum)):=by
 unfold F_ties_to
 refine zB ?_
 show vk [some (.val (zp c ls)),vI p,some (.val (.list (l.map PyData.int)))]=_
 unfold vk
 refine zX (zu (za (jz (zL (qJ (x:=.list (l.map PyData.int)) rfl (wN _)) (by rw [List.length_map];omega) (vz (toB ls p) _ fun d hd => ?_))) zg) ?_)
 ·obtain ⟨q,hq,rfl⟩:=List.mem_map.mp hd
  exact ⟨[vI q,some (.val (zp c ls)),vI p],rfl,zu (za (x:=zp c ls) rfl (za (x:=.int p) rfl (za (x:=.int q) rfl zg))) (by rw [jN];exact kG c p q ls hll)⟩
 ·have:(l.map PyData.int).map (toB ls p)=(l.map fun q=>twoI ls p q).map PyData.int:=by
   rw [List.map_map,List.map_map];rfl
  rw [this,wV]
theorem vw (O:YOk c n ls) (g:Nat→Int) (U:Nat→Bool):F_catching [zp c ls,.tuple (vD n g),.list ((plI n U).map PyData.int)]=some (.tuple ((plI n (CI ls n g U)).map PyData.int)):=by
 have hn:=O.en
 have hl:=zcd n U
 unfold F_catching
 refine zB ?_
 show wZ [some (.val (zp c ls)),some (.val (.tuple (vD n g))),some (.val (.list ((plI n U).map PyData.int)))]=_
 unfold wZ
 have ec:xF (hName 0) (gBo (g2 geD (g2 ixD (gVar 1) (g2 subD (gVar 0) (gK (.int 1)))) (gA (zt 3 F_ties_to) (zc (gVar 2) (zc (gVar 0) (zc (gVar 3) gNil)))))) (gVar 0) [none,some (.val (.tuple (vD n g))),some (.val (zp c ls)),some (.val (.list ((plI n U).map PyData.int)))] ((plI n U).map PyData.int)=some ((plI n (CI ls n g U)).map PyData.int):=by
  have e:=yQ (h:=hName 0) (gt:=gBo (g2 geD (g2 ixD (gVar 1) (g2 subD (gVar 0) (gK (.int 1)))) (gA (zt 3 F_ties_to) (zc (gVar 2) (zc (gVar 0) (zc (gVar 3) gNil)))))) (ge:=gVar 0) (ρ:=[none,some (.val (.tuple (vD n g))),some (.val (zp c ls)),some (.val (.list ((plI n U).map PyData.int)))])
   (fun (k:Nat)=>(.int (1 + (k:Int)):D)) (fun k=>decide (WI ls n U k ≤ g k)) (fun (k:Nat)=>(.int (1 + (k:Int)):D)) ((List.range n).filter U) fun k hk=>by
    have hk':=List.mem_range.mp (List.mem_filter.mp hk).1
    have eg:ixD (.tuple (vD n g)) (.int (1 + k - 1))=some (.int (g k)):=by
     have:=zh0 (n:=n) (f:=g) (j:=1 + k - 1) (by omega) (by omega)
     rw [show ((1:Int) + k - 1).toNat=k by omega] at this
     exact this
    exact ⟨[vI (1 + k),some (.val (.tuple (vD n g))),some (.val (zp c ls)),some (.val (.list ((plI n U).map PyData.int)))],rfl,jO (zy (zy (x:=.tuple (vD n g)) rfl (zy (x:=.int (1 + k)) rfl zI (wU _ _)) eg) (zu (za (x:=zp c ls) rfl (za (x:=.int (1 + k)) rfl (za (x:=.list ((plI n U).map PyData.int)) rfl zg))) (by rw [jN];exact zf1 O.len (1 + k) _ (by omega))) (ziK _ _)),fun _=>rfl⟩
  rw [← zdx,List.filter_filter] at e
  rw [e,zdx]
  congr 2
  exact List.filter_congr fun k _=>by unfold CI;rw [Bool.and_comm]
 exact zX (zu (za (jz (zL (qJ (x:=.list ((plI n U).map PyData.int)) rfl (wN _)) (by rw [List.length_map];omega) ec)) zg) (zN _))
noncomputable def trD (l:List Int):D:=.tuple (l.map PyData.int)
noncomputable def bSt (c:Int) (n:Nat) (ls:List (Int × Int × Int)) (g:Nat→Int) (t:Nat):Env' :=
 [some (.val (zp c ls)),some (.val (.tuple (vD n g))),some (.val (.list ((plI n (UI ls n g t)).map PyData.int))),some (.own (.list ((dueI ls n g t).map trD))),some (.val (trD (TI ls n g t)))]
theorem zeb (O:YOk c n ls) (g:Nat→Int) {t:Nat} (ht:t ≤ n) (h:TI ls n g t ≠ []):yN (bSt c n ls g t)=some (.nxt (bSt c n ls g (t + 1))):=by
 have hn:=O.en
 have hl:=zcd n (UI ls n g t)
 have hd:=zet (ls:=ls) (n:=n) (g:=g) t
 unfold yN
 have e1:(dueI ls n g t).map trD ++ [trD (TI ls n g t)]=(dueI ls n g (t + 1)).map trD:=by
  rw [yR,if_neg (by simpa using h),List.map_append]
  rfl
 rw [zm (ρ':=[some (.val (zp c ls)),some (.val (.tuple (vD n g))),some (.val (.list ((plI n (UI ls n g t)).map PyData.int))),some (.own (.list ((dueI ls n g (t + 1)).map trD))),some (.val (trD (TI ls n g t)))]) (by
  rw [zfG (d:=trD (TI ls n g t)) rfl rfl (by rw [List.length_map];omega),e1]
  rfl)]
 have ec:xF (hName 0) (gBo (g2 jX (gVar 0) (gVar 1))) (gVar 0) [none,some (.val (trD (TI ls n g t)))] ((plI n (UI ls n g t)).map PyData.int)=some ((plI n (UI ls n g (t + 1))).map PyData.int):=by
  have e:=yQ (h:=hName 0) (gt:=gBo (g2 jX (gVar 0) (gVar 1))) (ge:=gVar 0) (ρ:=[none,some (.val (trD (TI ls n g t)))])
   (fun (k:Nat)=>(.int (1 + (k:Int)):D)) (fun k=>!CI ls n g (UI ls n g t) k) (fun (k:Nat)=>(.int (1 + (k:Int)):D)) ((List.range n).filter (UI ls n g t)) fun k hk=>by
    have hk':=List.mem_range.mp (List.mem_filter.mp hk).1
    refine ⟨[vI (1 + k),some (.val (trD (TI ls n g t)))],rfl,jO (zy (x:=.int (1 + k)) rfl (y:=trD (TI ls n g t)) rfl ?_),fun _=>rfl⟩
    show jX _ (.tuple ((TI ls n g t).map PyData.int))=_
    rw [vW]
    unfold TI
    rw [zft hk']
  rw [← zdx,List.filter_filter] at e
  rw [e,zdx]
  congr 2
  exact List.filter_congr fun k _=>by
   show _=NI ls n g (UI ls n g t) k
   unfold NI
   rw [Bool.and_comm]
 rw [zm (wa (zL (qJ (x:=.list ((plI n (UI ls n g t)).map PyData.int)) rfl (wN _)) (by rw [List.length_map];omega) ec))]
 exact zG (zu (za (x:=zp c ls) rfl (za (x:=.tuple (vD n g)) rfl (za (x:=.list ((plI n (UI ls n g (t + 1))).map PyData.int)) rfl zg))) (by rw [jN];exact vw O g _)) rfl
theorem zco (O:YOk c n ls) (g:Nat→Int):F_rests [zp c ls,.tuple (vD n g)]=some (.bool (xm n (szB n (tieB ls)) g)):=by
 unfold F_rests
 refine zB ?_
 show zbQ [some (.val (zp c ls)),some (.val (.tuple (vD n g)))]=_
 unfold zbQ
 exact zX (zu (za (x:=.tuple (vD n g)) rfl (za (zu (za (x:=zp c ls) rfl zg) (by rw [xn];exact O.sizes)) zg)) (by rw [zQ];exact yx n O.en _ _))
theorem zj1 (O:YOk c n ls) (g:Nat→Int) (x2 x3 x4:Option En):wz (gTr (gA (zt 2 F_rests) (zc (gVar 0) (zc (gVar 1) gNil)))) [some (.val (zp c ls)),some (.val (.tuple (vD n g))),x2,x3,x4]=some (!xm n (szB n (tieB ls)) g) :=
 wA (zbh (zu (za (x:=zp c ls) rfl (za (x:=.tuple (vD n g)) rfl zg)) (by rw [zQ];exact zco O g)))
theorem zea (O:YOk c n ls) (g:Nat→Int) (h:xm n (szB n (tieB ls)) g=true):F_burn [zp c ls,.tuple (vD n g)]=some (.tuple ((dueI ls n g (n + 1)).map trD)):=by
 have hn:=O.en
 have hc:=O.ec
 have er:qE [.int 1,.int (c + 1)]=some (zT 1 n):=by
  rw [qU (by decide) (by decide) (by omega) (by omega)]
  congr 2
  omega
 have e0:zT 1 n=(plI n (UI ls n g 0)).map PyData.int:=by
  rw [zdx]
  show _=List.map _ (List.filter (fun _=>true) _)
  rw [List.filter_eq_self.mpr fun _ _=>rfl]
  rfl
 obtain ⟨ρ',e,x2,x4,hr⟩:=yv (c:=gTr (gVar 4)) (gb:=yN) (fun m ρ=>∃ t,m + t=n∧(∀ s,s < t→TI ls n g s ≠ [])∧ρ=bSt c n ls g t)
  (fun ρ=>∃ x2 x4,ρ=[some (.val (zp c ls)),some (.val (.tuple (vD n g))),x2,some (.own (.list ((dueI ls n g (n + 1)).map trD))),x4])
  (fun m ρ hZq=>by
   obtain ⟨t,hm,ht,hr⟩:=hZq
   subst hr
   have ec:gTr (gVar 4) (bSt c n ls g t)=some (!((TI ls n g t).map PyData.int).isEmpty):=rfl
   by_cases z:TI ls n g t=[]
   ·refine .inl ⟨by rw [ec,z];rfl,some (.val (.list ((plI n (UI ls n g t)).map PyData.int))),some (.val (trD (TI ls n g t))),?_⟩
    have:=zcv z (n + 1 - t)
    rw [show t + (n + 1 - t)=n + 1 by omega] at this
    rw [this]
    rfl
   ·have hle:=zh6 (ls:=ls) (n:=n) (g:=g) (t:=t + 1) fun s hs=>by
     by_cases q:s=t
     ·subst q;exact z
     ·exact ht s (by omega)
    refine .inr ⟨by
     rw [ec]
     cases q:TI ls n g t with
     | nil=>exact absurd q z
     | cons a r=>rfl,bSt c n ls g (t + 1),m - 1,zeb O g (by omega) z,by omega,t + 1,by omega,fun s hs => ?_,rfl⟩
    by_cases q:s=t
    ·subst q;exact z
    ·exact ht s (by omega))
  n (bSt c n ls g 0) ⟨0,by omega,fun s hs=>absurd hs (Nat.not_lt_zero _),rfl⟩
 subst hr
 unfold F_burn
 refine zB ?_
 show zdQ [some (.val (zp c ls)),some (.val (.tuple (vD n g))),none,none,none]=_
 unfold zdQ
 rw [zm (ρ':=[some (.val (zp c ls)),some (.val (.tuple (vD n g))),none,none,none]) (by rw [kB (by rw [zj1 O g,h];rfl)];rfl)]
 rw [zm (ρ':=[some (.val (zp c ls)),some (.val (.tuple (vD n g))),some (.val (.list ((plI n (UI ls n g 0)).map PyData.int))),none,none]) (by
  rw [← e0]
  exact zG (jz (vG (jt (za zI (za (zy (zy (x:=zp c ls) rfl zI (jA c ls)) zI (zH c 1)) zg)) er) (by rw [jp];omega))) rfl)]
 rw [zm (ρ':=[some (.val (zp c ls)),some (.val (.tuple (vD n g))),some (.val (.list ((plI n (UI ls n g 0)).map PyData.int))),some (.own (.list [])),none]) rfl]
 rw [zm (ρ':=bSt c n ls g 0) (zG (zu (za (x:=zp c ls) rfl (za (x:=.tuple (vD n g)) rfl (za (x:=.list ((plI n (UI ls n g 0)).map PyData.int)) rfl zg))) (by rw [jN];exact vw O g _)) rfl)]
 rw [zm (kg e)]
 exact zX (zu (za (x:=.list ((dueI ls n g (n + 1)).map trD)) rfl zg) (zN _))
theorem ze5 (l:List (List Int)):(l.map fun x=>(x.length:Int)).sum=((l.map List.length).sum:Nat):=by
 induction l with
 | nil=>rfl
 | cons a l ih=>simp only [List.map_cons,List.sum_cons];rw [ih,Int.natCast_add]
theorem zg3 (l:List (List Int)):sumD [.list ((l.map trD).map lenT)]=some (.int ((l.map List.length).sum:Nat)):=by
 have:(l.map trD).map lenT=(l.map fun x=>(x.length:Int)).map PyData.int:=by
  rw [List.map_map,List.map_map]
  apply List.map_congr_left
  intro x _
  show PyData.int ((x.map PyData.int).length:Nat)=PyData.int (x.length:Nat)
  rw [List.length_map]
 rw [this,wV,ze5]
theorem zdq (O:YOk c n ls) (g:Nat→Int) (h:xm n (szB n (tieB ls)) g=true):F_is_lasting [zp c ls,.tuple (vD n g)]=some (.bool (decide ((((dueI ls n g (n + 1)).map List.length).sum:Nat)=(n:Int)))):=by
 have hn:=O.en
 have hd:=zet (ls:=ls) (n:=n) (g:=g) (n + 1)
 unfold F_is_lasting
 refine zB ?_
 show xw [some (.val (zp c ls)),some (.val (.tuple (vD n g))),none]=_
 unfold xw
 have ez:gA sumD (zc (gLs (jx 1 [] (gIt seqD (gA (zt 2 F_burn) (zc (gVar 0) (zc (gVar 1) gNil)))) (hName 0) qd (gA lenD (zc (gVar 0) gNil)))) gNil) [some (.val (zp c ls)),some (.val (.tuple (vD n g))),none]=some (.int (((dueI ls n g (n + 1)).map List.length).sum:Nat)) :=
  zu (za (jz (zL (qJ (zu (za (x:=zp c ls) rfl (za (x:=.tuple (vD n g)) rfl zg)) (by rw [zQ];exact zea O g h)) (qG _)) (by rw [List.length_map];omega)
  (vz (lenT) _ fun d hd=>by
   obtain ⟨l,_,rfl⟩:=List.mem_map.mp hd
   exact ⟨[some (.val (trD l))],rfl,rfl⟩))) zg) (zg3 _)
 rw [zm (zG ez rfl)]
 refine zX (zy (x:=.int (((dueI ls n g (n + 1)).map List.length).sum:Nat)) rfl (zy (x:=zp c ls) rfl zI (jA c ls)) ?_)
 rw [zbZ,O.ec]
end L2.Y
namespace L2.Sd
variable {n:Nat} {B:Nat→Nat→Int}
noncomputable def dg (n:Nat) (B:Nat→Nat→Int) (F:Nat→Bool) (i:Nat):Int:=sm n fun j=>if F j then B (i + 1) (j + 1) else 0
noncomputable def Forb (n:Nat) (B:Nat→Nat→Int) (h:Nat→Int) (F:Nat→Bool):Prop:=(∃ i,i < n∧F i=true)∧∀ i,i < n→F i=true→h i < dg n B F i
noncomputable def Last (n:Nat) (B:Nat→Nat→Int) (h:Nat→Int):Prop:=∀ F,¬ Forb n B h F
theorem ziE (N:Net n B) (F:Nat→Bool) (i:Nat):0 ≤ dg n B F i:=kn fun k _=>by
 show 0 ≤ if F k then B (i + 1) (k + 1) else 0
 split
 ·exact N.nn _ _
 ·exact Int.le_refl _
theorem zbX (N:Net n B) {F G:Nat→Bool} (h:∀ k,k < n→F k=true→G k=true) (i:Nat):dg n B F i ≤ dg n B G i:=zci fun k hk=>by
 show (if F k then B (i + 1) (k + 1) else 0) ≤ if G k then B (i + 1) (k + 1) else 0
 cases e:F k with
 | true=>rw [h k hk e];exact Int.le_refl _
 | false =>
  have:=N.nn (i + 1) (k + 1)
  cases G k <;> simp <;> omega
theorem zgC (N:Net n B) (F:Nat→Bool) {i:Nat} (hi:i < n):fire n (chB n B) (fun k=>if F k then 1 else 0) i=dg n B F i + -(if F i then szB n B i else 0):=by
 unfold fire dg
 rw [← zfQ hi (fun k=>if F k then B (i + 1) (k + 1) else 0)]
 refine zP fun k hk => ?_
 show (if F k then 1 else 0) * chB n B k i=if k=i then (if F k then B (i + 1) (k + 1) else 0) + _ else _
 unfold chB
 by_cases e:k=i
 ·subst e
  have:=N.no (k + 1)
  cases F k <;> simp [this]
 ·rw [if_neg e,if_neg e,N.sym (k + 1) (i + 1)]
  cases F k <;> simp
theorem zaF (N:Net n B) {g t:Nat→Int} (hg:∀ j,j < n→szB n B j ≤ g j) (o:Odo n (chB n B) (szB n B) g t):Last n B (fc n (chB n B) g t):=by
 have Y:=N.yd N.size_pos
 rintro F ⟨⟨i,hi,fi⟩,hf⟩
 have t1:∀ j,j < n→1 ≤ t j:=fun j hj=>by
  have:=least Y o.br (t:=fun _=>0) (fun k hk=>o.br.1 k hk) hj (c:=1) (by rw [zeD,Int.one_mul];exact hg j hj) (by decide)
  omega
 have b:xu n (chB n B) (szB n B) g (fun k=>t k + (-1) * (if F k then 1 else 0)):=by
  refine ⟨fun k hk => ?_,fun j hj => ?_⟩
  ·have:=t1 k hk
   show 0 ≤ t k + (-1) * (if F k then 1 else 0)
   cases F k <;> simp <;> omega
  ·rw [xI,xU,qz,zgC N F hj]
   have st:=o.br.2 j hj
   have dn:=ziE N F j
   rw [xI] at st
   cases e:F j with
   | true =>
    have:=hf j hj e
    rw [xI] at this
    simp
    omega
   | false=>simp;omega
 have:=o.le _ b i hi
 simp only [fi,if_true] at this
 omega
theorem ze0 (N:Net n B) {h r z:Nat→Int} (hh:∀ j,j < n→h j < szB n B j) (hr:Last n B r) (e:∀ j,j < n→r j=h j + fire n (chB n B) z j):∀ k,k < n→z k ≤ 0:=by
 intro k0 hk0
 apply Int.not_lt.mp
 intro hpos
 obtain ⟨i,hi,hm⟩:=zas n z (by omega)
 have mp:1 ≤ z i:=by have:=hm k0 hk0;omega
 refine hr (fun k=>decide (z k=z i)) ⟨⟨i,hi,by simp⟩,fun j hj ej => ?_⟩
 have ej:z j=z i:=by simpa using ej
 let H:Nat→Int:=fun p=>if p=0 then 0 else z (p - 1)
 have hs:∀ k,H (k + 1)=z k:=fun k=>by show (if k + 1=0 then 0 else z (k + 1 - 1))=z k;rw [if_neg (by omega)];rfl
 have f:=N.flow H rfl hj
 have e1:(sm n fun k=>H (k + 1) * chB n B k j)=fire n (chB n B) z j:=zP fun k _=>by rw [hs]
 rw [e1,hs,ej] at f
 have l:sm (n + 1) (fun p=>B (j + 1) p + (-1) * (if p=0 then 0 else if decide (z (p - 1)=z i) then B (j + 1) p else 0)) ≤ sm (n + 1) fun p=>(z i - H p) * B (j + 1) p:=zci fun p hp=>by
  have bn:=N.nn (j + 1) p
  cases p with
  | zero =>
   show B (j + 1) 0 + (-1) * 0 ≤ (z i - 0) * B (j + 1) 0
   have:=Int.mul_le_mul_of_nonneg_right mp bn
   rw [Int.sub_zero]
   omega
  | succ p =>
   show B (j + 1) (p + 1) + (-1) * (if p + 1=0 then 0 else if decide (z (p + 1 - 1)=z i) then B (j + 1) (p + 1) else 0) ≤ (z i - H (p + 1)) * B (j + 1) (p + 1)
   rw [hs,if_neg (by omega),show p + 1 - 1=p by omega]
   by_cases q:z p=z i
   ·rw [q,Int.sub_self,Int.zero_mul]
    simp
    omega
   ·have:1 ≤ z i - z p:=by have:=hm p (by omega);omega
    have:=Int.mul_le_mul_of_nonneg_right this bn
    simp [q]
    omega
 rw [km,qw,xl n (fun p=>if p=0 then 0 else if decide (z (p - 1)=z i) then B (j + 1) p else 0)] at l
 have e2:(sm n fun k=>if k + 1=0 then 0 else if decide (z (k + 1 - 1)=z i) then B (j + 1) (k + 1) else 0)=dg n B (fun k=>decide (z k=z i)) j:=zP fun k _=>by
  rw [if_neg (by omega),show k + 1 - 1=k by omega]
 rw [e2] at l
 have e3:sm (n + 1) (B (j + 1))=szB n B j:=rfl
 rw [e3] at l
 simp only [if_true] at l
 have:=e j hj
 have:=hh j hj
 omega
theorem zcJ (N:Net n B) {h r z:Nat→Int} (hh:∀ j,j < n→h j < szB n B j) (hr:∀ j,j < n→r j < szB n B j) (lh:Last n B h) (lr:Last n B r) (e:∀ j,j < n→r j=h j + fire n (chB n B) z j):∀ j,j < n→r j=h j:=by
 have a:=ze0 N hh lr e
 have b:=ze0 N (h:=r) (r:=h) (z:=fun k=>(-1) * z k) hr lh fun j hj=>by rw [qz,e j hj];omega
 intro j hj
 rw [e j hj,kN (u:=fun k=>0 * 0) fun k hk=>by have:=a k hk;have:=b k hk;omega,qz]
 omega
theorem zdk {h h' : Nat→Int} (e:∀ j,j < n→h j=h' j) {F:Nat→Bool} (f:Forb n B h F):Forb n B h' F:=⟨f.1,fun i hi fi=>by rw [← e i hi];exact f.2 i hi fi⟩
theorem jP {h h' : Nat→Int} (e:∀ j,j < n→h j=h' j) (l:Last n B h):Last n B h':=fun F f=>l F (zdk (fun j hj=>(e j hj).symm) f)
end L2.Sd
namespace L2.Y
open PySem L2.Sd
variable {c:Int} {n:Nat} {ls:List (Int × Int × Int)}
theorem zjQ (l:List Nat) (U:Nat→Bool) (f:Nat→Int):((l.filter U).map f).sum=(l.map fun j=>if U j then f j else 0).sum:=by
 induction l with
 | nil=>rfl
 | cons a l ih =>
  cases e:U a with
  | true=>rw [List.filter_cons_of_pos e,List.map_cons,List.map_cons,List.sum_cons,List.sum_cons,ih,e];rfl
  | false=>rw [List.filter_cons_of_neg (by simp [e]),List.map_cons,List.sum_cons,ih,e];simp
theorem zd0 (O:YOk c n ls) (U:Nat→Bool) (k:Nat):WI ls n U k=dg n (tieB ls) U k:=by
 unfold WI plI dg sm
 rw [List.map_map]
 show (((List.range n).filter U).map fun (j:Nat)=>twoI ls (1 + k) (1 + (j:Int))).sum=_
 rw [zjQ]
 congr 1
 refine List.map_congr_left fun j _ => ?_
 cases U j with
 | false=>rfl
 | true =>
  simp only [if_true]
  by_cases e:k=j
  ·subst e;rw [zhY O.lk,ziu]
  ·exact zda O.lk e
theorem zbJ (ls:List (Int × Int × Int)) (n:Nat) (h:Nat→Int):TI ls n h (n + 1)=[]:=by
 apply Classical.byContradiction
 intro z
 have:=zh6 (ls:=ls) (n:=n) (g:=h) (t:=n + 1) fun s hs q=>z (by
  have:=yu q (n + 1 - s)
  rwa [show s + (n + 1 - s)=n + 1 by omega] at this)
 omega
theorem zgY (O:YOk c n ls) (h:Nat→Int):plI n (UI ls n h (n + 1))=[] ↔ Last n (tieB ls) h:=by
 constructor
 ·rintro e F ⟨⟨i,hi,fi⟩,hf⟩
  have up:∀ t k,k < n→F k=true→UI ls n h t k=true:=by
   intro t
   induction t with
   | zero=>intro k _ _;rfl
   | succ t ih =>
    intro k hk fk
    show NI ls n h (UI ls n h t) k=true
    unfold NI CI
    have a:=hf k hk fk
    have b:=zbX O.net ih k
    rw [ih k hk fk,zd0 O]
    simp
    omega
  have:=zaL e i hi
  rw [up _ i hi fi] at this
  cases this
 ·intro l
  apply Classical.byContradiction
  intro z
  have st:=zaL (zbJ ls n h)
  refine l (UI ls n h (n + 1)) ⟨?_,fun i hi fi => ?_⟩
  ·apply Classical.byContradiction
   intro q
   refine z ?_
   unfold plI
   rw [List.map_eq_nil_iff,List.filter_eq_nil_iff]
   intro k hk e
   exact q ⟨k,List.mem_range.mp hk,e⟩
  ·have:=st i hi
   unfold CI at this
   rw [fi,zd0 O] at this
   simpa using this
noncomputable def lasB (ls:List (Int × Int × Int)) (n:Nat) (h:Nat→Int):Bool:=(plI n (UI ls n h (n + 1))).isEmpty
theorem zgX (O:YOk c n ls) (h:Nat→Int):lasB ls n h=true ↔ Last n (tieB ls) h:=by
 unfold lasB
 rw [← zgY O,List.isEmpty_iff]
theorem zgW (ls:List (Int × Int × Int)) (n:Nat) (h:Nat→Int):decide ((((dueI ls n h (n + 1)).map List.length).sum:Nat)=(n:Int))=lasB ls n h:=by
 have:=zeu (ls:=ls) (n:=n) (g:=h) (n + 1)
 unfold lasB
 cases e:plI n (UI ls n h (n + 1)) with
 | nil =>
  rw [e] at this
  simp at this
  simp
  omega
 | cons a l =>
  rw [e] at this
  simp at this
  simp
  omega
end L2.Y
namespace L2.Sd
variable {n:Nat} {B:Nat→Nat→Int}
noncomputable def fill (s:Nat→Int) (k:Nat) (p:Nat→Int) (j:Nat):Int:=if j < k then p j else s j - 1
noncomputable def setI (h:Nat→Int) (k:Nat) (x:Int) (j:Nat):Int:=if j=k then x else h j
theorem ze1 {h h' : Nat→Int} (e:∀ j,j < n→h j ≤ h' j) (l:Last n B h):Last n B h':=fun F f=>l F ⟨f.1,fun i hi fi=>by have:=f.2 i hi fi;have:=e i hi;omega⟩
theorem zeF (N:Net n B):Last n B fun j=>szB n B j - 1:=by
 rintro F ⟨⟨i,hi,fi⟩,hf⟩
 have all:=N.conn (fun p=>¬ ∃ j,j < n∧p=j + 1∧F j=true) (fun ⟨j,_,e,_⟩=>by omega) (fun p q hp hq hb hs=>by
  rintro ⟨j,hj,rfl,fj⟩
  have a:=hf j hj fj
  rw [N.sym] at hb
  have e:szB n B j=B (j + 1) 0 + sm n fun k=>B (j + 1) (k + 1):=xl n _
  have b:dg n B F j ≤ sm n fun k=>B (j + 1) (k + 1):=zci fun k hk=>by
   show (if F k then B (j + 1) (k + 1) else 0) ≤ _
   have:=N.nn (j + 1) (k + 1)
   split <;> omega
  have b0:=N.nn (j + 1) 0
  have a' : szB n B j - 1 < dg n B F j:=a
  cases p with
  | zero=>omega
  | succ p =>
   have fp:F p=false:=by
    cases z:F p with
    | false=>rfl
    | true=>exact absurd ⟨p,by omega,rfl,z⟩ hs
   have c:dg n B F j + 1 ≤ sm n fun k=>B (j + 1) (k + 1):=by
    unfold dg
    have:=zfQ (n:=n) (i:=p) (by omega) (fun k=>if F k then B (j + 1) (k + 1) else 0) 1
    rw [← this]
    refine zci fun k hk => ?_
    show (if k=p then (if F k then B (j + 1) (k + 1) else 0) + 1 else if F k then B (j + 1) (k + 1) else 0) ≤ B (j + 1) (k + 1)
    have:=N.nn (j + 1) (k + 1)
    by_cases kp:k=p
    ·subst kp
     rw [if_pos rfl,fp]
     simp
     omega
    ·rw [if_neg kp]
     split <;> omega
   omega)
 exact all (i + 1) (by omega) ⟨i,hi,rfl,fi⟩
theorem zgJ (N:Net n B) {h:Nat→Int} {k:Nat} (hk:k < n) (la:Last n B h) {U:Nat→Bool} (u1:∀ F,Forb n B (setI h k 0) F→∀ i,i < n→F i=true→U i=true) (u2:(∃ i,i < n∧U i=true)→Forb n B (setI h k 0) U) {x:Int} (hx:0 ≤ x):Last n B (setI h k x) ↔ dg n B U k ≤ x:=by
 constructor
 ·intro l
  apply Int.not_lt.mp
  intro q
  have ne:∃ i,i < n∧U i=true:=by
   apply Classical.byContradiction
   intro z
   have:dg n B U k=0:=by
    unfold dg
    rw [zP (g:=fun _=>0 * 0) fun j hj=>by
     rw [if_neg fun w=>z ⟨j,hj,w⟩]
     rfl,qw,Int.zero_mul]
   omega
  refine l U ⟨ne,fun i hi ui => ?_⟩
  have:=(u2 ne).2 i hi ui
  unfold setI at this ⊢
  by_cases e:i=k
  ·subst e;rw [if_pos rfl];omega
  ·rw [if_neg e] at this ⊢;exact this
 ·rintro d F ⟨ne,hf⟩
  cases z:F k with
  | false =>
   refine la F ⟨ne,fun i hi fi => ?_⟩
   have:=hf i hi fi
   unfold setI at this
   rwa [if_neg fun e=>by rw [e,z] at fi;cases fi] at this
  | true =>
   have f0:Forb n B (setI h k 0) F:=⟨ne,fun i hi fi=>by
    have:=hf i hi fi
    unfold setI at this ⊢
    by_cases e:i=k
    ·rw [if_pos e] at this ⊢;omega
    ·rw [if_neg e] at this ⊢;exact this⟩
   have a:=zbX N (u1 F f0) k
   have b:=hf k hk z
   unfold setI at b
   rw [if_pos rfl] at b
   omega
theorem zhw (N:Net n B) {a b r e σ:Nat→Int} (L:Lift n (chB n B) (szB n B) e σ) (ex:∀ g,(∀ j,j < n→0 ≤ g j)→∃ r,Rst n (chB n B) (szB n B) g r) (a0:∀ j,j < n→0 ≤ a j) (as:∀ j,j < n→a j < szB n B j) (la:Last n B a) (b0:∀ j,j < n→0 ≤ b j) (hr:Rst n (chB n B) (szB n B) (fun k=>a k + b k) r):Last n B r:=by
 have e1:∀ j,j < n→szB n B j ≤ e j:=fun j hj=>by have:=L.eq j hj;have:=L.lt j hj;omega
 -- what a,lifted,settles to is a again
 obtain ⟨q,hq⟩:=ex (fun k=>a k + e k) fun j hj=>by show 0 ≤ a j + e j;have:=a0 j hj;have:=e1 j hj;have:=N.size_pos j hj;omega
 obtain ⟨t,ot,et⟩:=hq
 obtain ⟨y,oy,ey⟩:=L.rst
 have ql:Last n B q:=jP (fun j hj=>(et j hj).symm) (zaF N (fun j hj=>by show szB n B j ≤ a j + e j;have:=a0 j hj;have:=e1 j hj;omega) ot)
 have qs:∀ j,j < n→q j < szB n B j:=fun j hj=>by rw [et j hj];exact ot.br.2 j hj
 have qa:=zcJ N (h:=a) (r:=q) (z:=fun k=>t k + (-1) * y k) as qs la ql fun j hj=>by
  have h1:=et j hj
  have h2:=ey j hj
  have h3:=L.eq j hj
  rw [xI] at h1 h2
  rw [xU,qz]
  omega
 obtain ⟨v,ov,ev⟩:=hr
 have h1:Rst n (chB n B) (szB n B) (fun k=>a k + e k) a:=⟨t,ot,fun j hj=>by rw [← qa j hj];exact et j hj⟩
 have h2:=Rst.put (g:=b) b0 h1 ⟨v,ov,ev⟩
 obtain ⟨w,ow,ew⟩:=h2
 exact jP (fun j hj=>(ew j hj).symm) (zaF N (fun j hj=>by show szB n B j ≤ a j + e j + b j;have:=a0 j hj;have:=e1 j hj;have:=b0 j hj;omega) ow)
end L2.Sd
namespace L2.Y
open PySem L2.Sd
variable {c:Int} {n:Nat} {ls:List (Int × Int × Int)}
theorem zh8 {g:Nat→Int} {k:Nat} (hk:k < n):∀ t,(1 + (k:Int)) ∈ (dueI ls n g t).flatten ↔ UI ls n g t k=false
 | 0=>by
  show _ ∈ List.flatten [] ↔ true=false
  simp
 | t + 1=>by
  have ih:=zh8 (g:=g) hk t
  rw [yR,List.flatten_append,List.mem_append,ih]
  have e:(1 + (k:Int)) ∈ (if (TI ls n g t).isEmpty then [] else [TI ls n g t]).flatten ↔ CI ls n g (UI ls n g t) k=true:=by
   have h:(1 + (k:Int)) ∈ TI ls n g t ↔ CI ls n g (UI ls n g t) k=true:=by
    rw [← List.contains_iff_mem]
    unfold TI
    rw [zft hk]
   cases z:(TI ls n g t).isEmpty with
   | true =>
    have z' : TI ls n g t=[]:=by simpa using z
    rw [z'] at h
    simpa using h
   | false=>simpa using h
  rw [e]
  show _ ↔ NI ls n g (UI ls n g t) k=false
  unfold NI CI
  cases UI ls n g t k <;> simp
theorem zjX {k:Nat} (hk:k < n) (p f:Nat→Int) (x:Int):vD k p ++ [.int x] ++ (vD n f).drop (k + 1)=vD n fun j=>if j < k then p j else if j=k then x else f j:=by
 apply List.ext_getElem?
 intro i
 by_cases h1:i < k
 ·rw [List.append_assoc,List.getElem?_append_left (by rw [jH];exact h1),we h1,we (by omega),if_pos h1]
 ·by_cases h2:i=k
  ·subst h2
   rw [List.append_assoc,List.getElem?_append_right (by rw [jH];omega),jH,Nat.sub_self,we hk,if_neg (by omega),if_pos rfl]
   rfl
  ·rw [List.getElem?_append_right (by simp [jH];omega)]
   rw [List.getElem?_drop]
   simp only [List.length_append,jH,List.length_cons,List.length_nil]
   by_cases h3:i < n
   ·rw [show k + 1 + (i - (k + (0 + 1)))=i by omega,we h3,we h3,if_neg h1,if_neg h2]
   ·rw [List.getElem?_eq_none (by rw [jH];omega),List.getElem?_eq_none (by rw [jH];omega)]
theorem zbV {a b:List D} (h:a.length + b.length ≤ 16777216):addD (.tuple a) (.tuple b)=some (.tuple (a ++ b)):=if_pos h
theorem zhU (l:List (List Int)):zck (l.map trD)=some (l.map fun x=>x.map PyData.int):=by
 unfold zck
 induction l with
 | nil=>rfl
 | cons a l ih =>
  rw [List.map_cons,List.mapM_cons,ih]
  rfl
theorem zjP (l:List (List Int)) (h:l.flatten.length ≤ 16777216):zfV [.tuple (l.map trD)]=some (.tuple (l.flatten.map PyData.int)):=by
 show (zck (l.map trD)).bind _=_
 rw [zhU,Option.bind_some]
 have:(l.map fun x=>x.map PyData.int).flatten=l.flatten.map PyData.int:=by rw [List.map_flatten]
 rw [this]
 exact if_pos (by rw [List.length_map];exact h)
noncomputable def h0I (n:Nat) (ls:List (Int × Int × Int)) (k:Nat) (p:Nat→Int):Nat→Int:=setI (fill (SZ n ls) k p) k 0
noncomputable def leaI (n:Nat) (ls:List (Int × Int × Int)) (k:Nat) (p:Nat→Int):Int:=dg n (tieB ls) (UI ls n (h0I n ls k p) (n + 1)) k
theorem zg2 (O:YOk c n ls) {k:Nat} (hk:k < n) (p:Nat→Int) (hp:∀ j,j < k→0 ≤ p j∧p j < SZ n ls j):F_least_heap [zp c ls,.tuple (vD k p),.tuple ((vD n fun j=>SZ n ls j - 1).drop (k + 1))]=some (.int (leaI n ls k p)):=by
 have hn:=O.en
 have hc:=O.ec
 let Y:Option En:=some (.val (zp c ls))
 let P:Option En:=some (.val (.tuple (vD k p)))
 let Bh:Option En:=some (.val (.tuple ((vD n fun j=>SZ n ls j - 1).drop (k + 1))))
 let g:=h0I n ls k p
 let U:=UI ls n g (n + 1)
 have eg:vD k p ++ [.int 0] ++ (vD n fun j=>SZ n ls j - 1).drop (k + 1)=vD n g:=by
  rw [zjX hk]
  refine wd fun j hj => ?_
  show _=setI (fill (SZ n ls) k p) k 0 j
  unfold setI fill
  by_cases a:j < k
  ·rw [if_pos a,if_neg (by omega),if_pos a]
  ·rw [if_neg a,if_neg a]
 have bl:xm n (szB n (tieB ls)) g=true:=xi.mpr fun j hj=>by
  have sp:(1:Int) ≤ SZ n ls j:=O.net.size_pos j hj
  show setI (fill (SZ n ls) k p) k 0 j < SZ n ls j
  unfold setI fill
  by_cases a:j=k
  ·rw [if_pos a];omega
  ·rw [if_neg a]
   by_cases b:j < k
   ·rw [if_pos b];exact (hp j b).2
   ·rw [if_neg b];omega
 have fl:(dueI ls n g (n + 1)).flatten.length ≤ n:=by
  have:=zeu (ls:=ls) (n:=n) (g:=g) (n + 1)
  rw [List.length_flatten]
  omega
 have er:qE [.int 1,.int (c + 1)]=some ((List.range n).map fun (k:Nat)=>(.int (1 + (k:Int)):D)):=by
  rw [qU (by decide) (by decide) (by omega) (by omega),show (c + 1 - 1).toNat=n by omega]
  rfl
 unfold F_least_heap
 refine zB ?_
 show xy [Y,P,Bh,none,none]=_
 unfold xy
 rw [zm (ρ':=[Y,P,Bh,some (.val (.tuple ((dueI ls n g (n + 1)).flatten.map PyData.int))),none]) (zG (zu (za (zu (za (x:=zp c ls) rfl (za (x:=.tuple (vD n g)) (zy (zy (x:=.tuple (vD k p)) rfl (zu (za zI zg) (zjT _)) (zbV (by rw [jH];simp;omega))) (y:=.tuple ((vD n fun j=>SZ n ls j - 1).drop (k + 1))) rfl (by
   rw [zbV (by rw [List.length_append,jH,List.length_drop,jH];simp;omega),eg])) zg)) (by rw [zQ];exact zea O g bl)) zg) (zjP _ (by omega))) rfl)]
 rw [zm (ρ':=[Y,P,Bh,some (.val (.tuple ((dueI ls n g (n + 1)).flatten.map PyData.int))),some (.val (.list ((plI n U).map PyData.int)))]) (by
  refine wa (ds:=(plI n U).map PyData.int) (zL (jt (za zI (za (zy (zy (x:=zp c ls) rfl zI (jA _ _)) zI (zH _ _)) zg)) er) (by rw [List.length_map,List.length_range];omega) ?_)
  rw [zdx]
  refine yQ _ _ _ _ fun k hk=>⟨[vI (1 + k),some (.val (.tuple ((dueI ls n g (n + 1)).flatten.map PyData.int)))],rfl,jO (zy (x:=.int (1 + k)) rfl (y:=.tuple ((dueI ls n g (n + 1)).flatten.map PyData.int)) rfl ?_),fun _=>rfl⟩
  rw [vW]
  congr 2
  have:=zh8 (g:=g) (ls:=ls) (List.mem_range.mp hk) (n + 1)
  rw [← List.contains_iff_mem] at this
  cases a:U k with
  | true =>
   rw [Bool.not_eq_true']
   cases b:(dueI ls n g (n + 1)).flatten.contains (1 + (k:Int)) with
   | false=>rfl
   | true=>have:=this.mp b;rw [show UI ls n g (n + 1) k=true from a] at this;cases this
  | false=>rw [this.mpr a];rfl)]
 have et:=zf1 (c:=c) O.len (1 + k) (plI n U) (by have:=zcd n U;omega)
 have ew:((plI n U).map fun q=>twoI ls (1 + k) q).sum=leaI n ls k p:=zd0 O U k
 rw [ew] at et
 refine zX (zu (za (x:=zp c ls) rfl (za (x:=.int (1 + k)) (zy (zu (za (x:=.tuple (vD k p)) rfl zg) rfl) zI ?_) (za (x:=.list ((plI n U).map PyData.int)) rfl zg))) (by rw [jN];exact et))
 rw [jH,zH]
 congr 2
 omega
end L2.Y
namespace L2.Y
open PySem L2.Sd
variable {c:Int} {n:Nat} {ls:List (Int × Int × Int)}
theorem ziI (O:YOk c n ls) {h:Nat→Int} {F:Nat→Bool} (f:Forb n (tieB ls) h F):∀ t i,i < n→F i=true→UI ls n h t i=true:=by
 intro t
 induction t with
 | zero=>intro k _ _;rfl
 | succ t ih =>
  intro k hk fk
  show NI ls n h (UI ls n h t) k=true
  unfold NI CI
  have a:=f.2 k hk fk
  have b:=zbX O.net ih k
  rw [ih k hk fk,zd0 O]
  simp
  omega
theorem zka (O:YOk c n ls) {h:Nat→Int} (ne:∃ i,i < n∧UI ls n h (n + 1) i=true):Forb n (tieB ls) h (UI ls n h (n + 1)):=⟨ne,fun i hi fi=>by
 have:=zaL (zbJ ls n h) i hi
 unfold CI at this
 rw [fi,zd0 O] at this
 simpa using this⟩
theorem ze2 (O:YOk c n ls) {k:Nat} (hk:k < n) {p:Nat→Int} (la:Last n (tieB ls) (fill (SZ n ls) k p)) {x:Int} (hx:0 ≤ x):Last n (tieB ls) (setI (fill (SZ n ls) k p) k x) ↔ leaI n ls k p ≤ x :=
 zgJ O.net hk la (fun F f i hi fi=>ziI O f _ i hi fi) (fun ne=>zka O ne) hx
noncomputable def pf (p:List Int) (j:Nat):Int:=p.getD j 0
theorem zlv (p:List Int):vD p.length (pf p)=p.map PyData.int:=by
 apply List.ext_getElem?
 intro i
 by_cases h:i < p.length
 ·rw [we h,List.getElem?_map,List.getElem?_eq_getElem h]
  simp [pf,h]
 ·rw [List.getElem?_eq_none (by rw [jH];omega),List.getElem?_eq_none (by rw [List.length_map];omega)]
theorem zcc (p:List Int) (x:Int) (j:Nat):pf (p ++ [x]) j=if j < p.length then pf p j else if j=p.length then x else 0:=by
 unfold pf
 rw [List.getD_eq_getElem?_getD,List.getD_eq_getElem?_getD]
 by_cases a:j < p.length
 ·rw [if_pos a,List.getElem?_append_left a]
 ·rw [if_neg a,List.getElem?_append_right (by omega)]
  by_cases b:j=p.length
  ·rw [if_pos b,b,Nat.sub_self];rfl
  ·rw [if_neg b,List.getElem?_eq_none (by simp;omega)];rfl
noncomputable def qS (n:Nat) (ls:List (Int × Int × Int)) (k:Nat) (p:List Int):List (List Int):=(List.range (SZ n ls k - leaI n ls k (pf p)).toNat).map fun (i:Nat)=>p ++ [leaI n ls k (pf p) + (i:Int)]
noncomputable def lasL (n:Nat) (ls:List (Int × Int × Int)):Nat→List (List Int)
 | 0=>[[]]
 | k + 1=>(lasL n ls k).flatMap (qS n ls k)
structure Good (n:Nat) (ls:List (Int × Int × Int)) (k:Nat) (p:List Int):Prop where
 len:p.length=k
 rg:∀ j,j < k→0 ≤ pf p j∧pf p j < SZ n ls j
 la:Last n (tieB ls) (fill (SZ n ls) k (pf p))
theorem zbe (k:Nat) (p:List Int) (hp:p.length=k) (x:Int) (j:Nat):fill (SZ n ls) (k + 1) (pf (p ++ [x])) j=setI (fill (SZ n ls) k (pf p)) k x j:=by
 unfold fill setI
 rw [zcc,hp]
 by_cases a:j < k
 ·rw [if_pos (by omega),if_pos a,if_neg (by omega)]
  exact (if_pos a).symm
 ·by_cases b:j=k
  ·rw [if_pos (by omega),if_neg a,if_pos b,if_pos b]
  ·rw [if_neg (by omega),if_neg b]
   exact (if_neg a).symm
theorem yj (O:YOk c n ls):∀ {k:Nat},k ≤ n→∀ q,q ∈ lasL n ls k ↔ Good n ls k q
 | 0,_,q=>by
  show q ∈ [[]] ↔ _
  rw [List.mem_singleton]
  constructor
  ·rintro rfl
   exact ⟨rfl,fun j hj=>absurd hj (by omega),jP (fun j _=>by unfold fill;rw [if_neg (by omega)]) (zeF O.net)⟩
  ·intro g
   exact List.length_eq_zero_iff.mp g.len
 | k + 1,hk,q=>by
  show q ∈ (lasL n ls k).flatMap (qS n ls k) ↔ _
  rw [List.mem_flatMap]
  constructor
  ·rintro ⟨p,hp,hq⟩
   have gp:=(yj O (by omega) p).mp hp
   obtain ⟨i,hi,rfl⟩:=List.mem_map.mp hq
   have hi:=List.mem_range.mp hi
   have l0:0 ≤ leaI n ls k (pf p):=ziE O.net _ _
   have pl:=gp.len
   refine ⟨by rw [List.length_append,gp.len];rfl,fun j hj => ?_,?_⟩
   ·rw [zcc,pl]
    by_cases a:j < k
    ·rw [if_pos a];exact gp.rg j a
    ·have:j=k:=by omega
     subst this
     rw [if_neg a,if_pos rfl]
     omega
   ·exact jP (fun j _=>(zbe k p pl _ j).symm) ((ze2 O (by omega) gp.la (by omega)).mpr (by omega))
  ·intro g
   have hl:=g.len
   let p:=q.take k
   have pl:p.length=k:=by simp [p];omega
   have eq:q=p ++ [pf q k]:=by
    apply List.ext_getElem?
    intro i
    by_cases a:i < k
    ·rw [List.getElem?_append_left (by omega),List.getElem?_take,if_pos a]
    ·by_cases b:i=k
     ·rw [List.getElem?_append_right (by omega),pl,b,Nat.sub_self]
      simp [pf,hl]
     ·rw [List.getElem?_eq_none (by omega),List.getElem?_eq_none (by rw [List.length_append,pl];simp;omega)]
   have pj:∀ j,j < k→pf p j=pf q j:=fun j hj=>by
    rw [eq,zcc,pl,if_pos hj]
   have xk:=g.rg k (by omega)
   have lq:=g.la
   rw [eq] at lq
   have l1:Last n (tieB ls) (setI (fill (SZ n ls) k (pf p)) k (pf q k)):=jP (fun j _=>zbe k p pl _ j) lq
   have l2:Last n (tieB ls) (fill (SZ n ls) k (pf p)):=ze1 (fun j _=>by
    unfold setI fill
    by_cases a:j=k
    ·subst a;rw [if_pos rfl,if_neg (by omega)];omega
    ·rw [if_neg a];omega) l1
   have gp:Good n ls k p:=⟨pl,fun j hj=>by rw [pj j hj];exact g.rg j (by omega),l2⟩
   have le:=(ze2 O (by omega) l2 xk.1).mp l1
   refine ⟨p,(yj O (by omega) p).mpr gp,List.mem_map.mpr ⟨(pf q k - leaI n ls k (pf p)).toNat,List.mem_range.mpr (by omega),?_⟩⟩
   rw [show leaI n ls k (pf p) + ((pf q k - leaI n ls k (pf p)).toNat:Int)=pf q k by omega]
   exact eq.symm
theorem vP (O:YOk c n ls):∀ {k:Nat},k ≤ n→(lasL n ls k).Nodup
 | 0,_=>by show [[]].Nodup;simp
 | k + 1,hk=>by
  have ih:=vP O (k:=k) (by omega)
  show ((lasL n ls k).flatMap (qS n ls k)).Nodup
  unfold List.Nodup
  rw [List.pairwise_flatMap]
  refine ⟨fun p _ => ?_,ih.imp_of_mem fun {p q} hp hq ne x hx y hy e => ?_⟩
  ·unfold qS
   refine List.Pairwise.map (R:=fun i j=>i < j) _ (fun i j h e => ?_) List.pairwise_lt_range
   have:=List.append_cancel_left e
   simp at this
   omega
  ·obtain ⟨i,_,rfl⟩:=List.mem_map.mp hx
   obtain ⟨j,_,rfl⟩:=List.mem_map.mp hy
   have lp:=((yj O (by omega) p).mp hp).len
   have lq:=((yj O (by omega) q).mp hq).len
   exact ne (List.append_inj_left e (by omega))
end L2.Y
namespace L2.Y
open PySem L2.Sd
variable {c:Int} {n:Nat} {ls:List (Int × Int × Int)}
theorem zdl (O:YOk c n ls):F_fullest [zp c ls]=some (.tuple (vD n fun k=>SZ n ls k - 1)):=by
 have hn:=O.en
 unfold F_fullest
 refine zB ?_
 show vd [some (.val (zp c ls))]=_
 unfold vd
 exact zX (zu (za (jz (zL (ds:=vD n (SZ n ls)) (qJ (zu (za (x:=zp c ls) rfl zg) (by rw [xn];exact O.sizes)) rfl) (by rw [jH];omega) (jm _ _ fun k hk=>⟨[vI (SZ n ls k)],rfl,zy (x:=.int (SZ n ls k)) rfl zI (wU _ _)⟩))) zg) (zN _))
theorem zie (O:YOk c n ls) {k:Nat} (hk:k < n) (p:Nat→Int):0 ≤ leaI n ls k p∧leaI n ls k p < 1073741824:=by
 refine ⟨ziE O.net _ _,?_⟩
 have:=O.sz k hk
 have e:szB n (tieB ls) k=tieB ls (k + 1) 0 + sm n fun j=>tieB ls (k + 1) (j + 1):=xl n _
 have a:=O.net.nn (k + 1) 0
 have b:leaI n ls k p ≤ sm n fun j=>tieB ls (k + 1) (j + 1):=zci fun j hj=>by
  show (if UI ls n (h0I n ls k p) (n + 1) j then tieB ls (k + 1) (j + 1) else 0) ≤ _
  have:=O.net.nn (k + 1) (j + 1)
  split <;> omega
 omega
theorem ze8 (O:YOk c n ls) (hs:∀ i,i < n→SZ n ls i ≤ 1000) {k:Nat} (hk:k < n) {p:List Int} (g:Good n ls k p):F_one_heap_longer [zp c ls,trD p,.tuple (vD n fun j=>SZ n ls j - 1)]=some (.list ((qS n ls k p).map trD)):=by
 have hn:=O.en
 have pl:=g.len
 have eP:trD p=.tuple (vD k (pf p)):=by unfold trD;rw [← zlv,pl]
 let Y:Option En:=some (.val (zp c ls))
 let P:Option En:=some (.val (trD p))
 let Fu:Option En:=some (.val (.tuple (vD n fun j=>SZ n ls j - 1)))
 obtain ⟨l0,l1⟩:=zie O hk (pf p)
 have sk:=O.sz k hk
 have s1:(1:Int) ≤ SZ n ls k:=O.net.size_pos k hk
 have es:slD (.tuple (vD n fun j=>SZ n ls j - 1)) (some ((k:Int) + 1)) none=some (.tuple ((vD n fun j=>SZ n ls j - 1).drop (k + 1))):=by
  show some (PyData.tuple (cutD _ (some ((k + 1:Nat):Int)) none))=_
  rw [xG _ _ (by rw [jH];omega)]
 have ei:ixD (.tuple (vD n fun j=>SZ n ls j - 1)) (.int k)=some (.int (SZ n ls k - 1)):=by
  have:=zh0 (n:=n) (f:=fun j=>SZ n ls j - 1) (j:=k) (by omega) (by omega)
  rwa [show ((k:Int).toNat)=k by omega] at this
 have er:qE [.int (leaI n ls k (pf p)),.int (SZ n ls k - 1 + 1)]=some ((List.range (SZ n ls k - leaI n ls k (pf p)).toNat).map fun (i:Nat)=>(.int (leaI n ls k (pf p) + (i:Int)):D)):=by
  have:SZ n ls k < 1073741824:=sk
  rw [qU (by omega) (by omega) (by omega) (by omega),show SZ n ls k - 1 + 1 - leaI n ls k (pf p)=SZ n ls k - leaI n ls k (pf p) by omega]
  rfl
 unfold F_one_heap_longer
 refine zB ?_
 show qb [Y,P,Fu,none,none]=_
 unfold qb
 rw [zm (ρ':=[Y,P,Fu,vI k,none]) (zG (d:=.int k) (zu (za (x:=trD p) rfl zg) (by
  show some (PyData.int ((p.map PyData.int).length:Nat))=_
  rw [List.length_map,pl])) rfl),
  zm (ρ':=[Y,P,Fu,vI k,vI (leaI n ls k (pf p))]) (zG (zu (za (x:=zp c ls) rfl (za (x:=trD p) rfl (za (yz (d:=.tuple (vD n fun j=>SZ n ls j - 1)) rfl (qr (zy (x:=.int k) rfl zI (zH _ _))) rfl es) zg))) (by rw [jN,eP];exact zg2 O hk (pf p) g.rg)) rfl)]
 refine zX (jz (zL (jt (za (x:=.int (leaI n ls k (pf p))) rfl (za (zy (zy (x:=.tuple (vD n fun j=>SZ n ls j - 1)) rfl (y:=.int k) rfl ei) zI (zH _ _)) zg)) er) (by rw [List.length_map,List.length_range];have:=hs k hk;omega) ?_))
 unfold qS
 rw [List.map_map]
 refine jm _ _ fun i hi=>⟨[vI (leaI n ls k (pf p) + i),P],rfl,zy (x:=trD p) rfl (zu (za (x:=.int (leaI n ls k (pf p) + i)) rfl zg) (zjT _)) ?_⟩
 unfold trD
 rw [zbV (by rw [List.length_map,pl];simp;omega)]
 show _=some (PyData.tuple (List.map PyData.int (p ++ [leaI n ls k (pf p) + (i:Int)])))
 rw [List.map_append]
 rfl
theorem zjH {i:Nat} {g:Env'→Option D} {ρ:Env'} {ds es:List D} (h1:g ρ=some (.list es)) (h2:ρ[i]?=some (some (.own (.list ds)))) (h3:ds.length + es.length ≤ 16777216):sExt i g ρ=some (.nxt (ρ.set i (some (.own (.list (ds ++ es)))))):=by
 unfold sExt ownL
 rw [h1,Option.bind_some,h2]
 exact if_pos h3
theorem zeE {α β:Type} (f:α→List β) (l:List α) (i:Nat):((l.take i).flatMap f).length ≤ (l.flatMap f).length:=by
 rw [show l.flatMap f=(l.take i).flatMap f ++ (l.drop i).flatMap f by rw [← List.flatMap_append,List.take_append_drop],List.length_append]
 omega
theorem ziW (O:YOk c n ls) (hs:∀ i,i < n→SZ n ls i ≤ 1000) (hb:∀ k,k ≤ n→(lasL n ls k).length ≤ 16777216):F_lasting [zp c ls]=some (.tuple ((lasL n ls n).map trD)):=by
 have hn:=O.en
 have hc:=O.ec
 let Y:Option En:=some (.val (zp c ls))
 let Fu:Option En:=some (.val (.tuple (vD n fun j=>SZ n ls j - 1)))
 have er:wK [.int c]=some (zT 0 n):=by
  rw [ke (by omega) (by omega)]
  congr 2
  omega
 obtain ⟨ρ1,e1,x3,x4,x5,hr⟩:=jI (h:=hName 3) (gb:=wg) (fun i ρ=>∃ x3 x4 x5,ρ=[Y,Fu,some (.val (.list ((lasL n ls i).map trD))),x3,x4,x5]) (zT 0 n) 0 [Y,Fu,some (.val (.list ((lasL n ls 0).map trD))),none,none,none] ⟨none,none,none,rfl⟩ (by
  rintro k d ρ hd ⟨x3,x4,x5,rfl⟩
  have hk:k < n:=by
   have:=(List.getElem?_eq_some_iff.mp hd).1
   rwa [jp] at this
  rw [Nat.zero_add]
  let St:Option En:=some (.val (.list ((lasL n ls k).map trD)))
  let D3:Option En:=some (.val d)
  obtain ⟨ρ2,e2,y5,hr2⟩:=jI (h:=hName 5) (gb:=wf) (fun i ρ=>∃ y5,ρ=[Y,Fu,St,D3,some (.own (.list ((((lasL n ls k).take i).flatMap (qS n ls k)).map trD))),y5]) ((lasL n ls k).map trD) 0 [Y,Fu,St,D3,some (.own (.list [])),x5] ⟨x5,rfl⟩ (by
   rintro i d' ρ hd' ⟨y5,rfl⟩
   rw [Nat.zero_add]
   rw [List.getElem?_map] at hd'
   cases hp:(lasL n ls k)[i]? with
   | none=>rw [hp] at hd';cases hd'
   | some p =>
    rw [hp] at hd'
    obtain rfl:trD p=d':=Option.some.inj hd'
    have g:=(yj O (by omega) p).mp (List.mem_of_getElem? hp)
    have et:(lasL n ls k).take (i + 1)=(lasL n ls k).take i ++ [p]:=by rw [List.take_add_one,hp];rfl
    refine ⟨_,[Y,Fu,St,D3,some (.own (.list ((((lasL n ls k).take (i + 1)).flatMap (qS n ls k)).map trD))),some (.val (trD p))],rfl,?_,some (.val (trD p)),rfl⟩
    unfold wf
    have bd:((((lasL n ls k).take i).flatMap (qS n ls k)).map trD).length + ((qS n ls k p).map trD).length ≤ 16777216:=by
     rw [List.length_map,List.length_map]
     have:=zeE (qS n ls k) (lasL n ls k) (i + 1)
     rw [et,List.flatMap_append,List.length_append] at this
     have h2:=hb (k + 1) (by omega)
     have h3:(lasL n ls (k + 1)).length=((lasL n ls k).flatMap (qS n ls k)).length:=rfl
     rw [show [p].flatMap (qS n ls k)=qS n ls k p by simp] at this
     omega
    have:=zjH (i:=4) (g:=gA (zt 3 F_one_heap_longer) (zc (gVar 0) (zc (gVar 5) (zc (gVar 1) gNil)))) (ρ:=[Y,Fu,St,D3,some (.own (.list ((((lasL n ls k).take i).flatMap (qS n ls k)).map trD))),some (.val (trD p))]) (zu (za (x:=zp c ls) rfl (za (x:=trD p) rfl (za (x:=.tuple (vD n fun j=>SZ n ls j - 1)) rfl zg))) (by rw [jN];exact ze8 O hs hk g)) rfl bd
    refine this.trans ?_
    rw [et,List.flatMap_append,List.map_append,show [p].flatMap (qS n ls k)=qS n ls k p by simp]
    rfl)
  subst hr2
  rw [Nat.zero_add,List.length_map,List.take_length] at e2
  refine ⟨_,[Y,Fu,some (.val (.list ((lasL n ls (k + 1)).map trD))),D3,some (.val (.list ((lasL n ls (k + 1)).map trD))),y5],rfl,?_,_,_,_,rfl⟩
  unfold wg
  rw [zm (ρ':=[Y,Fu,St,D3,some (.own (.list [])),x5]) rfl,zm (qL (qJ (x:=.list ((lasL n ls k).map trD)) rfl (wN _)) e2)]
  rfl)
 subst hr
 rw [Nat.zero_add,jp] at e1
 unfold F_lasting
 refine zB ?_
 show ve [Y,none,none,none,none,none]=_
 unfold ve
 rw [zm (ρ':=[Y,Fu,none,none,none,none]) (zG (zu (za (x:=zp c ls) rfl zg) (by rw [xn];exact zdl O)) rfl),
  zm (ρ':=[Y,Fu,some (.val (.list ((lasL n ls 0).map trD))),none,none,none]) (zG (jz (vG (za (zu zg rfl) zg) (by simp))) rfl),
  zm (qL (jt (za (zy (x:=zp c ls) rfl zI (jA _ _)) zg) er) e1)]
 exact zX (zu (za (x:=.list ((lasL n ls n).map trD)) rfl zg) (zN _))
end L2.Y
namespace L2.Y
open PySem L2.Sd
theorem absI (a:Int):(if a < 0 then -a else a)=(a.natAbs:Int):=by split <;> omega
theorem zkb (a b:Int):F_common_divisor [.int a,.int b]=some (.int (Int.gcd a b)):=by
 obtain ⟨ρ',e,x4,hr⟩:=yv (c:=gBo (g2 neD (gVar 3) (gK (.int 0)))) (gb:=jS) (fun m ρ=>∃ (x y:Nat) (x4:Option En),m=y∧Nat.gcd x y=Int.gcd a b∧ρ=[vI a,vI b,vI (x:Int),vI (y:Int),x4])
  (fun ρ=>∃ x4,ρ=[vI a,vI b,vI (Int.gcd a b:Int),vI 0,x4])
  (fun m ρ hZq=>by
   obtain ⟨x,y,x4,hm,hg,hr⟩:=hZq
   subst hr
   have ec:gBo (g2 neD (gVar 3) (gK (.int 0))) [vI a,vI b,vI (x:Int),vI (y:Int),x4]=some (!decide ((y:Int)=0)):=jO (zy (x:=.int y) rfl zI (zb6 _ _))
   by_cases z:y=0
   ·subst z
    rw [Nat.gcd_zero_right] at hg
    refine .inl ⟨by rw [ec];simp,x4,?_⟩
    rw [← hg]
    rfl
   ·refine .inr ⟨by rw [ec,decide_eq_false (by omega)];rfl,[vI a,vI b,vI (y:Int),vI ((x % y:Nat):Int),vI ((x % y:Nat):Int)],x % y,?_,by rw [hm];exact Nat.mod_lt _ (by omega),y,x % y,_,rfl,?_,rfl⟩
    ·unfold jS
     rw [zm (ρ':=[vI a,vI b,vI (x:Int),vI (y:Int),vI ((x % y:Nat):Int)]) (zG (zy (x:=.int x) rfl (y:=.int y) rfl (by rw [ja (by omega)];rfl)) rfl)]
     rfl
    ·rw [← hg,Nat.gcd_comm x y,Nat.gcd_rec y x,Nat.gcd_comm])
  b.natAbs [vI a,vI b,vI (a.natAbs:Int),vI (b.natAbs:Int),none] ⟨a.natAbs,b.natAbs,none,rfl,rfl,rfl⟩
 subst hr
 unfold F_common_divisor
 refine zB ?_
 show qx [vI a,vI b,none,none,none]=_
 unfold qx
 rw [zm (ρ':=[vI a,vI b,vI (a.natAbs:Int),none,none]) (zG (zu (za (x:=.int a) rfl zg) (by show some (PyData.int (if a < 0 then -a else a))=_;rw [absI])) rfl),
  zm (ρ':=[vI a,vI b,vI (a.natAbs:Int),vI (b.natAbs:Int),none]) (zG (zu (za (x:=.int b) rfl zg) (by show some (PyData.int (if b < 0 then -b else b))=_;rw [absI])) rfl),
  zm (kg e)]
 rfl
end L2.Y
namespace L2.Y
open PySem L2.Sd
variable {c:Int} {n:Nat} {ls:List (Int × Int × Int)}
noncomputable def gF (g:Int) (l:List Int):Int:=l.foldl (fun g p=>(Int.gcd g p:Int)) g
theorem zcB:∀ (l:List Int) (g:Int),gF g l ∣ g∧∀ p,p ∈ l→gF g l ∣ p
 | [],g=>⟨Int.dvd_refl _,fun p h=>absurd h (by simp)⟩
 | x :: l,g=>by
  obtain ⟨a,b⟩:=zcB l (Int.gcd g x:Int)
  have e:gF g (x :: l)=gF (Int.gcd g x:Int) l:=rfl
  rw [e]
  refine ⟨Int.dvd_trans a (Int.gcd_dvd_left ..),fun p hp => ?_⟩
  rcases List.mem_cons.mp hp with rfl | hp
  ·exact Int.dvd_trans a (Int.gcd_dvd_right ..)
  ·exact b p hp
theorem zia {D m:Int}:∀ (l:List Int) (g:Int),D ∣ m * g→(∀ p,p ∈ l→D ∣ m * p)→D ∣ m * gF g l
 | [],g,h,_=>h
 | x :: l,g,h,hl=>by
  refine zia l _ ?_ fun p hp=>hl p (List.mem_cons_of_mem _ hp)
  have h2:=hl x List.mem_cons_self
  have:D ∣ (Int.gcd (m * g) (m * x):Int):=Int.dvd_coe_gcd h h2
  rw [Int.gcd_mul_left] at this
  have e:((m.natAbs * Int.gcd g x:Nat):Int)=(m.natAbs:Int) * (Int.gcd g x:Int):=by simp
  rw [e] at this
  rcases Int.natAbs_eq m with q | q
  ·rw [q];exact this
  ·rw [q,Int.neg_mul];exact Int.dvd_neg.mpr this
theorem zjb {D m:Int} (hD:D ≠ 0) (l:List Int) (hl:gF D l ≥ 0):(∀ p,p ∈ l→D ∣ m * p) ↔ (D.natAbs:Int) / gF D l ∣ m:=by
 obtain ⟨a,b⟩:=zcB l D
 have g0:gF D l ≠ 0:=fun z=>by rw [z] at a;exact hD (Int.zero_dvd.mp a)
 have ad:gF D l ∣ (D.natAbs:Int):=Int.dvd_natAbs.mpr a
 obtain ⟨o,ho⟩:=ad
 have eo:(D.natAbs:Int) / gF D l=o:=by rw [ho];exact Int.mul_ediv_cancel_left _ g0
 rw [eo]
 constructor
 ·intro h
  have:=zia (D:=D) (m:=m) l D (Int.dvd_mul_left ..) h
  have:(D.natAbs:Int) ∣ m * gF D l:=Int.natAbs_dvd.mpr this
  rw [ho,Int.mul_comm m] at this
  exact Int.dvd_of_mul_dvd_mul_left g0 this
 ·rintro ⟨q,rfl⟩ p hp
  obtain ⟨r,hr⟩:=b p hp
  have:(D.natAbs:Int) ∣ o * q * p:=⟨q * r,by rw [hr,ho];grind⟩
  exact Int.natAbs_dvd.mp this
end L2.Y
namespace L2.Y
open PySem L2.Sd
variable {c:Int} {n:Nat} {ls:List (Int × Int × Int)}
theorem smb {C:Int}:∀ {n:Nat} {f:Nat→Int},(∀ k,k < n→-C ≤ f k∧f k ≤ C)→-(n * C) ≤ sm n f∧sm n f ≤ n * C
 | 0,_,_=>by rw [yq];simp
 | n + 1,f,h=>by
  obtain ⟨a,b⟩:=smb (n:=n) fun k hk=>h k (by omega)
  have q:=h n (by omega)
  rw [zY,show ((n + 1:Nat):Int)=(n:Int) + 1 by omega,Int.add_mul,Int.one_mul]
  omega
noncomputable def bdI (C:Int):Nat→Int
 | 0=>1
 | n + 1=>((n + 1:Nat):Int) * (C * bdI C n)
theorem zkp {a b A B:Int} (ha:-A ≤ a∧a ≤ A) (hb:-B ≤ b∧b ≤ B):-(A * B) ≤ a * b∧a * b ≤ A * B:=by
 have h1:=Int.mul_nonneg (show 0 ≤ A - a by omega) (show 0 ≤ B - b by omega)
 have h2:=Int.mul_nonneg (show 0 ≤ A + a by omega) (show 0 ≤ B + b by omega)
 have h3:=Int.mul_nonneg (show 0 ≤ A - a by omega) (show 0 ≤ B + b by omega)
 have h4:=Int.mul_nonneg (show 0 ≤ A + a by omega) (show 0 ≤ B - b by omega)
 simp only [Int.sub_mul,Int.add_mul,Int.mul_sub,Int.mul_add] at h1 h2 h3 h4
 omega
theorem zj4 {C:Int} (hC:0 ≤ C):∀ (n:Nat) (A:Nat→Nat→Int),(∀ p q,p < n→q < n→-C ≤ A p q∧A p q ≤ C)→-(bdI C n) ≤ dC n A∧dC n A ≤ bdI C n
 | 0,A,_=>by show -(1:Int) ≤ 1∧(1:Int) ≤ 1;omega
 | n + 1,A,h=>by
  show -(((n + 1:Nat):Int) * (C * bdI C n)) ≤ sm (n + 1) _∧sm (n + 1) _ ≤ ((n + 1:Nat):Int) * (C * bdI C n)
  refine smb fun i hi => ?_
  have ih:=zj4 hC n (fun p q=>A (up i p) (q + 1)) fun p q hp hq=>h _ _ (zcl hi hp) (by omega)
  have e:=zkp (h i 0 hi (by omega)) ih
  rw [Int.mul_assoc]
  split <;> omega
noncomputable def ordI (n:Nat) (ls:List (Int × Int × Int)) (a:Nat→Int):Int:=((dC n (RR n ls)).natAbs:Int) / gF (dC n (RR n ls)) ((List.range n).map fun k=>dC n (rowAt (RR n ls) k a))
theorem zbB (O:YOk c n ls) {a:Nat→Int} (as:∀ j,j < n→a j < SZ n ls j) (la:Last n (tieB ls) a):F_refuse_unless_lasting [zp c ls,.tuple (vD n a)]=some .none:=by
 have bl:xm n (szB n (tieB ls)) a=true:=xi.mpr as
 have e1:=zco O a
 rw [bl] at e1
 have e2:=zdq O a bl
 rw [zgW,(zgX O a).mpr la] at e2
 let Y:Option En:=some (.val (zp c ls))
 let A:Option En:=some (.val (.tuple (vD n a)))
 have ec:gOrT (wz (gTr (gA (zt 2 F_rests) (zc (gVar 0) (zc (gVar 1) gNil))))) (wz (gTr (gA (zt 2 F_is_lasting) (zc (gVar 0) (zc (gVar 1) gNil))))) [Y,A]=some false :=
  yg (a:=false) (b:=false) (wA (b:=true) (zbh (zu (za (x:=zp c ls) rfl (za (x:=.tuple (vD n a)) rfl zg)) (by rw [zQ];exact e1)))) fun _=>wA (b:=true) (zbh (zu (za (x:=zp c ls) rfl (za (x:=.tuple (vD n a)) rfl zg)) (by rw [zQ];exact e2)))
 unfold F_refuse_unless_lasting jn
 show (jr [Y,A]).bind _=_
 unfold jr
 rw [kB ec]
 rfl
theorem zgF:∀ (l:List Int) (g:Int),l ≠ []→0 ≤ gF g l
 | [],_,h=>absurd rfl h
 | [x],g,_=>by show (0:Int) ≤ (Int.gcd g x:Int);omega
 | x :: y :: l,g,_=>zgF (y :: l) (Int.gcd g x:Int) (by simp)
theorem zha (O:YOk c n ls) (h1:1 ≤ n) (h5:n ≤ 5) (hC:∀ i j,i < n→j < n→-16 ≤ RR n ls i j∧RR n ls i j ≤ 16) {a:Nat→Int} (a0:∀ j,j < n→0 ≤ a j) (as:∀ j,j < n→a j < SZ n ls j) (la:Last n (tieB ls) a) :
  F_order_of [zp c ls,.tuple (vD n a)]=some (.int (ordI n ls a)):=by
 have hn:=O.en
 let Y:Option En:=some (.val (zp c ls))
 let A:Option En:=some (.val (.tuple (vD n a)))
 let W:=dC n (RR n ls)
 let ps:List Int:=(List.range n).map fun k=>dC n (rowAt (RR n ls) k a)
 have ne:W ≠ 0:=zba O.net
 have eP:vD n (fun k=>dC n (rowAt (RR n ls) k a))=ps.map PyData.int:=by
  show List.map _ _=List.map _ (List.map _ _)
  rw [List.map_map]
  rfl
 let P:Option En:=some (.val (.tuple (ps.map PyData.int)))
 obtain ⟨gd,_⟩:=zcB ps W
 have g0:gF W ps ≠ 0:=fun z=>by rw [z] at gd;exact ne (Int.zero_dvd.mp gd)
 have gn:0 ≤ gF W ps:=zgF ps W fun z=>by
  have:=congrArg List.length z
  simp [ps] at this
  omega
 have wb:=zj4 (C:=16) (by decide) n (RR n ls) hC
 have gb:gF W ps < 1073741824:=by
  have l1:gF W ps ≤ (W.natAbs:Int):=Int.le_of_dvd (by omega) (Int.dvd_natAbs.mpr gd)
  have b5:bdI 16 n ≤ 125829120:=by
   have:n=1 ∨ n=2 ∨ n=3 ∨ n=4 ∨ n=5:=by omega
   rcases this with rfl | rfl | rfl | rfl | rfl <;> decide
  have wb' : -(bdI 16 n) ≤ W∧W ≤ bdI 16 n:=wb
  omega
 obtain ⟨ρ1,e1,x5,hr⟩:=jI (h:=hName 5) (gb:=xt) (fun i ρ=>∃ x5,ρ=[Y,A,vI W,P,vI (gF W (ps.take i)),x5]) (ps.map PyData.int) 0 [Y,A,vI W,P,vI W,none] ⟨none,rfl⟩ (by
  rintro i d ρ hd ⟨x5,rfl⟩
  rw [Nat.zero_add]
  rw [List.getElem?_map] at hd
  cases hp:ps[i]? with
  | none=>rw [hp] at hd;cases hd
  | some p =>
   rw [hp] at hd
   obtain rfl:PyData.int p=d:=Option.some.inj hd
   have et:gF W (ps.take (i + 1))=(Int.gcd (gF W (ps.take i)) p:Int):=by
    unfold gF
    rw [List.take_add_one,hp,List.foldl_append]
    rfl
   refine ⟨_,[Y,A,vI W,P,vI (gF W (ps.take (i + 1))),vI p],rfl,?_,vI p,rfl⟩
   unfold xt
   rw [et]
   exact zG (zu (za (x:=.int (gF W (ps.take i))) rfl (za (x:=.int p) rfl zg)) (by rw [zQ];exact zkb _ _)) rfl)
 subst hr
 rw [Nat.zero_add,List.length_map,List.take_length] at e1
 unfold F_order_of
 refine zB ?_
 show yc [Y,A,none,none,none,none]=_
 unfold yc
 rw [zm (ρ':=[Y,A,none,none,none,none]) (by
  show ((gA (zt 2 F_refuse_unless_lasting) (zc (gVar 0) (zc (gVar 1) gNil)) [Y,A,none,none,none,none]).map fun _=>_)=_
  rw [zu (d:=.none) (za (x:=zp c ls) rfl (za (x:=.tuple (vD n a)) rfl zg)) (by rw [zQ];exact zbB O as la)]
  rfl),
  zm (ρ':=[Y,A,vI W,P,none,none]) (zG (zu (za (x:=zp c ls) rfl (za (x:=.tuple (vD n a)) rfl zg)) (by rw [zQ,zhQ O h1 h5 a (fun k hk=>by have:=a0 k hk;have:=as k hk;have:SZ n ls k < 1073741824:=O.sz k hk;omega) fun i j hi hj=>by have:=hC i j hi hj;omega])) (by rw [eP];rfl)),
  zm (ρ':=[Y,A,vI W,P,vI W,none]) rfl,zm (qL (qJ (x:=.tuple (ps.map PyData.int)) rfl (qG _)) e1)]
 exact zX (zy (zu (za (x:=.int W) rfl zg) (by show some (PyData.int (if W < 0 then -W else W))=_;rw [absI])) (y:=.int (gF W ps)) rfl (vF (by omega) gb))
end L2.Y
namespace L2.Y
open PySem L2.Sd
variable {c:Int} {n:Nat} {ls:List (Int × Int × Int)}
theorem kh (l:List Int):SeqAt.shaped (.list (l.map PyData.int))=true:=by
 have h1:PyData.canLayAll0 (l.map PyData.int)=true:=by
  induction l with
  | nil=>rfl
  | cons k l ih=>rw [List.map_cons,PyData.canLayAll0,ih];rfl
 have h2:PyData.depthAll (l.map PyData.int)=0:=by
  clear h1
  induction l with
  | nil=>rfl
  | cons k l ih=>rw [List.map_cons,PyData.depthAll,ih];rfl
 simp [SeqAt.shaped,PyData.canLay0,PyData.depth,h1,h2]
theorem zeA:∀ a b:List Int,PyData.eqvAll (a.map PyData.int) (b.map PyData.int)=decide (a=b)
 | [],[]=>by simp [PyData.eqvAll]
 | [],_ :: _=>by simp [PyData.eqvAll]
 | _ :: _,[]=>by simp [PyData.eqvAll]
 | x :: xs,y :: ys=>by
  have e:PyData.eqv (.int x) (.int y)=decide (x=y):=by
   by_cases h:x=y <;> simp [PyData.eqv,h]
  simp only [List.map_cons,PyData.eqvAll,e,zeA xs ys]
  by_cases e:x=y <;> by_cases e' : xs=ys <;> simp [e,e']
theorem zln (a b:List Int):neD (.list (a.map PyData.int)) (.list (b.map PyData.int))=some (.bool (!decide (a=b))):=by
 unfold neD
 rw [kh,kh,PyData.eqv,zeA]
 rfl
theorem zd7 (is:List Int):∀ m i,i ≤ m→is.getD (argBest (fun i j=>decide (is.getD i 0 < is.getD j 0)) m) 0 ≤ is.getD i 0
 | 0,i,h=>by rw [show i=0 by omega];exact Int.le_refl _
 | m + 1,i,h=>by
  have ih:=zd7 is m
  show is.getD (if decide (is.getD (m + 1) 0 < is.getD (argBest (fun i j=>decide (is.getD i 0 < is.getD j 0)) m) 0)=true then m + 1 else argBest (fun i j=>decide (is.getD i 0 < is.getD j 0)) m) 0 ≤ _
  by_cases q:is.getD (m + 1) 0 < is.getD (argBest (fun i j=>decide (is.getD i 0 < is.getD j 0)) m) 0
  ·rw [decide_eq_true q,if_pos rfl]
   by_cases e:i=m + 1
   ·rw [e];exact Int.le_refl _
   ·have:=ih i (by omega);omega
  ·rw [decide_eq_false q,if_neg (by decide)]
   by_cases e:i=m + 1
   ·rw [e];omega
   ·exact ih i (by omega)
theorem zi4 (f:Nat→Int) {n k:Nat} (hk:k < n):minA ((List.range n).map f) ≤ f k:=by
 unfold minA
 have:=zd7 ((List.range n).map f) (n - 1) k (by omega)
 rw [List.length_map,List.length_range]
 refine Int.le_trans this (Int.le_of_eq ?_)
 simp [List.getD_eq_getElem?_getD,hk]
structure HomeOk (n:Nat) (ls:List (Int × Int × Int)) (g r:Nat→Int):Prop where
 nn:∀ j,j < n→0 ≤ r j
 lt:∀ j,j < n→r j < SZ n ls j
 last:Last n (tieB ls) r
 lik:∃ z,∀ j,j < n→r j=g j + fire n (RR n ls) z j
theorem zgN (O:YOk c n ls) (h1:1 ≤ n) (g:Nat→Int):∃ r,F_home [zp c ls,.tuple (vD n g)]=some (.tuple (vD n r))∧HomeOk n ls g r:=by
 have hn:=O.en
 obtain ⟨e,σ,el,L⟩:=ze7 O
 have eb:∀ k,k < n→-(2 ^ 64) < e k∧e k < 2 ^ 64:=fun k hk=>by have:=L.eq k hk;have:=L.lt k hk;have:=L.nn k hk;have:SZ n ls k < 1073741824:=O.sz k hk;omega
 have e0:∀ k,k < n→SZ n ls k ≤ e k∧1 ≤ e k:=fun k hk=>by have:=L.eq k hk;have:=L.lt k hk;have:=L.nn k hk;have:=O.net.size_pos k hk;omega
 let mn:=minA ((List.range n).map g)
 let o:Int:=1 + (if -mn > 0 then -mn else 0)
 have o1:1 ≤ o:=by show 1 ≤ 1 + (if -mn > 0 then -mn else 0);split <;> omega
 have o2:∀ k,k < n→0 ≤ g k + (o - 1):=fun k hk=>by
  have:mn ≤ g k:=zi4 g hk
  show 0 ≤ g k + (1 + (if -mn > 0 then -mn else 0) - 1)
  split <;> omega
 have big:∀ k,k < n→SZ n ls k ≤ g k + e k * o:=fun k hk=>by
  have a:=o2 k hk
  obtain ⟨b1,b2⟩:=e0 k hk
  have:=Int.mul_le_mul_of_nonneg_left b2 (show 0 ≤ o - 1 by omega)
  have e2:e k * o=(o - 1) * e k + e k:=by rw [Int.sub_mul,Int.one_mul,Int.mul_comm];omega
  rw [e2]
  rw [Int.mul_one] at this
  omega
 obtain ⟨t,S⟩:=zaN O (fun k=>g k + e k * o) fun j hj=>by have:=big j hj;have:=O.net.size_pos j hj;show 0 ≤ g j + e j * o;have:(1:Int) ≤ SZ n ls j:=O.net.size_pos j hj;omega
 refine ⟨_,?_,S.nn,S.odo.br.2,zaF O.net big S.odo,?_⟩
 ·have em:zg7 [.tuple (vD n g)]=some (.int mn):=by
   show (wB (vD n g)).bind _=_
   rw [zgP,Option.bind_some,if_neg fun z=>by
    have:=congrArg List.length z
    rw [List.length_map,List.length_range] at this
    simp at this
    omega]
  unfold F_home
  refine zB ?_
  let Y:Option En:=some (.val (zp c ls))
  let G:Option En:=some (.val (.tuple (vD n g)))
  show zdR [Y,G,none]=_
  unfold zdR
  rw [zm (ρ':=[Y,G,vI o]) (zG (zy zI (zu (za zI (za (zeG (zu (za (x:=.tuple (vD n g)) rfl zg) em) (yS _)) zg)) rfl) (zH _ _)) rfl)]
  exact zX (zy (zu (za (x:=zp c ls) rfl (za (zu (za (x:=.tuple (vD n g)) rfl (za (zu (za (x:=zp c ls) rfl zg) (by rw [xn];exact el)) (za (x:=.int o) rfl zg))) (by rw [jN];exact kK n hn g e o eb)) zg)) (by rw [zQ];exact S.ev)) zI rfl)
 ·obtain ⟨y,oy,ey⟩:=L.rst
  refine ⟨fun k=>t k + (-o) * y k,fun j hj => ?_⟩
  have a:=ey j hj
  have b:=L.eq j hj
  rw [xI] at a ⊢
  rw [xU,qz]
  have:e j=-fire n (RR n ls) y j:=by omega
  have q:fire n (chB n (tieB ls)) t j=fire n (RR n ls) t j:=rfl
  rw [this,q,Int.neg_mul,Int.neg_mul,Int.mul_comm o]
  omega
end L2.Y
namespace L2.Y
open PySem L2.Sd
theorem zkS {c:Int} {n:Nat} {ls:List (Int × Int × Int)} (O:YOk c n ls) {f g t:Nat→Int} (S:Sets c n ls (fun k=>f k + g k) t):F_put [zp c ls,.tuple (vD n f),.tuple (vD n g)]=some (.tuple (vD n (fc n (chB n (tieB ls)) (fun k=>f k + g k) t))):=by
 have hn:=O.en
 unfold F_put
 refine zB ?_
 show ziz [some (.val (zp c ls)),some (.val (.tuple (vD n f))),some (.val (.tuple (vD n g))),none]=_
 unfold ziz
 rw [zm (ρ':=[some (.val (zp c ls)),some (.val (.tuple (vD n f))),some (.val (.tuple (vD n g))),some (.val (.tuple (vD n fun k=>f k + g k)))]) (zG (zu (za (jz (zL (jt (za (x:=.tuple (vD n f)) rfl (za (x:=.tuple (vD n g)) rfl zg)) (kx n f g)) (by simp;omega)
  (jm _ (fun k=>.int (f k + g k)) fun k hk=>⟨[vI (f k),vI (g k)],rfl,zy (x:=.int (f k)) rfl (y:=.int (g k)) rfl (zH _ _)⟩))) zg) (zN _)) rfl)]
 exact zX (zy (zu (za (x:=zp c ls) rfl (za (x:=.tuple (vD n fun k=>f k + g k)) rfl zg)) (by rw [zQ];exact S.ev)) zI rfl)
end L2.Y
namespace L2.Y
open PySem L2.Sd
variable {c:Int} {n:Nat} {ls:List (Int × Int × Int)}
structure Lst (n:Nat) (ls:List (Int × Int × Int)) (r:Nat→Int):Prop where
 nn:∀ j,j < n→0 ≤ r j
 lt:∀ j,j < n→r j < SZ n ls j
 last:Last n (tieB ls) r
noncomputable def Lik (n:Nat) (ls:List (Int × Int × Int)) (f g:Nat→Int):Prop:=∃ z,∀ j,j < n→g j=f j + fire n (RR n ls) z j
theorem Lik.refl (f:Nat→Int):Lik n ls f f:=⟨fun _=>0 * 0,fun j hj=>by rw [qz];omega⟩
theorem Lik.symm {f g:Nat→Int} (h:Lik n ls f g):Lik n ls g f:=by
 obtain ⟨z,hz⟩:=h
 exact ⟨fun k=>(-1) * z k,fun j hj=>by rw [qz,hz j hj];omega⟩
theorem Lik.trans {f g h:Nat→Int} (a:Lik n ls f g) (b:Lik n ls g h):Lik n ls f h:=by
 obtain ⟨z,hz⟩:=a
 obtain ⟨w,hw⟩:=b
 exact ⟨fun k=>z k + w k,fun j hj=>by rw [xU,hw j hj,hz j hj];omega⟩
theorem Lik.add {f g f' g' : Nat→Int} (a:Lik n ls f g) (b:Lik n ls f' g'):Lik n ls (fun k=>f k + f' k) fun k=>g k + g' k:=by
 obtain ⟨z,hz⟩:=a
 obtain ⟨w,hw⟩:=b
 exact ⟨fun k=>z k + w k,fun j hj=>by show g j + g' j=f j + f' j + _;rw [xU,hw j hj,hz j hj];omega⟩
theorem Lik.eqv {f g f' g' : Nat→Int} (h:Lik n ls f g) (e1:∀ j,j < n→f j=f' j) (e2:∀ j,j < n→g j=g' j):Lik n ls f' g':=by
 obtain ⟨z,hz⟩:=h
 exact ⟨z,fun j hj=>by rw [← e1 j hj,← e2 j hj];exact hz j hj⟩
theorem Lst.eq (O:YOk c n ls) {a b:Nat→Int} (ha:Lst n ls a) (hb:Lst n ls b) (h:Lik n ls a b):∀ j,j < n→b j=a j:=by
 obtain ⟨z,hz⟩:=h
 exact zcJ O.net ha.lt hb.lt ha.last hb.last hz
theorem xV (O:YOk c n ls) (h1:1 ≤ n) (g:Nat→Int):∃ r,F_home [zp c ls,.tuple (vD n g)]=some (.tuple (vD n r))∧Lst n ls r∧Lik n ls g r:=by
 obtain ⟨r,e,H⟩:=zgN O h1 g
 exact ⟨r,e,⟨H.nn,H.lt,H.last⟩,H.lik⟩
theorem zfA (O:YOk c n ls) {a b:Nat→Int} (ha:Lst n ls a) (b0:∀ j,j < n→0 ≤ b j):∃ r,F_put [zp c ls,.tuple (vD n a),.tuple (vD n b)]=some (.tuple (vD n r))∧Lst n ls r∧Lik n ls (fun k=>a k + b k) r:=by
 obtain ⟨t,S⟩:=zaN O (fun k=>a k + b k) fun j hj=>by have:=ha.nn j hj;have:=b0 j hj;show 0 ≤ a j + b j;omega
 obtain ⟨e,σ,_,L⟩:=ze7 O
 refine ⟨_,zkS O S,⟨S.nn,S.odo.br.2,zhw O.net L (fun g hg=>zj9 O g hg) ha.nn ha.lt ha.last b0 ⟨t,S.odo,fun _ _=>rfl⟩⟩,t,fun j hj=>rfl⟩
theorem qu (O:YOk c n ls) (q:List Int):q ∈ lasL n ls n ↔ q.length=n∧Lst n ls (pf q):=by
 rw [yj O (Nat.le_refl n)]
 have e:∀ j,j < n→fill (SZ n ls) n (pf q) j=pf q j:=fun j hj=>if_pos hj
 constructor
 ·intro g
  exact ⟨g.len,fun j hj=>(g.rg j hj).1,fun j hj=>(g.rg j hj).2,jP e g.la⟩
 ·rintro ⟨l,h⟩
  exact ⟨l,fun j hj=>⟨h.nn j hj,h.lt j hj⟩,jP (fun j hj=>(e j hj).symm) h.last⟩
noncomputable def rowL (n:Nat) (f:Nat→Int):List Int:=(List.range n).map f
theorem zjG (n:Nat) (f:Nat→Int):(rowL n f).length=n:=by simp [rowL]
theorem zaa (n:Nat) (f:Nat→Int) {j:Nat} (hj:j < n):pf (rowL n f) j=f j:=by simp [pf,rowL,hj]
theorem wL (n:Nat) (f:Nat→Int):trD (rowL n f)=.tuple (vD n f):=by
 unfold trD rowL vD
 rw [List.map_map]
 rfl
theorem zc3 {q:List Int} (h:q.length=n):rowL n (pf q)=q:=by
 apply List.ext_getElem?
 intro i
 unfold rowL pf
 by_cases a:i < n
 ·simp [a,h]
 ·rw [List.getElem?_eq_none (by simp;omega),List.getElem?_eq_none (by omega)]
theorem xO (O:YOk c n ls) {f:Nat→Int} (h:Lst n ls f):rowL n f ∈ lasL n ls n:=(qu O _).mpr ⟨zjG n f,fun j hj=>by rw [zaa n f hj];exact h.nn j hj,fun j hj=>by rw [zaa n f hj];exact h.lt j hj,jP (fun j hj=>(zaa n f hj).symm) h.last⟩
theorem zfh (O:YOk c n ls) (h1:1 ≤ n) (a:Nat→Int) (m:Int):Lik n ls (fun _=>0) (fun k=>m * a k) ↔ ordI n ls a ∣ m:=by
 have ne:dC n (RR n ls) ≠ 0:=zba O.net
 unfold ordI
 rw [← zjb ne _ (zgF _ _ fun z=>by have:=congrArg List.length z;simp at this;omega)]
 have li:=ziX h1 O.net fun k=>m * a k
 have e1:Lik n ls (fun _=>0) (fun k=>m * a k) ↔ ∃ z,∀ j,j < n→m * a j=fire n (chB n (tieB ls)) z j:=by
  constructor
  ·rintro ⟨z,hz⟩
   exact ⟨z,fun j hj=>by have:=hz j hj;rw [Int.zero_add] at this;exact this⟩
  ·rintro ⟨z,hz⟩
   exact ⟨z,fun j hj=>by rw [Int.zero_add];exact hz j hj⟩
 rw [e1,li]
 constructor
 ·intro h p hp
  obtain ⟨k,hk,rfl⟩:=List.mem_map.mp hp
  have:=h k (List.mem_range.mp hk)
  rwa [sclC (List.mem_range.mp hk)] at this
 ·intro h k hk
  rw [sclC hk]
  exact h _ (List.mem_map.mpr ⟨k,List.mem_range.mpr hk,rfl⟩)
end L2.Y
namespace L2.Sd
noncomputable def itr {α:Type} (p:α→α):Nat→α→α
 | 0,x=>x
 | k + 1,x=>itr p k (p x)
theorem yh {α:Type} (p:α→α):∀ (a b:Nat) (x:α),itr p (a + b) x=itr p b (itr p a x)
 | 0,b,x=>by rw [Nat.zero_add];rfl
 | a + 1,b,x=>by rw [show a + 1 + b=(a + b) + 1 by omega];exact yh p a b (p x)
theorem ze4 {α:Type} [DecidableEq α]:∀ (a b:List α),a.Nodup→(∀ x,x ∈ a→x ∈ b)→a.length ≤ b.length
 | [],_,_,_=>Nat.zero_le _
 | x :: a,b,nd,h=>by
  obtain ⟨nx,nd⟩:=List.nodup_cons.mp nd
  have hx:=h x List.mem_cons_self
  have:=ze4 a (b.erase x) nd fun y hy=>(List.mem_erase_of_ne (a:=y) (b:=x) (fun e=>nx (e ▸ hy))).mpr (h y (List.mem_cons_of_mem _ hy))
  rw [List.length_erase_of_mem hx] at this
  have:0 < b.length:=List.length_pos_of_mem hx
  rw [List.length_cons]
  omega
theorem zkA {α:Type} [DecidableEq α] (p:α→α) (m:Nat) (hm:1 ≤ m):∀ (N:Nat) (l:List α),l.length ≤ N→l.Nodup→(∀ x,x ∈ l→p x ∈ l)→(∀ x,x ∈ l→itr p m x=x)→(∀ x,x ∈ l→∀ j,1 ≤ j→j < m→itr p j x ≠ x)→m ∣ l.length
 | _,[],_,_,_,_,_=>⟨0,rfl⟩
 | 0,_ :: _,h,_,_,_,_=>absurd h (by simp)
 | N + 1,x :: r,hN,nd,cl,hp,hq=>by
  let l:=x :: r
  let o:=(List.range m).map fun j=>itr p j x
  have hx:x ∈ l:=List.mem_cons_self
  have inl:∀ j,itr p j x ∈ l:=fun j=>by
   have:∀ j y,y ∈ l→itr p j y ∈ l:=by
    intro j
    induction j with
    | zero=>exact fun y hy=>hy
    | succ j ih=>exact fun y hy=>ih _ (cl y hy)
   exact this j x hx
  have ino:∀ j,itr p j x ∈ o:=fun j=>by
   have e:itr p j x=itr p (j % m) x:=by
    have:∀ q,itr p (j % m + m * q) x=itr p (j % m) x:=by
     intro q
     induction q with
     | zero=>rfl
     | succ q ih =>
      rw [Nat.mul_succ,show j % m + (m * q + m)=m + (j % m + m * q) by omega,yh,hp x hx]
      exact ih
    rw [← this (j / m),Nat.mod_add_div]
   rw [e]
   exact List.mem_map.mpr ⟨j % m,List.mem_range.mpr (Nat.mod_lt _ (by omega)),rfl⟩
  have ond:o.Nodup:=by
   have:∀ i j,i < j→j < m→itr p i x ≠ itr p j x:=fun i j hij hj e=>by
    have e2:=congrArg (itr p (m - j)) e
    rw [← yh,← yh,show j + (m - j)=m by omega,hp x hx] at e2
    exact hq x hx (i + (m - j)) (by omega) (by omega) e2
   refine List.Pairwise.map (R:=fun i j=>i < j∧j < m) _ (fun i j h=>this i j h.1 h.2) ?_
   have r1:(List.range m).Pairwise (· < ·):=List.pairwise_lt_range
   exact r1.imp_of_mem fun {a b} ha hb h=>⟨h,List.mem_range.mp hb⟩
  let f:α→Bool:=fun y=>decide (y ∈ o)
  have c1:(l.filter f).length=m:=by
   have a:=ze4 o (l.filter f) ond fun y hy=>List.mem_filter.mpr ⟨by obtain ⟨j,_,rfl⟩:=List.mem_map.mp hy;exact inl j,decide_eq_true hy⟩
   have b:=ze4 (l.filter f) o (nd.filter _) fun y hy=>of_decide_eq_true (List.mem_filter.mp hy).2
   have:o.length=m:=by simp [o]
   omega
  have c2:l.length=(l.filter f).length + (l.filter fun y=>!f y).length:=by
   clear c1
   have:∀ l:List α,l.length=(l.filter f).length + (l.filter fun y=>!f y).length:=fun l=>by
    induction l with
    | nil=>rfl
    | cons a l ih=>cases h:f a <;> simp [List.filter_cons,h] <;> omega
   exact this l
  have d:=zkA p m hm N (l.filter fun y=>!f y) (by
   have:l.length ≤ N + 1:=hN
   omega) (nd.filter _) (fun y hy=>by
    obtain ⟨h1,h2⟩:=List.mem_filter.mp hy
    refine List.mem_filter.mpr ⟨cl y h1,?_⟩
    have ny:y ∉ o:=by simpa [f] using h2
    have:p y ∉ o:=fun z=>by
     obtain ⟨j,_,e⟩:=List.mem_map.mp z
     apply ny
     have e2:=congrArg (itr p (m - 1)) e
     have e3:itr p (m - 1) (p y)=y:=by
      have:=hp y h1
      rwa [show m=(m - 1) + 1 by omega] at this
     rw [← yh,e3] at e2
     rw [← e2]
     exact ino _
    simpa [f] using this)
   (fun y hy=>hp y (List.mem_filter.mp hy).1) fun y hy=>hq y (List.mem_filter.mp hy).1
  obtain ⟨q,hq'⟩:=d
  exact ⟨1 + q,by
   show l.length=_
   rw [c2,c1,hq',Nat.mul_add,Nat.mul_one]⟩
end L2.Sd
namespace L2.Y
open PySem L2.Sd
variable {c:Int} {n:Nat} {ls:List (Int × Int × Int)}
theorem xb (l:List Int):SeqAt.shaped (trD l)=true:=by
 have:=kh l
 unfold trD
 simp only [SeqAt.shaped,PyData.canLay0,PyData.depth] at this ⊢
 exact this
theorem zcA (a b:List Int):PyData.eqv (trD a) (trD b)=decide (a=b):=by
 unfold trD
 rw [PyData.eqv,zeA]
theorem zkc (L:List (List Int)) (q:List Int):hasD (trD q) (.tuple (L.map trD))=some (decide (q ∈ L)):=by
 have h1:(L.map trD).all SeqAt.shaped=true:=by
  rw [List.all_map,List.all_eq_true]
  exact fun x _=>xb x
 show (if ((L.map trD).all SeqAt.shaped && SeqAt.shaped (trD q))=true then some ((L.map trD).any fun y=>PyData.eqv y (trD q)) else none)=_
 rw [if_pos (by rw [h1,xb];rfl)]
 congr 1
 rw [List.any_map,Bool.eq_iff_iff,List.any_eq_true,decide_eq_true_eq]
 constructor
 ·rintro ⟨x,hx,h⟩
  have h' : PyData.eqv (trD x) (trD q)=true:=h
  rw [zcA,decide_eq_true_eq] at h'
  exact h' ▸ hx
 ·intro hx
  exact ⟨q,hx,by show PyData.eqv (trD q) (trD q)=true;rw [zcA,decide_eq_true_eq]⟩
theorem zg9 (L:List (List Int)) (q:List Int):jX (trD q) (.tuple (L.map trD))=some (.bool (!decide (q ∈ L))):=by unfold jX;rw [zkc];rfl
theorem zi5 (a b:List Int):neD (trD a) (trD b)=some (.bool (!decide (a=b))):=by
 unfold neD
 rw [xb,xb,zcA]
 rfl
theorem zj8 (a b:List Int):eqD (trD a) (trD b)=some (.bool (decide (a=b))):=by
 unfold eqD
 rw [xb,xb,zcA]
 rfl
theorem zhS (L:List (List Int)):zaf (L.map trD)=some L:=by
 unfold zaf
 induction L with
 | nil=>rfl
 | cons a l ih =>
  rw [List.map_cons,List.mapM_cons,ih]
  show (wB (a.map PyData.int)).bind _=_
  rw [vM]
  rfl
theorem ze3 {L:List (List Int)} (h:L.Nodup) (hl:L.length < 1999):vQ [.list (L.map trD)]=some (.int L.length):=by
 show (zaf (L.map trD)).bind _=_
 rw [zhS,Option.bind_some,if_pos ⟨hl,h⟩]
theorem zlm (L:List (List Int)) {i:Int} (h0:0 ≤ i) {q:List Int} (h:L[i.toNat]?=some q):ixD (.tuple (L.map trD)) (.int i)=some (trD q):=wn h0 (by rw [List.getElem?_map,h];rfl)
theorem zh2 (O:YOk c n ls) (h1:1 ≤ n):∃ r,F_zero [zp c ls]=some (.tuple (vD n r))∧Lst n ls r∧Lik n ls (fun _=>0) r:=by
 have hn:=O.en
 have hc:=O.ec
 obtain ⟨r,e,a,b⟩:=xV O h1 fun _=>0
 refine ⟨r,?_,a,b⟩
 unfold F_zero
 refine zB ?_
 show zdS [some (.val (zp c ls))]=_
 unfold zdS
 refine zX (zu (za (x:=zp c ls) rfl (za (x:=.tuple (vD n fun _=>0)) (zy (zu (za zI zg) (zjT _)) (zy (x:=zp c ls) rfl zI (jA _ _)) ?_) zg)) (by rw [zQ];exact e))
 show (if 0 < c then (repD [.int 0] c).map PyData.tuple else none)=_
 rw [if_pos (by omega)]
 unfold repD
 rw [if_pos ⟨by omega,by omega,by show 1 * c.toNat ≤ 16777216;omega⟩,show c.toNat=n by omega,zfD]
 rfl
theorem zgu (O:YOk c n ls) (h1:1 ≤ n) {a:Nat→Int} (ha:Lst n ls a):∃ r,F_back [zp c ls,.tuple (vD n a)]=some (.tuple (vD n r))∧Lst n ls r∧Lik n ls (fun k=>-a k) r:=by
 have hn:=O.en
 obtain ⟨r,e,x,b⟩:=xV O h1 fun k=>-a k
 refine ⟨r,?_,x,b⟩
 let Y:Option En:=some (.val (zp c ls))
 let A:Option En:=some (.val (.tuple (vD n a)))
 unfold F_back
 refine zB ?_
 show zdP [Y,A]=_
 unfold zdP
 rw [zm (ρ':=[Y,A]) (by
  show ((gA (zt 2 F_refuse_unless_lasting) (zc (gVar 0) (zc (gVar 1) gNil)) [Y,A]).map fun _=>_)=_
  rw [zu (d:=.none) (za (x:=zp c ls) rfl (za (x:=.tuple (vD n a)) rfl zg)) (by rw [zQ];exact zbB O ha.lt ha.last)]
  rfl)]
 exact zX (zu (za (x:=zp c ls) rfl (za (zu (za (jz (zL (ds:=vD n a) (qJ (x:=.tuple (vD n a)) rfl rfl) (by rw [jH];omega) (jm _ (fun k=>.int (-a k)) fun k hk=>⟨[vI (a k)],rfl,zeG (x:=.int (a k)) rfl (yS _)⟩))) zg) (zN _)) zg)) (by rw [zQ];exact e))
end L2.Y
namespace L2.Y
open PySem L2.Sd
variable {c:Int} {n:Nat} {ls:List (Int × Int × Int)}
noncomputable def stp (n:Nat) (ls:List (Int × Int × Int)) (a:Nat→Int) (x:List Int):List Int:=open Classical in if h:∃ r,Lst n ls r∧Lik n ls (fun k=>pf x k + a k) r then rowL n (Classical.choose h) else x
theorem xR (O:YOk c n ls) {a:Nat→Int} (a0:∀ j,j < n→0 ≤ a j) {x:List Int} (hx:x ∈ lasL n ls n):stp n ls a x ∈ lasL n ls n∧Lik n ls (fun k=>pf x k + a k) (pf (stp n ls a x)):=by
 obtain ⟨r,_,h⟩:=zfA O ((qu O x).mp hx).2 a0
 have h' : ∃ r,Lst n ls r∧Lik n ls (fun k=>pf x k + a k) r:=⟨r,h⟩
 have e:stp n ls a x=rowL n (Classical.choose h'):=dif_pos h'
 obtain ⟨s1,s2⟩:=Classical.choose_spec h'
 rw [e]
 exact ⟨xO O s1,s2.eqv (fun _ _=>rfl) fun j hj=>(zaa n _ hj).symm⟩
theorem yC (O:YOk c n ls) {x y:List Int} (hx:x ∈ lasL n ls n) (hy:y ∈ lasL n ls n) (h:Lik n ls (pf x) (pf y)):y=x:=by
 obtain ⟨lx,sx⟩:=(qu O x).mp hx
 obtain ⟨ly,sy⟩:=(qu O y).mp hy
 have:=Lst.eq O sx sy h
 rw [← zc3 ly,← zc3 lx]
 exact List.map_congr_left fun j hj=>this j (List.mem_range.mp hj)
theorem zkT (O:YOk c n ls) {a:Nat→Int} (a0:∀ j,j < n→0 ≤ a j) {x:List Int} (hx:x ∈ lasL n ls n):F_put [zp c ls,trD x,.tuple (vD n a)]=some (trD (stp n ls a x)):=by
 obtain ⟨lx,sx⟩:=(qu O x).mp hx
 obtain ⟨r,e,s,l⟩:=zfA O sx a0
 obtain ⟨m,l2⟩:=xR O a0 hx
 have ex:trD x=.tuple (vD n (pf x)):=by rw [← wL,zc3 lx]
 rw [ex,e,← wL]
 congr 2
 exact (yC O (xO O s) m ((l.eqv (fun _ _=>rfl) fun j hj=>(zaa n r hj).symm).symm.trans l2)).symm
theorem zeP (O:YOk c n ls) {a:Nat→Int} (a0:∀ j,j < n→0 ≤ a j):∀ (m:Nat) {x:List Int},x ∈ lasL n ls n→itr (stp n ls a) m x ∈ lasL n ls n∧Lik n ls (fun k=>pf x k + (m:Int) * a k) (pf (itr (stp n ls a) m x))
 | 0,x,hx=>⟨hx,(Lik.refl (pf x)).eqv (fun j _=>by show pf x j=pf x j + ((0:Nat):Int) * a j;rw [show ((0:Nat):Int)=0 from rfl,Int.zero_mul,Int.add_zero]) fun _ _=>rfl⟩
 | m + 1,x,hx=>by
  obtain ⟨h1,h2⟩:=xR O a0 hx
  obtain ⟨h3,h4⟩:=zeP O a0 m h1
  refine ⟨h3,Lik.trans ?_ h4⟩
  exact (h2.add (Lik.refl fun k=>(m:Int) * a k)).eqv (fun j _=>by show pf x j + a j + (m:Int) * a j=pf x j + ((m + 1:Nat):Int) * a j;rw [show ((m + 1:Nat):Int)=(m:Int) + 1 by omega,Int.add_mul,Int.one_mul];omega) fun _ _=>rfl
theorem zcG (O:YOk c n ls) (h1:1 ≤ n) {a:Nat→Int} (a0:∀ j,j < n→0 ≤ a j) (m:Nat) {x:List Int} (hx:x ∈ lasL n ls n):itr (stp n ls a) m x=x ↔ ordI n ls a ∣ (m:Int):=by
 rw [← zfh O h1]
 obtain ⟨m1,l1⟩:=zeP O a0 m hx
 constructor
 ·intro e
  rw [e] at l1
  have:=l1.symm.add (Lik.refl (n:=n) (ls:=ls) fun k=>-pf x k)
  exact this.eqv (fun j _=>by show pf x j + -pf x j=0;omega) fun j _=>by show pf x j + (m:Int) * a j + -pf x j=_;omega
 ·intro l
  refine yC O hx m1 (Lik.trans ?_ l1)
  exact ((Lik.refl (pf x)).add l).eqv (fun j _=>by show pf x j + 0=_;omega) fun _ _=>rfl
theorem zjM (O:YOk c n ls) {a:Nat→Int} (a0:∀ j,j < n→0 ≤ a j) {x y:List Int} (hx:x ∈ lasL n ls n) (hy:y ∈ lasL n ls n) (e:stp n ls a x=stp n ls a y):x=y:=by
 have l1:=(xR O a0 hx).2
 have l2:=(xR O a0 hy).2
 rw [e] at l1
 have:=(l1.trans l2.symm).add (Lik.refl (n:=n) (ls:=ls) fun k=>-a k)
 exact (yC O hx hy (this.eqv (fun j _=>by show pf x j + a j + -a j=_;omega) fun j _=>by show pf y j + a j + -a j=_;omega)).symm
theorem zfa (O:YOk c n ls) {a:Nat→Int} (a0:∀ j,j < n→0 ≤ a j):((lasL n ls n).map (stp n ls a)).Nodup:=by
 have nd:=vP O (Nat.le_refl n)
 refine List.Pairwise.map (R:=fun x y=>x ≠ y∧x ∈ lasL n ls n∧y ∈ lasL n ls n) _ (fun x y h e=>h.1 (zjM O a0 h.2.1 h.2.2 e)) ?_
 exact nd.imp_of_mem fun {x y} hx hy h=>⟨h,hx,hy⟩
theorem zfi (O:YOk c n ls) (h1:1 ≤ n) (a:Nat→Int):1 ≤ ordI n ls a:=by
 have ne:dC n (RR n ls) ≠ 0:=zba O.net
 let ps:List Int:=(List.range n).map fun k=>dC n (rowAt (RR n ls) k a)
 obtain ⟨gd,_⟩:=zcB ps (dC n (RR n ls))
 have g0:gF (dC n (RR n ls)) ps ≠ 0:=fun z=>by rw [z] at gd;exact ne (Int.zero_dvd.mp gd)
 have gn:0 ≤ gF (dC n (RR n ls)) ps:=zgF ps _ fun z=>by
  have:=congrArg List.length z
  simp [ps] at this
  omega
 obtain ⟨o,ho⟩:=Int.dvd_natAbs.mpr gd
 have eo:ordI n ls a=o:=by
  show ((dC n (RR n ls)).natAbs:Int) / gF (dC n (RR n ls)) ps=o
  rw [ho]
  exact Int.mul_ediv_cancel_left _ g0
 rw [eo]
 apply Int.not_lt.mp
 intro q
 have:gF (dC n (RR n ls)) ps * o ≤ 0:=Int.mul_nonpos_of_nonneg_of_nonpos gn (by omega)
 omega
theorem zjc (O:YOk c n ls) (h1:1 ≤ n) {a:Nat→Int} (a0:∀ j,j < n→0 ≤ a j):ordI n ls a ∣ ((lasL n ls n).length:Int):=by
 have op:=zfi O h1 a
 have et:((ordI n ls a).toNat:Int)=ordI n ls a:=by omega
 have:=zkA (stp n ls a) (ordI n ls a).toNat (by omega) _ (lasL n ls n) (Nat.le_refl _) (vP O (Nat.le_refl n)) (fun x hx=>(xR O a0 hx).1)
  (fun x hx=>(zcG O h1 a0 _ hx).mpr (by rw [et];exact Int.dvd_refl _)) fun x hx j j1 j2 e=>by
   have d:=(zcG O h1 a0 j hx).mp e
   have:=Int.le_of_dvd (by omega) d
   omega
 rw [← et]
 exact Int.natCast_dvd_natCast.mpr this
end L2.Y
namespace L2.Y
open PySem L2.Sd
variable {c:Int} {n:Nat} {ls:List (Int × Int × Int)}
noncomputable def prN (n:Nat) (ls:List (Int × Int × Int)):Nat→Nat
 | 0=>1
 | k + 1=>prN n ls k * (SZ n ls k).toNat
theorem zaz (O:YOk c n ls):∀ k,k ≤ n→(lasL n ls k).length ≤ prN n ls k
 | 0,_=>Nat.le_refl _
 | k + 1,hk=>by
  have ih:=zaz O k (by omega)
  show ((lasL n ls k).flatMap (qS n ls k)).length ≤ prN n ls k * (SZ n ls k).toNat
  have:∀ l:List (List Int),(l.flatMap (qS n ls k)).length ≤ l.length * (SZ n ls k).toNat:=fun l=>by
   induction l with
   | nil=>simp
   | cons p l ih =>
    rw [List.flatMap_cons,List.length_append,List.length_cons,Nat.add_mul,Nat.one_mul]
    have e:(qS n ls k p).length=(SZ n ls k - leaI n ls k (pf p)).toNat:=by simp [qS]
    have:=(zie O (k:=k) (by omega) (pf p)).1
    omega
  exact Nat.le_trans (this _) (Nat.mul_le_mul_right _ ih)
theorem zfv {m:Nat} (h:∀ i,i < n→SZ n ls i ≤ m):∀ k,k ≤ n→prN n ls k ≤ m ^ k
 | 0,_=>Nat.le_refl _
 | k + 1,hk=>by
  have:=h k (by omega)
  exact Nat.mul_le_mul (zfv h k (by omega)) (by omega)
theorem zh9 {w:Int} (p:Int × Int × Int→Bool):∀ {ls:List (Int × Int × Int)},(∀ l ∈ ls,0 ≤ l.2.2∧l.2.2 ≤ w)→0 ≤ ((ls.filter p).map (·.2.2)).sum∧((ls.filter p).map (·.2.2)).sum ≤ w * ls.length
 | [],_=>by simp
 | l :: ls,h=>by
  have ih:=zh9 p (ls:=ls) fun x hx=>h x (List.mem_cons_of_mem _ hx)
  have hl:=h l List.mem_cons_self
  rw [List.length_cons,show ((ls.length + 1:Nat):Int)=(ls.length:Int) + 1 by omega,Int.mul_add,Int.mul_one]
  cases e:p l with
  | true=>rw [List.filter_cons_of_pos e,List.map_cons,List.sum_cons];omega
  | false=>rw [List.filter_cons_of_neg (by simp [e])];omega
theorem zal {α:Type} {h:GT} {gt:Env'→Option Bool} {ge:Env'→Option D} {ρ:Env'} (p:α→D) (q:α→Bool) (f:α→D):∀ l:List α,(∀ x ∈ l,∃ ρ1,h (p x) ρ=some ρ1∧gt ρ1=some (q x)∧ge ρ1=some (f x))→xF h gt ge ρ (l.map p)=some ((l.filter q).map f)
 | [],_=>rfl
 | x :: l,hh=>by
  obtain ⟨ρ1,e1,e2,e3⟩:=hh x List.mem_cons_self
  have ih:=zal p q f l fun y hy=>hh y (List.mem_cons_of_mem _ hy)
  rw [List.map_cons,xF,e1,Option.bind_some,e2,Option.bind_some]
  cases hq:q x
  ·rw [if_neg (by decide),ih,List.filter_cons_of_neg (by rw [hq];decide)]
  ·rw [if_pos rfl,e3,Option.bind_some,ih,List.filter_cons_of_pos hq]
   rfl
theorem zjF (O:YOk c n ls):F_law_room [zp c ls]=some (.int (prN n ls n)):=by
 have hc:=O.ec
 have hn:=O.en
 let Y:Option En:=some (.val (zp c ls))
 obtain ⟨ρ',e,x2,hr⟩:=jI (h:=hName 2) (gb:=xq) (fun i ρ=>∃ x2,ρ=[Y,vI (prN n ls i:Int),x2]) (zT 1 n) 0 [Y,vI 1,none] ⟨none,rfl⟩ (fun k d ρ hk hZq=>by
  obtain ⟨x2,hr⟩:=hZq
  subst hr
  rw [Nat.zero_add]
  let m:Int:=(prN n ls k:Int)
  obtain ⟨hk2,rfl⟩:=qZ hk
  have bd:=zbM O.lk fun l=>decide (l.1=1 + (k:Int)) || decide (l.2.1=1 + (k:Int))
  have hl:=O.len
  have es:((ls.filter fun l=>decide (l.1=1 + (k:Int)) || decide (l.2.1=1 + (k:Int))).map (·.2.2)).sum=SZ n ls k:=wR O.ec O.lk k
  have s0:(1:Int) ≤ SZ n ls k:=O.net.size_pos k (by omega)
  have ep:(prN n ls (k + 1):Int)=m * SZ n ls k:=by
   show ((prN n ls k * (SZ n ls k).toNat:Nat):Int)=_
   rw [Int.natCast_mul,show ((SZ n ls k).toNat:Int)=SZ n ls k by omega]
  refine ⟨[Y,vI m,vI (1 + k)],[Y,vI (prN n ls (k + 1):Int),vI (1 + k)],rfl,?_,_,rfl⟩
  rw [ep,← es]
  unfold xq
  refine zG (zy (x:=.int m) rfl (zu (za (jz (zL (ds:=ls.map jE) (qJ (zy (x:=zp c ls) rfl zI (zay _ _)) rfl) (by rw [List.length_map];omega) (zal jE (fun l=>decide (l.1=1 + (k:Int)) || decide (l.2.1=1 + (k:Int))) (fun l=>.int l.2.2) ls fun l _=>⟨[some (.val (jE l)),vI (1 + k)],rfl,jO (zy (x:=.int (1 + k)) rfl (yz (d:=jE l) rfl rfl (qr zI) (zc5 l)) (zic _ _ _)),zy (x:=jE l) rfl zI (zcH l)⟩))) zg) (by
   have:((ls.filter fun l=>decide (l.1=1 + (k:Int)) || decide (l.2.1=1 + (k:Int))).map fun l=>(.int l.2.2:D))=((ls.filter fun l=>decide (l.1=1 + (k:Int)) || decide (l.2.1=1 + (k:Int))).map (·.2.2)).map PyData.int:=by rw [List.map_map];rfl
   rw [this]
   exact wV _)) (yk (by omega) (by omega))) rfl)
 subst hr
 rw [Nat.zero_add,jp] at e
 unfold F_law_room
 refine zB ?_
 show ya [Y,none,none]=_
 unfold ya
 rw [zm (ρ':=[Y,vI 1,none]) (zG zI rfl),zm (qL (ds:=zT 1 n) (jt (za zI (za (zy (zy (x:=zp c ls) rfl zI (jA _ _)) zI (zH _ _)) zg)) (by rw [qU (by decide) (by decide) (by omega) (by omega),show (c + 1 - 1).toNat=n by omega])) e)]
 exact zX rfl
theorem rr16 (O:YOk c n ls) (h:∀ i,i < n→SZ n ls i ≤ 16):∀ i j,i < n→j < n→-16 ≤ RR n ls i j∧RR n ls i j ≤ 16:=fun i j hi hj=>by
 have s1:SZ n ls i ≤ 16:=h i hi
 have s2:=O.net.size_pos i hi
 show -16 ≤ (if i=j then -szB n (tieB ls) i else tieB ls (i + 1) (j + 1))∧(if i=j then -szB n (tieB ls) i else tieB ls (i + 1) (j + 1)) ≤ 16
 have s1' : szB n (tieB ls) i ≤ 16:=s1
 split
 ·omega
 ·have a:=O.net.nn (i + 1) (j + 1)
  have b:tieB ls (i + 1) (j + 1) ≤ szB n (tieB ls) i:=zfR (n:=n + 1) (f:=tieB ls (i + 1)) (i:=j + 1) (by omega) fun k _ _=>O.net.nn _ _
  omega
theorem zfY {most wide:Int} (O:YOk c n ls) (g:GoodYard most wide c ls):∀ i,i < n→SZ n ls i ≤ wide * ls.length:=fun i hi=>by
 have:=(zh9 (w:=wide) (fun l=>decide (l.1=1 + (i:Int)) || decide (l.2.1=1 + (i:Int))) (ls:=ls) fun l hl=>by have:=g.rng l hl;omega).2
 have e:kC ls (1 + i)=SZ n ls i:=wR O.ec O.lk i
 rw [← e]
 exact this
end L2.Y
namespace L2.Y
open PySem L2.Sd
variable {c:Int} {n:Nat} {ls:List (Int × Int × Int)}
theorem zgw (a:Bool):neD (.bool a) (.bool a)=some (.bool false):=by
 unfold neD
 rw [zch]
 cases a <;> simp [PyData.eqv]
theorem zhR (O:YOk c n ls) {x:List Int} (hx:x ∈ lasL n ls n):trD x=.tuple (vD n (pf x)):=by rw [← wL,zc3 ((qu O x).mp hx).1]
theorem yD (O:YOk c n ls) {x:List Int} (hx:x ∈ lasL n ls n):∀ j,j < n→0 ≤ pf x j:=((qu O x).mp hx).2.nn
theorem yp (O:YOk c n ls) {x y:List Int} (hx:x ∈ lasL n ls n) (hy:y ∈ lasL n ls n):F_put [zp c ls,trD x,trD y]=some (trD (stp n ls (pf y) x)):=by
 rw [zhR O hy]
 exact zkT O (yD O hy) hx
theorem yi {f r:Nat→Int} (h:Lik n ls f r):Lik n ls f (pf (rowL n r)):=h.eqv (fun _ _=>rfl) fun j hj=>(zaa n r hj).symm
set_option maxHeartbeats 1000000 in
theorem zit (ns:List Int) (O:YOk c n ls) (h1:1 ≤ n) (h5:n ≤ 5) (hs:∀ i,i < n→SZ n ls i ≤ 16) (hL:(lasL n ls n).length < 1999) (hb:∀ k,k ≤ n→(lasL n ls k).length ≤ 16777216) (x2:Option En) :
  (sSeq (sAsg (hName 3) (gA (zt 1 F_lasting) (zc (gVar 1) gNil)))
  (sSeq (sAsg (hName 4) (gA (zt 1 F_zero) (zc (gVar 1) gNil)))
  (sSeq (sAsg (hName 5) (g2 ixD (gVar 3) (g2 modD (gA (zt 2 F_law_mixed) (zc (gVar 0) (zc (gK (.int 1)) gNil))) (gA lenD (zc (gVar 3) gNil)))))
  (sSeq (sAsg (hName 6) (g2 ixD (gVar 3) (g2 modD (gA (zt 2 F_law_mixed) (zc (gVar 0) (zc (gK (.int 2)) gNil))) (gA lenD (zc (gVar 3) gNil)))))
  (sSeq (kf 7 (jx 1 [1,4] (gIt seqD (gVar 3)) (hName 0) (gBo (g2 neD (gA (zt 3 F_put) (zc (gVar 1) (zc (gVar 0) (zc (gVar 2) gNil)))) (gVar 0))) (gVar 0)))
  (sSeq (sIf (gOrT (gBo (g2 jX (gVar 4) (gVar 3))) (gBo (g2 neD (gVar 7) (gLs (gLst gNil)))))
  (sRet (gK (.bool false)))
  sNil)
  (sSeq (sAsg (hName 8) (gA (zt 2 F_back) (zc (gVar 1) (zc (gVar 5) gNil))))
  (sSeq (sIf (gOrT (gBo (g2 jX (gVar 8) (gVar 3))) (gOrT (gBo (g2 neD (gA (zt 3 F_put) (zc (gVar 1) (zc (gVar 5) (zc (gVar 8) gNil)))) (gVar 4))) (gBo (g2 jX (gA (zt 3 F_put) (zc (gVar 1) (zc (gVar 5) (zc (gVar 6) gNil)))) (gVar 3)))))
  (sRet (gK (.bool false)))
  sNil)
  (sSeq (sIf (gBo (g2 neD (gA vQ (zc (gLs (jx 1 [1,5] (gIt seqD (gVar 3)) (hName 0) qd (gA (zt 3 F_put) (zc (gVar 1) (zc (gVar 0) (zc (gVar 2) gNil)))))) gNil)) (gA lenD (zc (gVar 3) gNil))))
  (sRet (gK (.bool false)))
  sNil)
  (sSeq (sAsg (hName 9) (gA (zt 2 F_order_of) (zc (gVar 1) (zc (gVar 5) gNil))))
  (sSeq (sAsg (hName 10) (gVar 5))
  (sSeq (sFor (gItA wK (zc (gVar 9) gNil)) (hName 11)
  zai)
  (sSeq (sIf (gOrT (gTr (g1 (isI zb0) (gVar 9))) (gBo (g2 neD (g2 modD (gA lenD (zc (gVar 3) gNil)) (gVar 9)) (gK (.int 0)))))
  (sRet (gK (.bool false)))
  sNil)
  (sSeq (sAsg (hName 12) (gA (zt 3 F_law_grains) (zc (gA (zt 2 F_law_mixed) (zc (gVar 0) (zc (gK (.int 3)) gNil))) (zc (g2 ixD (gVar 1) (gK (.int 0))) (zc (gK (.int 9)) gNil)))))
  (sSeq (sAsg (hName 13) (gA (zt 3 F_law_grains) (zc (gA (zt 2 F_law_mixed) (zc (gVar 0) (zc (gK (.int 4)) gNil))) (zc (g2 ixD (gVar 1) (gK (.int 0))) (zc (gK (.int 9)) gNil)))))
  (sSeq (sAsg (hName 14) (gA jR (zc (gLs (jx 2 [] (gItA zipT (zc (gVar 12) (zc (gVar 13) gNil))) (hTup 2 (jD (hName 0) (jD (hName 1) hNil))) qd (g2 addD (gVar 0) (gVar 1)))) gNil)))
  (sSeq (sIf (gOrT (gBo (g2 jX (gA (zt 2 F_home) (zc (gVar 1) (zc (gVar 12) gNil))) (gVar 3))) (gBo (g2 neD (gA (zt 2 F_home) (zc (gVar 1) (zc (gVar 5) gNil))) (gVar 5))))
  (sRet (gK (.bool false)))
  sNil)
  (sRet (g2 eqD (gA (zt 2 F_home) (zc (gVar 1) (zc (gVar 14) gNil))) (gA (zt 3 F_put) (zc (gVar 1) (zc (gA (zt 2 F_home) (zc (gVar 1) (zc (gVar 12) gNil))) (zc (gA (zt 2 F_home) (zc (gVar 1) (zc (gVar 13) gNil))) gNil))))))))))))))))))))))) [some (.val (scrD (ns.map PyData.int))),some (.val (zp c ls)),x2,none,none,none,none,none,none,none,none,none,none,none,none]=some (.ret (.bool true)):=by
 have hc:=O.ec
 have hn:=O.en
 let S:Option En:=some (.val (scrD (ns.map PyData.int)))
 let Y:Option En:=some (.val (zp c ls))
 let L:=lasL n ls n
 obtain ⟨z,ez,sz,lz⟩:=zh2 O h1
 let Z:=rowL n z
 have hZ:Z ∈ L:=xO O sz
 have lZ:Lik n ls (fun _=>0) (pf Z):=yi lz
 have Lp:0 < L.length:=List.length_pos_of_mem hZ
 have pick1:∀ m:Int,∃ q,q ∈ L∧ixD (.tuple (L.map trD)) (.int (m % (L.length:Int)))=some (trD q):=fun m=>by
  have a:=Int.emod_nonneg m (b:=(L.length:Int)) (by omega)
  have b:=Int.emod_lt_of_pos m (b:=(L.length:Int)) (by omega)
  have hi:(m % (L.length:Int)).toNat < L.length:=by omega
  exact ⟨L[(m % (L.length:Int)).toNat],List.getElem_mem hi,zlm L a (List.getElem?_eq_getElem hi)⟩
 obtain ⟨one,h1L,e1⟩:=pick1 (mixI ns 1)
 obtain ⟨oth,h2L,e2⟩:=pick1 (mixI ns 2)
 have el:lenD [.tuple (L.map trD)]=some (.int (L.length:Int)):=by
  show some (PyData.int ((L.map trD).length:Nat))=_
  rw [List.length_map]
 let a:=pf one
 have a0:=yD O h1L
 obtain ⟨lo1,so1⟩:=(qu O one).mp h1L
 obtain ⟨u,eu,su,lu⟩:=zgu O h1 so1
 let U:=rowL n u
 have hU:U ∈ L:=xO O su
 have lU:Lik n ls (fun k=>-pf one k) (pf U):=yi lu
 let X3:Option En:=some (.val (.tuple (L.map trD)))
 let X4:Option En:=some (.val (trD Z))
 let X5:Option En:=some (.val (trD one))
 let X6:Option En:=some (.val (trD oth))
 let X7:Option En:=some (.val (.list []))
 let X8:Option En:=some (.val (trD U))
 rw [zm (ρ':=[S,Y,x2,X3,none,none,none,none,none,none,none,none,none,none,none]) (zG (zu (za (x:=zp c ls) rfl zg) (by rw [xn];exact ziW O (fun i hi=>by have:=hs i hi;omega) hb)) rfl),
  zm (ρ':=[S,Y,x2,X3,X4,none,none,none,none,none,none,none,none,none,none]) (zG (d:=trD Z) (zu (za (x:=zp c ls) rfl zg) (by rw [xn,wL];exact ez)) rfl),
  zm (ρ':=[S,Y,x2,X3,X4,X5,none,none,none,none,none,none,none,none,none]) (zG (zy (x:=.tuple (L.map trD)) rfl (zy (vV (ns:=ns) 1 (by omega) rfl) (zu (za (x:=.tuple (L.map trD)) rfl zg) el) (ja (by omega))) e1) rfl),
  zm (ρ':=[S,Y,x2,X3,X4,X5,X6,none,none,none,none,none,none,none,none]) (zG (zy (x:=.tuple (L.map trD)) rfl (zy (vV (ns:=ns) 2 (by omega) rfl) (zu (za (x:=.tuple (L.map trD)) rfl zg) el) (ja (by omega))) e2) rfl)]
 have zz:∀ x,x ∈ L→stp n ls (pf Z) x=x:=fun x hx=>yC O hx (xR O (yD O hZ) hx).1 (Lik.trans (((Lik.refl (pf x)).add lZ).eqv (fun j _=>by show pf x j + 0=_;omega) fun _ _=>rfl) (xR O (yD O hZ) hx).2)
 rw [zm (ρ':=[S,Y,x2,X3,X4,X5,X6,X7,none,none,none,none,none,none,none]) (by
  refine wa (ds:=[]) (zL (qJ (x:=.tuple (L.map trD)) rfl (qG _)) (by rw [List.length_map];show L.length ≤ _;have:L.length < 1999:=hL;omega) ?_)
  have:=zal (h:=hName 0) (gt:=gBo (g2 neD (gA (zt 3 F_put) (zc (gVar 1) (zc (gVar 0) (zc (gVar 2) gNil)))) (gVar 0))) (ge:=gVar 0) (ρ:=[none,Y,X4]) trD (fun _=>false) trD L fun x hx=>⟨[some (.val (trD x)),Y,X4],rfl,jO (zy (zu (za (x:=zp c ls) rfl (za (x:=trD x) rfl (za (x:=trD Z) rfl zg))) (by rw [jN];exact yp O hx hZ)) (y:=trD x) rfl (by rw [zz x hx,zi5];simp)),rfl⟩
  rw [List.filter_eq_nil_iff.mpr fun _ _=>by decide] at this
  exact this)]
 have nin:∀ {q:List Int},q ∈ L→jX (trD q) (.tuple (L.map trD))=some (.bool false):=fun {q} hq=>by rw [zg9,decide_eq_true hq];rfl
 rw [zm (ρ':=[S,Y,x2,X3,X4,X5,X6,X7,none,none,none,none,none,none,none]) (by
  rw [kB (yg (a:=false) (b:=false) (jO (zy (x:=trD Z) rfl (y:=.tuple (L.map trD)) rfl (nin hZ))) fun _=>jO (zy (x:=.list []) rfl (jz (vG zg (by simp))) (zln [] [])))]
  rfl)]
 rw [zm (ρ':=[S,Y,x2,X3,X4,X5,X6,X7,X8,none,none,none,none,none,none]) (zG (d:=trD U) (zu (za (x:=zp c ls) rfl (za (x:=trD one) rfl zg)) (by rw [zQ,zhR O h1L,wL];exact eu)) rfl)]
 have un:stp n ls (pf U) one=Z:=yC O hZ (xR O (yD O hU) h1L).1 (Lik.trans (lZ.symm.trans (((Lik.refl (pf one)).add lU).eqv (fun j _=>by show pf one j + -pf one j=0;omega) fun _ _=>rfl)) (xR O (yD O hU) h1L).2)
 rw [zm (ρ':=[S,Y,x2,X3,X4,X5,X6,X7,X8,none,none,none,none,none,none]) (by
  rw [kB (yg (a:=false) (b:=false) (jO (zy (x:=trD U) rfl (y:=.tuple (L.map trD)) rfl (nin hU))) fun _=>yg (a:=false) (b:=false) (jO (zy (zu (za (x:=zp c ls) rfl (za (x:=trD one) rfl (za (x:=trD U) rfl zg))) (by rw [jN];exact yp O h1L hU)) (y:=trD Z) rfl (by rw [un,zi5];simp))) fun _=>jO (zy (zu (za (x:=zp c ls) rfl (za (x:=trD one) rfl (za (x:=trD oth) rfl zg))) (by rw [jN];exact yp O h1L h2L)) (y:=.tuple (L.map trD)) rfl (nin (xR O (yD O h2L) h1L).1)))]
  rfl)]
 have hL' : L.length < 1999:=hL
 rw [zm (ρ':=[S,Y,x2,X3,X4,X5,X6,X7,X8,none,none,none,none,none,none]) (by
  rw [kB (jO (zy (x:=.int (L.length:Int)) (zu (za (jz (zL (r:=(L.map (stp n ls a)).map trD) (qJ (x:=.tuple (L.map trD)) rfl (qG _)) (by rw [List.length_map];omega) (by
   rw [List.map_map]
   exact zam trD _ L fun x hx=>⟨[some (.val (trD x)),Y,X5],rfl,zu (za (x:=zp c ls) rfl (za (x:=trD x) rfl (za (x:=trD one) rfl zg))) (by rw [jN];exact yp O hx h1L)⟩))) zg) (by
   rw [ze3 (zfa O a0) (by rw [List.length_map];exact hL),List.length_map])) (zu (za (x:=.tuple (L.map trD)) rfl zg) el) (by rw [zb6];simp)))]
  rfl)]
 let od:=ordI n ls a
 have op:1 ≤ od:=zfi O h1 a
 have ol:od ∣ (L.length:Int):=zjc O h1 a0
 have ob:od ≤ (L.length:Int):=Int.le_of_dvd (by omega) ol
 let X9:Option En:=vI od
 rw [zm (ρ':=[S,Y,x2,X3,X4,X5,X6,X7,X8,X9,none,none,none,none,none]) (zG (zu (za (x:=zp c ls) rfl (za (x:=trD one) rfl zg)) (by rw [zQ,zhR O h1L];exact zha O h1 h5 (rr16 O hs) so1.nn so1.lt so1.last)) rfl),
  zm (ρ':=[S,Y,x2,X3,X4,X5,X6,X7,X8,X9,X5,none,none,none,none]) rfl]
 have er:wK [.int od]=some (zT 0 od.toNat):=by
  rw [ke (by omega) (by omega)]
 obtain ⟨ρ1,e9,x11,hr⟩:=jI (h:=hName 11) (gb:=zai) (fun i ρ=>∃ x11,ρ=[S,Y,x2,X3,X4,X5,X6,X7,X8,X9,some (.val (trD (itr (stp n ls a) i one))),x11,none,none,none]) (zT 0 od.toNat) 0 [S,Y,x2,X3,X4,X5,X6,X7,X8,X9,X5,none,none,none,none] ⟨none,rfl⟩ (by
  rintro k d ρ hd ⟨x11,rfl⟩
  obtain ⟨hk,rfl⟩:=qZ hd
  rw [Nat.zero_add,Int.zero_add]
  obtain ⟨m1,l1⟩:=zeP O a0 k h1L
  let at':=itr (stp n ls a) k one
  let A10:Option En:=some (.val (trD at'))
  have iff1:at'=Z ↔ (k:Int)=od - 1:=by
   have e0:(∀ j,j < n→pf one j + (k:Int) * a j=((k + 1:Nat):Int) * a j):=fun j _=>by
    rw [show ((k + 1:Nat):Int)=(k:Int) + 1 by omega,Int.add_mul,Int.one_mul]
    show a j + (k:Int) * a j=_
    omega
   have l1' : Lik n ls (fun j=>((k + 1:Nat):Int) * a j) (pf at'):=l1.eqv e0 fun _ _=>rfl
   have q:=zfh O h1 a ((k + 1:Nat):Int)
   constructor
   ·intro e
    have:Lik n ls (fun _=>0) fun j=>((k + 1:Nat):Int) * a j:=by
     rw [e] at l1'
     exact lZ.trans l1'.symm
    have d:=q.mp this
    have:=Int.le_of_dvd (by omega) d
    have hk' : k < od.toNat:=hk
    omega
   ·intro e
    have d:ordI n ls a ∣ ((k + 1:Nat):Int):=by
     rw [show ((k + 1:Nat):Int)=od by omega]
     exact Int.dvd_refl _
    exact yC O hZ m1 (lZ.symm.trans ((q.mpr d).trans l1'))
  have st:itr (stp n ls a) (k + 1) one=stp n ls a at':=yh (stp n ls a) k 1 one
  refine ⟨[S,Y,x2,X3,X4,X5,X6,X7,X8,X9,A10,vI k,none,none,none],[S,Y,x2,X3,X4,X5,X6,X7,X8,X9,some (.val (trD (itr (stp n ls a) (k + 1) one))),vI k,none,none,none],rfl,?_,vI k,rfl⟩
  unfold zai
  have ec:gBo (g2 neD (g2 eqD (gVar 10) (gVar 4)) (g2 eqD (gVar 11) (g2 subD (gVar 9) (gK (.int 1))))) [S,Y,x2,X3,X4,X5,X6,X7,X8,X9,A10,vI k,none,none,none]=some false:=by
   refine jO (zy (zy (x:=trD at') rfl (y:=trD Z) rfl (zj8 _ _)) (zy (x:=.int k) rfl (zy (x:=.int od) rfl zI (wU _ _)) (zbZ _ _)) ?_)
   rw [decide_eq_decide.mpr iff1]
   exact zgw _
  rw [zm (ρ':=[S,Y,x2,X3,X4,X5,X6,X7,X8,X9,A10,vI k,none,none,none]) (by rw [kB ec];rfl),st]
  exact zG (zu (za (x:=zp c ls) rfl (za (x:=trD at') rfl (za (x:=trD one) rfl zg))) (by rw [jN];exact yp O m1 h1L)) rfl)
 subst hr
 rw [zm (qL (jt (za (x:=.int od) rfl zg) er) e9)]
 generalize some (En.val (trD (itr (stp n ls a) (0 + (zT 0 od.toNat).length) one)))=X10
 rw [zm (ρ':=[S,Y,x2,X3,X4,X5,X6,X7,X8,X9,X10,x11,none,none,none]) (by
  rw [kB (yg (a:=false) (b:=false) (zbh (zeG (x:=.int od) rfl rfl)) fun _=>jO (zy (zy (zu (za (x:=.tuple (L.map trD)) rfl zg) el) (y:=.int od) rfl (ja (by omega))) zI (by rw [zb6,decide_eq_true (Int.emod_eq_zero_of_dvd ol)];rfl)))]
  rfl)]
 let f:Nat→Int:=grI' (mixI ns 3) 9
 let g:Nat→Int:=grI' (mixI ns 4) 9
 let F12:Option En:=some (.val (.tuple (vD n f)))
 let F13:Option En:=some (.val (.tuple (vD n g)))
 let F14:Option En:=some (.val (.tuple (vD n fun k=>f k + g k)))
 rw [zm (ρ':=[S,Y,x2,X3,X4,X5,X6,X7,X8,X9,X10,x11,F12,none,none]) (zG (zu (za (vV (ns:=ns) 3 (by omega) rfl) (za (zy (x:=zp c ls) rfl zI (jA _ _)) (za zI zg))) (by rw [jN];exact zbi _ c n hc 9 hn (by omega))) rfl),
  zm (ρ':=[S,Y,x2,X3,X4,X5,X6,X7,X8,X9,X10,x11,F12,F13,none]) (zG (zu (za (vV (ns:=ns) 4 (by omega) rfl) (za (zy (x:=zp c ls) rfl zI (jA _ _)) (za zI zg))) (by rw [jN];exact zbi _ c n hc 9 hn (by omega))) rfl),
  zm (ρ':=[S,Y,x2,X3,X4,X5,X6,X7,X8,X9,X10,x11,F12,F13,F14]) (zG (zu (za (jz (zL (jt (za (x:=.tuple (vD n f)) rfl (za (x:=.tuple (vD n g)) rfl zg)) (kx n f g)) (by rw [List.length_map,List.length_range];omega) (jm _ (fun k=>.int (f k + g k)) fun k hk=>⟨[vI (f k),vI (g k)],rfl,zy (x:=.int (f k)) rfl (y:=.int (g k)) rfl (zH _ _)⟩))) zg) (zN _)) rfl)]
 obtain ⟨r1,er1,sr1,lr1⟩:=xV O h1 f
 obtain ⟨r2,er2,sr2,lr2⟩:=xV O h1 g
 obtain ⟨rB,erB,srB,lrB⟩:=xV O h1 fun k=>f k + g k
 obtain ⟨r0,er0,sr0,lr0⟩:=xV O h1 (pf one)
 rw [show PyData.tuple (vD n r1)=trD (rowL n r1) from (wL n r1).symm] at er1
 rw [show PyData.tuple (vD n r2)=trD (rowL n r2) from (wL n r2).symm] at er2
 rw [show PyData.tuple (vD n rB)=trD (rowL n rB) from (wL n rB).symm] at erB
 rw [show PyData.tuple (vD n r0)=trD (rowL n r0) from (wL n r0).symm] at er0
 have hR1:=xO O sr1
 have hR2:=xO O sr2
 have hRB:=xO O srB
 have hR0:rowL n r0=one:=yC O h1L (xO O sr0) (yi lr0)
 rw [zm (ρ':=[S,Y,x2,X3,X4,X5,X6,X7,X8,X9,X10,x11,F12,F13,F14]) (by
  rw [kB (yg (a:=false) (b:=false) (jO (zy (zu (za (x:=zp c ls) rfl (za (x:=.tuple (vD n f)) rfl zg)) (by rw [zQ];exact er1)) (y:=.tuple (L.map trD)) rfl (nin hR1))) fun _=>jO (zy (zu (za (x:=zp c ls) rfl (za (x:=trD one) rfl zg)) (by rw [zQ,zhR O h1L];exact er0)) (y:=trD one) rfl (by rw [hR0,zi5];simp)))]
  rfl)]
 have fin:rowL n rB=stp n ls (pf (rowL n r2)) (rowL n r1):=by
  obtain ⟨m2,l2⟩:=xR O (yD O hR2) hR1
  exact yC O m2 hRB (l2.symm.trans (((yi lr1).symm.add (yi lr2).symm).trans (yi lrB)))
 exact zX (zy (zu (za (x:=zp c ls) rfl (za (x:=.tuple (vD n fun k=>f k + g k)) rfl zg)) (by rw [zQ];exact erB)) (zu (za (x:=zp c ls) rfl (za (zu (za (x:=zp c ls) rfl (za (x:=.tuple (vD n f)) rfl zg)) (by rw [zQ];exact er1)) (za (zu (za (x:=zp c ls) rfl (za (x:=.tuple (vD n g)) rfl zg)) (by rw [zQ];exact er2)) zg))) (by rw [jN];exact yp O hR1 hR2)) (by rw [← fin,zj8];simp))
end L2.Y
namespace L2.Y
open PySem L2.Sd
theorem zik {m n k:Nat} (hm:1 ≤ m) (h:k ≤ n):m ^ k ≤ m ^ n:=Nat.pow_le_pow_right hm h
theorem zg0 (ns:List Int) (hl:ns.length ≤ 63):F_law [scrD (ns.map PyData.int)]=some (.bool true):=by
 obtain ⟨c,ls,ey,gy⟩:=zgh (mixI ns 0) 3 2 (by omega) (by omega) (by omega)
 obtain ⟨c',ls',ey',gy'⟩:=zgh (mixI ns 0) 5 1 (by omega) (by omega) (by omega)
 have O:=zeJ gy (by omega) (by omega)
 have O':=zeJ gy' (by omega) (by omega)
 have k1:=gy.c1
 have k2:=gy.c2
 have k3:=gy'.c1
 have k4:=gy'.c2
 have f1:=gy.few
 have f2:=gy'.few
 have sA:∀ i,i < c.toNat→SZ c.toNat ls i ≤ 12:=fun i hi=>by have:=zfY O gy i hi;omega
 have sB:∀ i,i < c'.toNat→SZ c'.toNat ls' i ≤ 8:=fun i hi=>by have:=zfY O' gy' i hi;omega
 have bA:∀ k,k ≤ c.toNat→(lasL c.toNat ls k).length ≤ 1728:=fun k hk=>by
  have a:=zaz O k hk
  have b:=zfv (m:=12) (fun i hi=>by have:=sA i hi;omega) k hk
  have d:12 ^ k ≤ 12 ^ 3:=zik (by decide) (by omega)
  omega
 have bB:∀ k,k ≤ c'.toNat→(lasL c'.toNat ls' k).length ≤ 32768:=fun k hk=>by
  have a:=zaz O' k hk
  have b:=zfv (m:=8) (fun i hi=>by have:=sB i hi;omega) k hk
  have d:8 ^ k ≤ 8 ^ 5:=zik (by decide) (by omega)
  omega
 have er:=zjF O'
 let S:Option En:=some (.val (scrD (ns.map PyData.int)))
 let Y:Option En:=some (.val (zp c ls))
 let Y' : Option En:=some (.val (zp c' ls'))
 unfold F_law
 refine zB ?_
 show ziy [S,none,none,none,none,none,none,none,none,none,none,none,none,none,none]=_
 unfold ziy
 rw [zm (ρ':=[S,Y,none,none,none,none,none,none,none,none,none,none,none,none,none]) (zG (zu (za (vV (ns:=ns) 0 (by omega) rfl) (za zI (za zI zg))) (by rw [jN];exact ey)) rfl),
  zm (ρ':=[S,Y,Y',none,none,none,none,none,none,none,none,none,none,none,none]) (zG (zu (za (vV (ns:=ns) 0 (by omega) rfl) (za zI (za zI zg))) (by rw [jN];exact ey')) rfl)]
 have ec:zeI (gBo (g2 eqD (g2 modD (gA (zt 2 F_law_mixed) (zc (gVar 0) (zc (gK (.int 8)) gNil))) (gK (.int 3))) (gK (.int 1)))) (gBo (g2 leD (gA (zt 1 F_law_room) (zc (gVar 2) gNil)) (gK (.int 200)))) [S,Y,Y',none,none,none,none,none,none,none,none,none,none,none,none]=some (decide (mixI ns 8 % 3=1) && decide (((prN c'.toNat ls' c'.toNat:Nat):Int) ≤ 200)) :=
  zgE (jO (zy (zy (vV (ns:=ns) 8 (by omega) rfl) zI (ja (by omega))) zI (zbZ _ _))) fun _=>jO (zy (zu (za (x:=zp c' ls') rfl zg) (by rw [xn];exact er)) zI (ziZ _ _))
 cases z:(decide (mixI ns 8 % 3=1) && decide (((prN c'.toNat ls' c'.toNat:Nat):Int) ≤ 200)) with
 | true =>
  rw [z] at ec
  have z2:=of_decide_eq_true (Bool.and_eq_true _ _ ▸ z).2
  rw [zm (ρ':=[S,Y',Y',none,none,none,none,none,none,none,none,none,none,none,none]) (by rw [zk0 ec];rfl)]
  exact zit ns O' (by omega) (by omega) (fun i hi=>by have:=sB i hi;omega) (by have:=zaz O' c'.toNat (Nat.le_refl _);omega) (fun k hk=>by have:=bB k hk;omega) _
 | false =>
  rw [z] at ec
  rw [zm (ρ':=[S,Y,Y',none,none,none,none,none,none,none,none,none,none,none,none]) (by rw [kB ec];rfl)]
  exact zit ns O (by omega) (by omega) (fun i hi=>by have:=sA i hi;omega) (by have:=bA c.toNat (Nat.le_refl _);omega) (fun k hk=>by have:=bA k hk;omega) _
end L2.Y
set_option maxHeartbeats 4000000
namespace L2.Y
open PySem PySem.Spec PyProof.Rows
local macro_rules | `(! $x)=>`(by exact $x)
noncomputable def top (i:Nat):Stmt:=PySem.Challenge.pw_sandyard_k22_whole_dial.main.body.getD i (.Pass ⟨0,0,0,0⟩)
set_option genInjectivity false in
set_option genSizeOf false in
structure Adr where
 f_size_of:Addr
 d_size_of:FuncData
 f_sizes:Addr
 d_sizes:FuncData
 f_between:Addr
 d_between:FuncData
 f_all_below:Addr
 d_all_below:FuncData
 f_change_by:Addr
 d_change_by:FuncData
 f_changed:Addr
 d_changed:FuncData
 f_rests:Addr
 d_rests:FuncData
 f_settled:Addr
 d_settled:FuncData
 f_put:Addr
 d_put:FuncData
 f_ties_to:Addr
 d_ties_to:FuncData
 f_catching:Addr
 d_catching:FuncData
 f_burn:Addr
 d_burn:FuncData
 f_is_lasting:Addr
 d_is_lasting:FuncData
 f_determinant:Addr
 d_determinant:FuncData
 f_times_for:Addr
 d_times_for:FuncData
 f_common_divisor:Addr
 d_common_divisor:FuncData
 f_without:Addr
 d_without:FuncData
 f_fullest:Addr
 d_fullest:FuncData
 f_least_heap:Addr
 d_least_heap:FuncData
 f_one_heap_longer:Addr
 d_one_heap_longer:FuncData
 f_lasting:Addr
 d_lasting:FuncData
 f_lift_of:Addr
 d_lift_of:FuncData
 f_home:Addr
 d_home:FuncData
 f_zero:Addr
 d_zero:FuncData
 f_refuse_unless_lasting:Addr
 d_refuse_unless_lasting:FuncData
 f_back:Addr
 d_back:FuncData
 f_order_of:Addr
 d_order_of:FuncData
 f_law_cell_at:Addr
 d_law_cell_at:FuncData
 f_law_mixed:Addr
 d_law_mixed:FuncData
 f_law_drawn:Addr
 d_law_drawn:FuncData
 f_law_yard:Addr
 d_law_yard:FuncData
 f_law_grains:Addr
 d_law_grains:FuncData
 f_law_room:Addr
 d_law_room:FuncData
 f_law:Addr
 d_law:FuncData
structure Tx (K:Frag) (mg:Str→Option Value) (a:Adr):Prop where
 F_size_of:Fun K "size_of" "size_of" (top 5) a.f_size_of a.d_size_of
 b_size_of:Binds K a.d_size_of ["yard", "place"] []
 m_size_of:mg "size_of" = some (.ref a.f_size_of)
 F_sizes:Fun K "sizes" "sizes" (top 6) a.f_sizes a.d_sizes
 b_sizes:Binds K a.d_sizes ["yard"] []
 m_sizes:mg "sizes" = some (.ref a.f_sizes)
 F_between:Fun K "between" "between" (top 7) a.f_between a.d_between
 b_between:Binds K a.d_between ["yard", "one", "other"] []
 m_between:mg "between" = some (.ref a.f_between)
 F_all_below:Fun K "all_below" "all_below" (top 9) a.f_all_below a.d_all_below
 b_all_below:Binds K a.d_all_below ["heaps", "limits"] []
 m_all_below:mg "all_below" = some (.ref a.f_all_below)
 F_change_by:Fun K "change_by" "change_by" (top 10) a.f_change_by a.d_change_by
 b_change_by:Binds K a.d_change_by ["yard", "place"] []
 m_change_by:mg "change_by" = some (.ref a.f_change_by)
 F_changed:Fun K "changed" "changed" (top 11) a.f_changed a.d_changed
 b_changed:Binds K a.d_changed ["heaps", "change", "often"] []
 m_changed:mg "changed" = some (.ref a.f_changed)
 F_rests:Fun K "rests" "rests" (top 12) a.f_rests a.d_rests
 b_rests:Binds K a.d_rests ["yard", "grains"] []
 m_rests:mg "rests" = some (.ref a.f_rests)
 F_settled:Fun K "settled" "settled" (top 13) a.f_settled a.d_settled
 b_settled:Binds K a.d_settled ["yard", "grains"] []
 m_settled:mg "settled" = some (.ref a.f_settled)
 F_put:Fun K "put" "put" (top 14) a.f_put a.d_put
 b_put:Binds K a.d_put ["yard", "one", "other"] []
 m_put:mg "put" = some (.ref a.f_put)
 F_ties_to:Fun K "ties_to" "ties_to" (top 16) a.f_ties_to a.d_ties_to
 b_ties_to:Binds K a.d_ties_to ["yard", "place", "others"] []
 m_ties_to:mg "ties_to" = some (.ref a.f_ties_to)
 F_catching:Fun K "catching" "catching" (top 17) a.f_catching a.d_catching
 b_catching:Binds K a.d_catching ["yard", "grains", "unburnt"] []
 m_catching:mg "catching" = some (.ref a.f_catching)
 F_burn:Fun K "burn" "burn" (top 18) a.f_burn a.d_burn
 b_burn:Binds K a.d_burn ["yard", "grains"] []
 m_burn:mg "burn" = some (.ref a.f_burn)
 F_is_lasting:Fun K "is_lasting" "is_lasting" (top 19) a.f_is_lasting a.d_is_lasting
 b_is_lasting:Binds K a.d_is_lasting ["yard", "grains"] []
 m_is_lasting:mg "is_lasting" = some (.ref a.f_is_lasting)
 F_determinant:Fun K "determinant" "determinant" (top 21) a.f_determinant a.d_determinant
 b_determinant:Binds K a.d_determinant ["rows"] []
 m_determinant:mg "determinant" = some (.ref a.f_determinant)
 F_times_for:Fun K "times_for" "times_for" (top 22) a.f_times_for a.d_times_for
 b_times_for:Binds K a.d_times_for ["yard", "difference"] []
 m_times_for:mg "times_for" = some (.ref a.f_times_for)
 F_common_divisor:Fun K "common_divisor" "common_divisor" (top 23) a.f_common_divisor a.d_common_divisor
 b_common_divisor:Binds K a.d_common_divisor ["one", "other"] []
 m_common_divisor:mg "common_divisor" = some (.ref a.f_common_divisor)
 F_without:Fun K "without" "without" (top 25) a.f_without a.d_without
 b_without:Binds K a.d_without ["heaps", "fewer"] []
 m_without:mg "without" = some (.ref a.f_without)
 F_fullest:Fun K "fullest" "fullest" (top 26) a.f_fullest a.d_fullest
 b_fullest:Binds K a.d_fullest ["yard"] []
 m_fullest:mg "fullest" = some (.ref a.f_fullest)
 F_least_heap:Fun K "least_heap" "least_heap" (top 27) a.f_least_heap a.d_least_heap
 b_least_heap:Binds K a.d_least_heap ["yard", "ahead", "behind"] []
 m_least_heap:mg "least_heap" = some (.ref a.f_least_heap)
 F_one_heap_longer:Fun K "one_heap_longer" "one_heap_longer" (top 28) a.f_one_heap_longer a.d_one_heap_longer
 b_one_heap_longer:Binds K a.d_one_heap_longer ["yard", "start", "full"] []
 m_one_heap_longer:mg "one_heap_longer" = some (.ref a.f_one_heap_longer)
 F_lasting:Fun K "lasting" "lasting" (top 29) a.f_lasting a.d_lasting
 b_lasting:Binds K a.d_lasting ["yard"] []
 m_lasting:mg "lasting" = some (.ref a.f_lasting)
 F_lift_of:Fun K "lift_of" "lift_of" (top 30) a.f_lift_of a.d_lift_of
 b_lift_of:Binds K a.d_lift_of ["yard"] []
 m_lift_of:mg "lift_of" = some (.ref a.f_lift_of)
 F_home:Fun K "home" "home" (top 31) a.f_home a.d_home
 b_home:Binds K a.d_home ["yard", "grains"] []
 m_home:mg "home" = some (.ref a.f_home)
 F_zero:Fun K "zero" "zero" (top 32) a.f_zero a.d_zero
 b_zero:Binds K a.d_zero ["yard"] []
 m_zero:mg "zero" = some (.ref a.f_zero)
 F_refuse_unless_lasting:Fun K "refuse_unless_lasting" "refuse_unless_lasting" (top 33) a.f_refuse_unless_lasting a.d_refuse_unless_lasting
 b_refuse_unless_lasting:Binds K a.d_refuse_unless_lasting ["yard", "grains"] []
 m_refuse_unless_lasting:mg "refuse_unless_lasting" = some (.ref a.f_refuse_unless_lasting)
 F_back:Fun K "back" "back" (top 34) a.f_back a.d_back
 b_back:Binds K a.d_back ["yard", "grains"] []
 m_back:mg "back" = some (.ref a.f_back)
 F_order_of:Fun K "order_of" "order_of" (top 35) a.f_order_of a.d_order_of
 b_order_of:Binds K a.d_order_of ["yard", "grains"] []
 m_order_of:mg "order_of" = some (.ref a.f_order_of)
 F_law_cell_at:Fun K "_law_cell_at" "_law_cell_at" (top 37) a.f_law_cell_at a.d_law_cell_at
 b_law_cell_at:Binds K a.d_law_cell_at ["_law_script", "_law_k"] []
 m_law_cell_at:mg "_law_cell_at" = some (.ref a.f_law_cell_at)
 F_law_mixed:Fun K "_law_mixed" "_law_mixed" (top 38) a.f_law_mixed a.d_law_mixed
 b_law_mixed:Binds K a.d_law_mixed ["_law_script", "_law_k"] []
 m_law_mixed:mg "_law_mixed" = some (.ref a.f_law_mixed)
 F_law_drawn:Fun K "_law_drawn" "_law_drawn" (top 39) a.f_law_drawn a.d_law_drawn
 b_law_drawn:Binds K a.d_law_drawn ["_law_number", "_law_k"] []
 m_law_drawn:mg "_law_drawn" = some (.ref a.f_law_drawn)
 F_law_yard:Fun K "_law_yard" "_law_yard" (top 40) a.f_law_yard a.d_law_yard
 b_law_yard:Binds K a.d_law_yard ["_law_number", "_law_most", "_law_wide"] []
 m_law_yard:mg "_law_yard" = some (.ref a.f_law_yard)
 F_law_grains:Fun K "_law_grains" "_law_grains" (top 41) a.f_law_grains a.d_law_grains
 b_law_grains:Binds K a.d_law_grains ["_law_number", "_law_count", "_law_most"] []
 m_law_grains:mg "_law_grains" = some (.ref a.f_law_grains)
 F_law_room:Fun K "_law_room" "_law_room" (top 42) a.f_law_room a.d_law_room
 b_law_room:Binds K a.d_law_room ["_law_yard_here"] []
 m_law_room:mg "_law_room" = some (.ref a.f_law_room)
 F_law:Fun K "law" "law" (top 43) a.f_law a.d_law
 b_law:Binds K a.d_law ["_law_script"] []
 m_law:mg "law" = some (.ref a.f_law)
 n_abs:mg "abs" = none
 n_all:mg "all" = none
 n_bool:mg "bool" = none
 n_enumerate:mg "enumerate" = none
 n_isinstance:mg "isinstance" = none
 n_len:mg "len" = none
 n_list:mg "list" = none
 n_max:mg "max" = none
 n_min:mg "min" = none
 n_range:mg "range" = none
 n_set:mg "set" = none
 n_sorted:mg "sorted" = none
 n_sum:mg "sum" = none
 n_tuple:mg "tuple" = none
 n_zip:mg "zip" = none
section
variable (P:Program) (w:World) (K:Frag) (mg:Str→Option Value) (base:Heap) (a:Adr) (cdv:Value) (A:Around) (outer:List Env) (s:Shared) (H:Hp) (E:XK)
end
section
variable {P:Program} {w:World} {K:Frag} {mg:Str→Option Value} {base:Heap} {a:Adr}
theorem zdX:FnScope ["yard", "place"] ["yard", "place"] (zd (top 5)):=⟨rfl,rfl,rfl,by decide +kernel,rfl,by decide +kernel,by decide +kernel⟩
theorem kU (T:Tx K mg a):FnOk P w K mg base CX0 1 a.f_size_of a.d_size_of ["yard", "place"] (spD K 2 F_size_of):=by
 refine jF (N:=["yard", "place"]) T.F_size_of zdX fun cdv A outer s H E hr => ?_
 have hu66:=vH hr
 conv in (zk _)=>whnf
 exact (!zn (!zw (!zO (xE (!rfl)) (!rfl) T.n_sum boot_sum (!jf (!rfl) (!PD.b (!PFr.d_ (!jv (zF (oscope:=zd (top 5)) (oN:=["yard", "place"]) (own:=["one", "other", "many"]) (caps:=[1]) (N:=["one", "other", "many", "place"]) (by decide +kernel) (!rfl) (!rfl)) (by decide) (xY (jo (zx (by decide)) (jo (zx (by decide)) (jo (zx (by decide)) xX)))) (!rfl) (!jM (!jL (!PD.b (!zb (pv 0))) (!PD.b (!zj)) (fun _ _=>(!rfl)))) (fun _ _ _ _ _=>(!qT (!rfl) (!zM (!zf (zJ (i:=0) (nd_ ["one", "other", "many", "place"]) (!rfl) (Or.inl (!rfl)))) (!zM (!zf (zJ (i:=1) (nd_ ["one", "other", "many", "place"]) (!rfl) (Or.inl (!rfl)))) (!zM (!zf (zJ (i:=2) (nd_ ["one", "other", "many", "place"]) (!rfl) (Or.inl (!rfl)))) (!qk)))))) (fun _ _ _ _ _=>(!xj (!jk (zij hu66) (!PD.b (!zb (pv 3))) (!PD.b (!qQ (!zi (!rfl) (!zb (pv 0)) (!zi (!rfl) (!zb (pv 1)) (!zh))))) (by rfl)))) (fun _ _ _ _ _=>(!zb (pv 2)))))) (!zD)))))
theorem ziB:FnScope ["yard"] ["yard"] (zd (top 6)):=⟨rfl,rfl,rfl,by decide +kernel,rfl,by decide +kernel,by decide +kernel⟩
theorem yT (T:Tx K mg a):FnOk P w K mg base CX0 2 a.f_sizes a.d_sizes ["yard"] (spD K 1 F_sizes):=by
 have O_size_of:=kU (P:=P) (w:=w) (base:=base) T
 refine jF (N:=["yard"]) T.F_sizes ziB fun cdv A outer s H E hr => ?_
 conv in (zk _)=>whnf
 exact (!zn (!zw (!jb zK (!rfl) T.n_tuple boot_tuple (!jf (!rfl) (!PD.b (!PFr.d_ (!jv (zF (oscope:=zd (top 6)) (oN:=["yard"]) (own:=["place"]) (caps:=[0]) (N:=["place", "yard"]) (by decide +kernel) (!rfl) (!rfl)) (by decide) (zx (by decide)) (!rfl) (!qB (!rfl) T.n_range (!zi (!rfl) (!zj) (!zi (!rfl) (!zC zA (!PD.b (!jL (!PD.b (!zb (pv 0))) (!PD.b (!zj)) (fun _ _=>(!rfl)))) (!PD.b (!zj))) (!zh)))) (fun _ _ _ _ _=>(!zf (zJ (i:=0) (nd_ ["place", "yard"]) (!rfl) (Or.inl (!rfl))))) (fun _ _ _ _ _=>(!zS)) (fun _ _ _ _ _=>(!zo O_size_of (hr.mono (by omega)) (!rfl) T.m_size_of T.F_size_of.kp T.b_size_of (!zi (!rfl) (!zb (pv 1)) (!zi (!rfl) (!zb (pv 0)) (!zh)))))))) (!zD)))))
theorem zaV:FnScope ["yard", "one", "other", "pair"] ["yard", "one", "other"] (zd (top 7)):=⟨rfl,rfl,rfl,by decide +kernel,rfl,by decide +kernel,by decide +kernel⟩
theorem kS (T:Tx K mg a):FnOk P w K mg base CX0 1 a.f_between a.d_between ["yard", "one", "other"] (spD K 3 F_between):=by
 refine jF (N:=["yard", "one", "other", "pair"]) T.F_between zaV fun cdv A outer s H E hr => ?_
 have hu64:=zat hr
 conv in (zk _)=>whnf
 exact (!ze (!zr (!rfl) (!rfl) (!rfl) (!zf (!pgn (i:=3) zaV.nd)) (!qQ (!zi (!rfl) (!zO (za7 (!rfl)) (!rfl) T.n_min boot_min (!jf (!rfl) (!PD.b (!zb (pv 1))) (!jf (!rfl) (!PD.b (!zb (pv 2))) (!zD)))) (!zi (!rfl) (!zO (wx (!rfl)) (!rfl) T.n_max boot_max (!jf (!rfl) (!PD.b (!zb (pv 1))) (!jf (!rfl) (!PD.b (!zb (pv 2))) (!zD)))) (!zh))))) (!zn (!zw (!zO (xE (!rfl)) (!rfl) T.n_sum boot_sum (!jf (!rfl) (!PD.b (!PFr.d_ (!jv (zF (oscope:=zd (top 7)) (oN:=["yard", "one", "other", "pair"]) (own:=["tie"]) (caps:=[3]) (N:=["tie", "pair"]) (by decide +kernel) (!rfl) (!rfl)) (by decide) (zx (by decide)) (!rfl) (!jM (!jL (!PD.b (!zb (pv 0))) (!PD.b (!zj)) (fun _ _=>(!rfl)))) (fun _ _ _ _ _=>(!zf (zJ (i:=0) (nd_ ["tie", "pair"]) (!rfl) (Or.inl (!rfl))))) (fun _ _ _ _ _=>(!xj (!jk (kX hu64) (!PD.b (!qj (!PD.b (!zb (pv 0))) (!qm) (!qo (!PD.b (!zj))))) (!PD.b (!zb (pv 1))) (jW _)))) (fun _ _ _ _ _=>(!jL (!PD.b (!zb (pv 0))) (!PD.b (!zj)) (fun _ _=>(!rfl))))))) (!zD))))))
theorem zbT:FnScope ["heaps", "limits"] ["heaps", "limits"] (zd (top 9)):=⟨rfl,rfl,rfl,by decide +kernel,rfl,by decide +kernel,by decide +kernel⟩
theorem yE (T:Tx K mg a):FnOk P w K mg base CX0 1 a.f_all_below a.d_all_below ["heaps", "limits"] (spD K 2 F_all_below):=by
 refine jF (N:=["heaps", "limits"]) T.F_all_below zbT fun cdv A outer s H E hr => ?_
 have hu0:=zcC hr
 conv in (zk _)=>whnf
 exact (!zn (!zw (!zO (zei (!rfl)) (!rfl) T.n_all boot_all (!jf (!rfl) (!PD.b (!PFr.d_ (!jv (zF (oscope:=zd (top 9)) (oN:=["heaps", "limits"]) (own:=["heap", "limit"]) (caps:=[]) (N:=["heap", "limit"]) (by decide +kernel) (!rfl) (!rfl)) (by decide) (xY (jo (zx (by decide)) (jo (zx (by decide)) xX))) (!rfl) (!wJ (!rfl) T.n_zip (!zi (!rfl) (!zb (pv 0)) (!zi (!rfl) (!zb (pv 1)) (!zh)))) (fun _ _ _ _ _=>(!qT (!rfl) (!zM (!zf (zJ (i:=0) (nd_ ["heap", "limit"]) (!rfl) (Or.inl (!rfl)))) (!zM (!zf (zJ (i:=1) (nd_ ["heap", "limit"]) (!rfl) (Or.inl (!rfl)))) (!qk))))) (fun _ _ _ _ _=>(!zS)) (fun _ _ _ _ _=>(!zbw (zfg hu0) (!PD.b (!zb (pv 0))) (!PD.b (!zb (pv 1))) (jW _)))))) (!zD)))))
theorem vn:FnScope ["yard", "place", "change"] ["yard", "place"] (zd (top 10)):=⟨rfl,rfl,rfl,by decide +kernel,rfl,by decide +kernel,by decide +kernel⟩
theorem yF (T:Tx K mg a):FnOk P w K mg base CX0 2 a.f_change_by a.d_change_by ["yard", "place"] (spD K 2 F_change_by):=by
 have O_between:=kS (P:=P) (w:=w) (base:=base) T
 have O_size_of:=kU (P:=P) (w:=w) (base:=base) T
 refine jF (N:=["yard", "place", "change"]) T.F_change_by vn fun cdv A outer s H E hr => ?_
 conv in (zk _)=>whnf
 exact (!ze (!zfx (i:=2) (zF (oscope:=zd (top 10)) (oN:=["yard", "place", "change"]) (own:=["other"]) (caps:=[0,1]) (N:=["other", "yard", "place"]) (by decide +kernel) (!rfl) (!rfl)) (by decide) (zx (by decide)) (!rfl) (!qB (!rfl) T.n_range (!zi (!rfl) (!zj) (!zi (!rfl) (!zC zA (!PD.b (!jL (!PD.b (!zb (pv 0))) (!PD.b (!zj)) (fun _ _=>(!rfl)))) (!PD.b (!zj))) (!zh)))) (fun _ _ _ _ _=>(!zf (zJ (i:=0) (nd_ ["other", "yard", "place"]) (!rfl) (Or.inl (!rfl))))) (fun _ _ _ _ _=>(!zS)) (fun _ _ _ _ _=>(!zo O_between (hr.mono (by omega)) (!rfl) T.m_between T.F_between.kp T.b_between (!zi (!rfl) (!zb (pv 1)) (!zi (!rfl) (!zb (pv 2)) (!zi (!rfl) (!zb (pv 0)) (!zh)))))) vn.nd (!rfl) (!rfl) (!rfl)) (!ze (!zhr (pv 2) (!PD.b (!zC vX (!PD.b (!zb (pv 1))) (!PD.b (!zj)))) (!zhe zaT (!PD.b (!zo O_size_of (hr.mono (by omega)) (!rfl) T.m_size_of T.F_size_of.kp T.b_size_of (!zi (!rfl) (!zb (pv 0)) (!zi (!rfl) (!zb (pv 1)) (!zh))))))) (!zn (!zw (!jb zK (!rfl) T.n_tuple boot_tuple (!jf (!rfl) (!zbv (pv 2)) (!zD)))))))
theorem zdV:FnScope ["heaps", "change", "often"] ["heaps", "change", "often"] (zd (top 11)):=⟨rfl,rfl,rfl,by decide +kernel,rfl,by decide +kernel,by decide +kernel⟩
theorem kT (T:Tx K mg a):FnOk P w K mg base CX0 1 a.f_changed a.d_changed ["heaps", "change", "often"] (spD K 3 F_changed):=by
 refine jF (N:=["heaps", "change", "often"]) T.F_changed zdV fun cdv A outer s H E hr => ?_
 conv in (zk _)=>whnf
 exact (!zn (!zw (!jb zK (!rfl) T.n_tuple boot_tuple (!jf (!rfl) (!PD.b (!PFr.d_ (!jv (zF (oscope:=zd (top 11)) (oN:=["heaps", "change", "often"]) (own:=["heap", "more"]) (caps:=[2]) (N:=["heap", "more", "often"]) (by decide +kernel) (!rfl) (!rfl)) (by decide) (xY (jo (zx (by decide)) (jo (zx (by decide)) xX))) (!rfl) (!wJ (!rfl) T.n_zip (!zi (!rfl) (!zb (pv 0)) (!zi (!rfl) (!zb (pv 1)) (!zh)))) (fun _ _ _ _ _=>(!qT (!rfl) (!zM (!zf (zJ (i:=0) (nd_ ["heap", "more", "often"]) (!rfl) (Or.inl (!rfl)))) (!zM (!zf (zJ (i:=1) (nd_ ["heap", "more", "often"]) (!rfl) (Or.inl (!rfl)))) (!qk))))) (fun _ _ _ _ _=>(!zS)) (fun _ _ _ _ _=>(!zC zA (!PD.b (!zb (pv 0))) (!PD.b (!zC jY (!PD.b (!zb (pv 1))) (!PD.b (!zb (pv 2)))))))))) (!zD)))))
theorem ziA:FnScope ["yard", "grains"] ["yard", "grains"] (zd (top 12)):=⟨rfl,rfl,rfl,by decide +kernel,rfl,by decide +kernel,by decide +kernel⟩
theorem zcQ (T:Tx K mg a):FnOk P w K mg base CX0 3 a.f_rests a.d_rests ["yard", "grains"] (spD K 2 F_rests):=by
 have O_sizes:=yT (P:=P) (w:=w) (base:=base) T
 have O_all_below:=yE (P:=P) (w:=w) (base:=base) T
 refine jF (N:=["yard", "grains"]) T.F_rests ziA fun cdv A outer s H E hr => ?_
 conv in (zk _)=>whnf
 exact (!zn (!zw (!zo O_all_below (hr.mono (by omega)) (!rfl) T.m_all_below T.F_all_below.kp T.b_all_below (!zi (!rfl) (!zb (pv 1)) (!zi (!rfl) (!zo O_sizes (hr.mono (by omega)) (!rfl) T.m_sizes T.F_sizes.kp T.b_sizes (!zi (!rfl) (!zb (pv 0)) (!zh))) (!zh))))))
theorem jT:FnScope ["yard", "grains", "limits", "changes", "times", "heaps", "k", "size", "often"] ["yard", "grains"] (zd (top 13)):=⟨rfl,rfl,rfl,by decide +kernel,rfl,by decide +kernel,by decide +kernel⟩
theorem ym (T:Tx K mg a):FnOk P w K mg base CX0 3 a.f_settled a.d_settled ["yard", "grains"] (spD K 2 F_settled):=by
 have O_sizes:=yT (P:=P) (w:=w) (base:=base) T
 have O_change_by:=yF (P:=P) (w:=w) (base:=base) T
 have O_all_below:=yE (P:=P) (w:=w) (base:=base) T
 have O_changed:=kT (P:=P) (w:=w) (base:=base) T
 refine jF (N:=["yard", "grains", "limits", "changes", "times", "heaps", "k", "size", "often"]) T.F_settled jT fun cdv A outer s H E hr => ?_
 conv in (zk _)=>whnf
 exact (!ze (!zr (!rfl) (!rfl) (!rfl) (!zf (!pgn (i:=2) jT.nd)) (!zo O_sizes (hr.mono (by omega)) (!rfl) T.m_sizes T.F_sizes.kp T.b_sizes (!zi (!rfl) (!zb (pv 0)) (!zh)))) (!ze (!qY (i:=3) (zF (oscope:=zd (top 13)) (oN:=["yard", "grains", "limits", "changes", "times", "heaps", "k", "size", "often"]) (own:=["place"]) (caps:=[0]) (N:=["place", "yard"]) (by decide +kernel) (!rfl) (!rfl)) (by decide) (zx (by decide)) (!rfl) (!qB (!rfl) T.n_range (!zi (!rfl) (!zj) (!zi (!rfl) (!zC zA (!PD.b (!jL (!PD.b (!zb (pv 0))) (!PD.b (!zj)) (fun _ _=>(!rfl)))) (!PD.b (!zj))) (!zh)))) (fun _ _ _ _ _=>(!zf (zJ (i:=0) (nd_ ["place", "yard"]) (!rfl) (Or.inl (!rfl))))) (fun _ _ _ _ _=>(!zS)) (fun _ _ _ _ _=>(!zo O_change_by (hr.mono (by omega)) (!rfl) T.m_change_by T.F_change_by.kp T.b_change_by (!zi (!rfl) (!zb (pv 1)) (!zi (!rfl) (!zb (pv 0)) (!zh))))) jT.nd (!rfl) (!rfl) (!rfl)) (!ze (!yU (!rfl) (!rfl) (!rfl) (!pgn (i:=4) jT.nd) (!zkK (!wG (!zi (!rfl) (!zj) (!zh))) (!PD.b (!jL (!PD.b (!zb (pv 0))) (!PD.b (!zj)) (fun _ _=>(!rfl)))))) (!ze (!zr (!rfl) (!rfl) (!rfl) (!zf (!pgn (i:=5) jT.nd)) (!zb (pv 1))) (!ze (!vY PassesOwn.never (!vZ (!wt (!PD.b (!zo O_all_below (hr.mono (by omega)) (!rfl) T.m_all_below T.F_all_below.kp T.b_all_below (!zi (!rfl) (!zb (pv 5)) (!zi (!rfl) (!zb (pv 2)) (!zh))))))) (!zn (!qK PassesOwn.never (!rfl) (!wH (!rfl) T.n_enumerate (!zi (!rfl) (!zb (pv 2)) (!zh))) (!qT (!rfl) (!zM (!zf (!pgn (i:=6) jT.nd)) (!zM (!zf (!pgn (i:=7) jT.nd)) (!qk)))) (!ze (!zr (!rfl) (!rfl) (!rfl) (!zf (!pgn (i:=8) jT.nd)) (!zO (wx (!rfl)) (!rfl) T.n_max boot_max (!jf (!rfl) (!PD.b (!zC zaJ (!PD.b (!jL (!PD.b (!zb (pv 5))) (!PD.b (!zb (pv 6))) (fun _ _=>(!rfl)))) (!PD.b (!zb (pv 7))))) (!jf (!rfl) (!PD.b (!zj)) (!zD))))) (!ze (!zr (!rfl) (!rfl) (!rfl) (!zf (!pgn (i:=5) jT.nd)) (!zo O_changed (hr.mono (by omega)) (!rfl) T.m_changed T.F_changed.kp T.b_changed (!zi (!rfl) (!zb (pv 5)) (!zi (!rfl) (!jL (!PD.b (!zb (pv 3))) (!PD.b (!zb (pv 6))) (fun _ _=>(!rfl))) (!zi (!rfl) (!zb (pv 8)) (!zh)))))) (!zn (!zhm (pv 4) (!PD.b (!zb (pv 6))) (!zb (pv 8))))))))) (!zn (!zw (!qQ (!zi (!rfl) (!zb (pv 5)) (!zi (!rfl) (!jb zK (!rfl) T.n_tuple boot_tuple (!jf (!rfl) (!zbv (pv 4)) (!zD))) (!zh)))))))))))
theorem zjZ:FnScope ["yard", "one", "other", "together"] ["yard", "one", "other"] (zd (top 14)):=⟨rfl,rfl,rfl,by decide +kernel,rfl,by decide +kernel,by decide +kernel⟩
theorem zks (T:Tx K mg a):FnOk P w K mg base CX0 4 a.f_put a.d_put ["yard", "one", "other"] (spD K 3 F_put):=by
 have O_settled:=ym (P:=P) (w:=w) (base:=base) T
 refine jF (N:=["yard", "one", "other", "together"]) T.F_put zjZ fun cdv A outer s H E hr => ?_
 conv in (zk _)=>whnf
 exact (!ze (!zr (!rfl) (!rfl) (!rfl) (!zf (!pgn (i:=3) zjZ.nd)) (!jb zK (!rfl) T.n_tuple boot_tuple (!jf (!rfl) (!PD.b (!PFr.d_ (!jv (zF (oscope:=zd (top 14)) (oN:=["yard", "one", "other", "together"]) (own:=["heap", "more"]) (caps:=[]) (N:=["heap", "more"]) (by decide +kernel) (!rfl) (!rfl)) (by decide) (xY (jo (zx (by decide)) (jo (zx (by decide)) xX))) (!rfl) (!wJ (!rfl) T.n_zip (!zi (!rfl) (!zb (pv 1)) (!zi (!rfl) (!zb (pv 2)) (!zh)))) (fun _ _ _ _ _=>(!qT (!rfl) (!zM (!zf (zJ (i:=0) (nd_ ["heap", "more"]) (!rfl) (Or.inl (!rfl)))) (!zM (!zf (zJ (i:=1) (nd_ ["heap", "more"]) (!rfl) (Or.inl (!rfl)))) (!qk))))) (fun _ _ _ _ _=>(!zS)) (fun _ _ _ _ _=>(!zC zA (!PD.b (!zb (pv 0))) (!PD.b (!zb (pv 1)))))))) (!zD)))) (!zn (!zw (!jL (!PD.b (!zo O_settled (hr.mono (by omega)) (!rfl) T.m_settled T.F_settled.kp T.b_settled (!zi (!rfl) (!zb (pv 0)) (!zi (!rfl) (!zb (pv 3)) (!zh))))) (!PD.b (!zj)) (fun _ _=>(!rfl))))))
theorem zdY:FnScope ["yard", "place", "others"] ["yard", "place", "others"] (zd (top 16)):=⟨rfl,rfl,rfl,by decide +kernel,rfl,by decide +kernel,by decide +kernel⟩
theorem kW (T:Tx K mg a):FnOk P w K mg base CX0 2 a.f_ties_to a.d_ties_to ["yard", "place", "others"] (spD K 3 F_ties_to):=by
 have O_between:=kS (P:=P) (w:=w) (base:=base) T
 refine jF (N:=["yard", "place", "others"]) T.F_ties_to zdY fun cdv A outer s H E hr => ?_
 conv in (zk _)=>whnf
 exact (!zn (!zw (!zO (xE (!rfl)) (!rfl) T.n_sum boot_sum (!jf (!rfl) (!PD.b (!PFr.d_ (!jv (zF (oscope:=zd (top 16)) (oN:=["yard", "place", "others"]) (own:=["other"]) (caps:=[0,1]) (N:=["other", "yard", "place"]) (by decide +kernel) (!rfl) (!rfl)) (by decide) (zx (by decide)) (!rfl) (!jM (!zb (pv 2))) (fun _ _ _ _ _=>(!zf (zJ (i:=0) (nd_ ["other", "yard", "place"]) (!rfl) (Or.inl (!rfl))))) (fun _ _ _ _ _=>(!zS)) (fun _ _ _ _ _=>(!zo O_between (hr.mono (by omega)) (!rfl) T.m_between T.F_between.kp T.b_between (!zi (!rfl) (!zb (pv 1)) (!zi (!rfl) (!zb (pv 2)) (!zi (!rfl) (!zb (pv 0)) (!zh))))))))) (!zD)))))
theorem zde:FnScope ["yard", "grains", "unburnt"] ["yard", "grains", "unburnt"] (zd (top 17)):=⟨rfl,rfl,rfl,by decide +kernel,rfl,by decide +kernel,by decide +kernel⟩
theorem zb7 (T:Tx K mg a):FnOk P w K mg base CX0 3 a.f_catching a.d_catching ["yard", "grains", "unburnt"] (spD K 3 F_catching):=by
 have O_ties_to:=kW (P:=P) (w:=w) (base:=base) T
 refine jF (N:=["yard", "grains", "unburnt"]) T.F_catching zde fun cdv A outer s H E hr => ?_
 have hu0:=zcC hr
 conv in (zk _)=>whnf
 exact (!zn (!zw (!jb zK (!rfl) T.n_tuple boot_tuple (!jf (!rfl) (!PD.b (!PFr.d_ (!jv (zF (oscope:=zd (top 17)) (oN:=["yard", "grains", "unburnt"]) (own:=["place"]) (caps:=[1,0,2]) (N:=["place", "grains", "yard", "unburnt"]) (by decide +kernel) (!rfl) (!rfl)) (by decide) (zx (by decide)) (!rfl) (!jM (!zb (pv 2))) (fun _ _ _ _ _=>(!zf (zJ (i:=0) (nd_ ["place", "grains", "yard", "unburnt"]) (!rfl) (Or.inl (!rfl))))) (fun _ _ _ _ _=>(!xj (!jk (zky hu0) (!PD.b (!jL (!PD.b (!zb (pv 1))) (!PD.b (!zC vX (!PD.b (!zb (pv 0))) (!PD.b (!zj)))) (fun _ _=>(!rfl)))) (!PD.b (!zo O_ties_to (hr.mono (by omega)) (!rfl) T.m_ties_to T.F_ties_to.kp T.b_ties_to (!zi (!rfl) (!zb (pv 2)) (!zi (!rfl) (!zb (pv 0)) (!zi (!rfl) (!zb (pv 3)) (!zh)))))) (jW _)))) (fun _ _ _ _ _=>(!zb (pv 0)))))) (!zD)))))
theorem kF:FnScope ["yard", "grains", "unburnt", "turns", "turn"] ["yard", "grains"] (zd (top 18)):=⟨rfl,rfl,rfl,by decide +kernel,rfl,by decide +kernel,by decide +kernel⟩
theorem zfe (T:Tx K mg a):FnOk P w K mg base CX0 4 a.f_burn a.d_burn ["yard", "grains"] (spD K 2 F_burn):=by
 have O_rests:=zcQ (P:=P) (w:=w) (base:=base) T
 have O_catching:=zb7 (P:=P) (w:=w) (base:=base) T
 refine jF (N:=["yard", "grains", "unburnt", "turns", "turn"]) T.F_burn kF fun cdv A outer s H E hr => ?_
 have hu66:=vH hr
 conv in (zk _)=>whnf
 exact (!ze (!xp (!vZ (!wt (!PD.b (!zo O_rests (hr.mono (by omega)) (!rfl) T.m_rests T.F_rests.kp T.b_rests (!zi (!rfl) (!zb (pv 0)) (!zi (!rfl) (!zb (pv 1)) (!zh))))))) (!zn zkP) (!jJ)) (!ze (!zr (!rfl) (!rfl) (!rfl) (!zf (!pgn (i:=2) kF.nd)) (!PFr.d_ (!zfo (!rfl) (!rfl) T.n_list boot_list (!rfl) T.n_range (!zi (!rfl) (!zj) (!zi (!rfl) (!zC zA (!PD.b (!jL (!PD.b (!zb (pv 0))) (!PD.b (!zj)) (fun _ _=>(!rfl)))) (!PD.b (!zj))) (!zh)))))) (!ze (!yU (!rfl) (!rfl) (!rfl) (!pgn (i:=3) kF.nd) (!wG (!zh))) (!ze (!zr (!rfl) (!rfl) (!rfl) (!zf (!pgn (i:=4) kF.nd)) (!zo O_catching (hr.mono (by omega)) (!rfl) T.m_catching T.F_catching.kp T.b_catching (!zi (!rfl) (!zb (pv 0)) (!zi (!rfl) (!zb (pv 1)) (!zi (!rfl) (!zb (pv 2)) (!zh)))))) (!ze (!vY PassesOwn.never (!wt (!PD.b (!zb (pv 4)))) (!ze (!zfw (pv 3) (!zb (pv 4))) (!ze (!qY (i:=2) (zF (oscope:=zd (top 18)) (oN:=["yard", "grains", "unburnt", "turns", "turn"]) (own:=["place"]) (caps:=[4]) (N:=["place", "turn"]) (by decide +kernel) (!rfl) (!rfl)) (by decide) (zx (by decide)) (!rfl) (!jM (!zb (pv 2))) (fun _ _ _ _ _=>(!zf (zJ (i:=0) (nd_ ["place", "turn"]) (!rfl) (Or.inl (!rfl))))) (fun _ _ _ _ _=>(!xj (!jk (qX hu66) (!PD.b (!zb (pv 0))) (!PD.b (!zb (pv 1))) (by rfl)))) (fun _ _ _ _ _=>(!zb (pv 0))) kF.nd (!rfl) (!rfl) (!rfl)) (!zn (!zr (!rfl) (!rfl) (!rfl) (!zf (!pgn (i:=4) kF.nd)) (!zo O_catching (hr.mono (by omega)) (!rfl) T.m_catching T.F_catching.kp T.b_catching (!zi (!rfl) (!zb (pv 0)) (!zi (!rfl) (!zb (pv 1)) (!zi (!rfl) (!zb (pv 2)) (!zh)))))))))) (!zn (!zw (!jb zK (!rfl) T.n_tuple boot_tuple (!jf (!rfl) (!zbv (pv 3)) (!zD))))))))))
theorem yw:FnScope ["yard", "grains", "burnt"] ["yard", "grains"] (zd (top 19)):=⟨rfl,rfl,rfl,by decide +kernel,rfl,by decide +kernel,by decide +kernel⟩
theorem zaG (T:Tx K mg a):FnOk P w K mg base CX0 5 a.f_is_lasting a.d_is_lasting ["yard", "grains"] (spD K 2 F_is_lasting):=by
 have O_burn:=zfe (P:=P) (w:=w) (base:=base) T
 refine jF (N:=["yard", "grains", "burnt"]) T.F_is_lasting yw fun cdv A outer s H E hr => ?_
 have hu64:=zat hr
 conv in (zk _)=>whnf
 exact (!ze (!zr (!rfl) (!rfl) (!rfl) (!zf (!pgn (i:=2) yw.nd)) (!zO (xE (!rfl)) (!rfl) T.n_sum boot_sum (!jf (!rfl) (!PD.b (!PFr.d_ (!jv (zF (oscope:=zd (top 19)) (oN:=["yard", "grains", "burnt"]) (own:=["turn"]) (caps:=[]) (N:=["turn"]) (by decide +kernel) (!rfl) (!rfl)) (by decide) (zx (by decide)) (!rfl) (!jM (!zo O_burn (hr.mono (by omega)) (!rfl) T.m_burn T.F_burn.kp T.b_burn (!zi (!rfl) (!zb (pv 0)) (!zi (!rfl) (!zb (pv 1)) (!zh))))) (fun _ _ _ _ _=>(!zf (zJ (i:=0) (nd_ ["turn"]) (!rfl) (Or.inl (!rfl))))) (fun _ _ _ _ _=>(!zS)) (fun _ _ _ _ _=>(!zO qI (!rfl) T.n_len boot_len (!jf (!rfl) (!PD.b (!zb (pv 0))) (!zD))))))) (!zD)))) (!zn (!zw (!zbw (kX hu64) (!PD.b (!zb (pv 2))) (!PD.b (!jL (!PD.b (!zb (pv 0))) (!PD.b (!zj)) (fun _ _=>(!rfl)))) (jW _)))))
theorem jc:FnScope ["rows", "total", "sign", "k", "row", "minor"] ["rows"] (zd (top 21)):=⟨rfl,rfl,rfl,by decide +kernel,rfl,by decide +kernel,by decide +kernel⟩
theorem xM (T:Tx K mg a):∀ k:Nat,FnOk P w K mg base CX0 (1 + k) a.f_determinant a.d_determinant ["rows"] (spD K 1 (F_determinant k))
 | 0=>zgD (k:=0) T.F_determinant jc
 | k + 1=>by
  have O_self:=xM T k
  refine jF (k:=1 + k) (N:=["rows", "total", "sign", "k", "row", "minor"]) T.F_determinant jc fun cdv A outer s H E hr => ?_
  conv in (zk _)=>whnf
  exact (!ze (!xp (!vZ (!wt (!PD.b (!zb (pv 0))))) (!zn (!zw (!zj))) (!jJ)) (!ze (!zr (!rfl) (!rfl) (!rfl) (!zf (!pgn (i:=1) jc.nd)) (!zj)) (!ze (!zr (!rfl) (!rfl) (!rfl) (!zf (!pgn (i:=2) jc.nd)) (!zj)) (!ze (!qK PassesOwn.never (!rfl) (!wH (!rfl) T.n_enumerate (!zi (!rfl) (!zb (pv 0)) (!zh))) (!qT (!rfl) (!zM (!zf (!pgn (i:=3) jc.nd)) (!zM (!zf (!pgn (i:=4) jc.nd)) (!qk)))) (!ze (!qY (i:=5) (zF (oscope:=zd (top 21)) (oN:=["rows", "total", "sign", "k", "row", "minor"]) (own:=["other"]) (caps:=[]) (N:=["other"]) (by decide +kernel) (!rfl) (!rfl)) (by decide) (zx (by decide)) (!rfl) (!jM (!zC zA (!PD.b (!qj (!PD.b (!zb (pv 0))) (!qm) (!qo (!PD.b (!zb (pv 3)))))) (!PD.b (!qj (!PD.b (!zb (pv 0))) (!qo (!PD.b (!zC zA (!PD.b (!zb (pv 3))) (!PD.b (!zj))))) (!qm))))) (fun _ _ _ _ _=>(!zf (zJ (i:=0) (nd_ ["other"]) (!rfl) (Or.inl (!rfl))))) (fun _ _ _ _ _=>(!zS)) (fun _ _ _ _ _=>(!qj (!PD.b (!zb (pv 0))) (!qo (!PD.b (!zj))) (!qm))) jc.nd (!rfl) (!rfl) (!rfl)) (!ze (!zhn (i:=1) jc.nd (!zC jY (!PD.b (!zC jY (!PD.b (!zb (pv 2))) (!PD.b (!jL (!PD.b (!zb (pv 4))) (!PD.b (!zj)) (fun _ _=>(!rfl)))))) (!PD.b (!zo O_self (hr.mono (by omega)) (!rfl) T.m_determinant T.F_determinant.kp T.b_determinant (!zi (!rfl) (!zb (pv 5)) (!zh)))))) (!zn (!zr (!rfl) (!rfl) (!rfl) (!zf (!pgn (i:=2) jc.nd)) (!zhe zaT (!PD.b (!zb (pv 2))))))))) (!zn (!zw (!zb (pv 1))))))))
theorem kz (T:Tx K mg a):FnOk P w K mg base CX0 9 a.f_determinant a.d_determinant ["rows"] (spD K 1 (F_determinant 8)):=xM T 8
theorem wm:FnScope ["yard", "difference", "rows", "parts"] ["yard", "difference"] (zd (top 22)):=⟨rfl,rfl,rfl,by decide +kernel,rfl,by decide +kernel,by decide +kernel⟩
theorem zbt (T:Tx K mg a):FnOk P w K mg base CX0 10 a.f_times_for a.d_times_for ["yard", "difference"] (spD K 2 F_times_for):=by
 have O_change_by:=yF (P:=P) (w:=w) (base:=base) T
 have O_determinant:=kz (P:=P) (w:=w) (base:=base) T
 refine jF (N:=["yard", "difference", "rows", "parts"]) T.F_times_for wm fun cdv A outer s H E hr => ?_
 conv in (zk _)=>whnf
 exact (!ze (!zr (!rfl) (!rfl) (!rfl) (!zf (!pgn (i:=2) wm.nd)) (!PFr.d_ (!jv (zF (oscope:=zd (top 22)) (oN:=["yard", "difference", "rows", "parts"]) (own:=["place"]) (caps:=[0]) (N:=["place", "yard"]) (by decide +kernel) (!rfl) (!rfl)) (by decide) (zx (by decide)) (!rfl) (!qB (!rfl) T.n_range (!zi (!rfl) (!zj) (!zi (!rfl) (!zC zA (!PD.b (!jL (!PD.b (!zb (pv 0))) (!PD.b (!zj)) (fun _ _=>(!rfl)))) (!PD.b (!zj))) (!zh)))) (fun _ _ _ _ _=>(!zf (zJ (i:=0) (nd_ ["place", "yard"]) (!rfl) (Or.inl (!rfl))))) (fun _ _ _ _ _=>(!zS)) (fun _ _ _ _ _=>(!zo O_change_by (hr.mono (by omega)) (!rfl) T.m_change_by T.F_change_by.kp T.b_change_by (!zi (!rfl) (!zb (pv 1)) (!zi (!rfl) (!zb (pv 0)) (!zh)))))))) (!ze (!qY (i:=3) (zF (oscope:=zd (top 22)) (oN:=["yard", "difference", "rows", "parts"]) (own:=["k"]) (caps:=[2,1]) (N:=["k", "rows", "difference"]) (by decide +kernel) (!rfl) (!rfl)) (by decide) (zx (by decide)) (!rfl) (!wI (!rfl) T.n_range (!zi (!rfl) (!jL (!PD.b (!zb (pv 0))) (!PD.b (!zj)) (fun _ _=>(!rfl))) (!zh))) (fun _ _ _ _ _=>(!zf (zJ (i:=0) (nd_ ["k", "rows", "difference"]) (!rfl) (Or.inl (!rfl))))) (fun _ _ _ _ _=>(!zS)) (fun _ _ _ _ _=>(!zo O_determinant (hr.mono (by omega)) (!rfl) T.m_determinant T.F_determinant.kp T.b_determinant (!zi (!rfl) (!zC zA (!PD.b (!zC zA (!PD.b (!qj (!PD.b (!zb (pv 1))) (!qm) (!qo (!PD.b (!zb (pv 0)))))) (!PD.b (!PFr.d_ (!wG (!zi (!rfl) (!zb (pv 2)) (!zh))))))) (!PD.b (!qj (!PD.b (!zb (pv 1))) (!qo (!PD.b (!zC zA (!PD.b (!zb (pv 0))) (!PD.b (!zj))))) (!qm)))) (!zh)))) wm.nd (!rfl) (!rfl) (!rfl)) (!zn (!zw (!qQ (!zi (!rfl) (!zo O_determinant (hr.mono (by omega)) (!rfl) T.m_determinant T.F_determinant.kp T.b_determinant (!zi (!rfl) (!zb (pv 2)) (!zh))) (!zi (!rfl) (!jb zK (!rfl) T.n_tuple boot_tuple (!jf (!rfl) (!PD.b (!zb (pv 3))) (!zD))) (!zh))))))))
theorem jl:FnScope ["one", "other", "greater", "lesser", "left"] ["one", "other"] (zd (top 23)):=⟨rfl,rfl,rfl,by decide +kernel,rfl,by decide +kernel,by decide +kernel⟩
theorem yl (T:Tx K mg a):FnOk P w K mg base CX0 1 a.f_common_divisor a.d_common_divisor ["one", "other"] (spD K 2 F_common_divisor):=by
 refine jF (N:=["one", "other", "greater", "lesser", "left"]) T.F_common_divisor jl fun cdv A outer s H E hr => ?_
 have hu64:=zat hr
 conv in (zk _)=>whnf
 exact (!ze (!zr (!rfl) (!rfl) (!rfl) (!zf (!pgn (i:=2) jl.nd)) (!zO vt (!rfl) T.n_abs boot_abs (!jf (!rfl) (!PD.b (!zb (pv 0))) (!zD)))) (!ze (!zr (!rfl) (!rfl) (!rfl) (!zf (!pgn (i:=3) jl.nd)) (!zO vt (!rfl) T.n_abs boot_abs (!jf (!rfl) (!PD.b (!zb (pv 1))) (!zD)))) (!ze (!vY PassesOwn.never (!jk (yH hu64) (!PD.b (!zb (pv 3))) (!PD.b (!zj)) (jW _)) (!ze (!zr (!rfl) (!rfl) (!rfl) (!zf (!pgn (i:=4) jl.nd)) (!zC jy (!PD.b (!zb (pv 2))) (!PD.b (!zb (pv 3))))) (!ze (!zr (!rfl) (!rfl) (!rfl) (!zf (!pgn (i:=2) jl.nd)) (!zb (pv 3))) (!zn (!zr (!rfl) (!rfl) (!rfl) (!zf (!pgn (i:=3) jl.nd)) (!zb (pv 4))))))) (!zn (!zw (!zb (pv 2)))))))
theorem zdZ:FnScope ["heaps", "fewer"] ["heaps", "fewer"] (zd (top 25)):=⟨rfl,rfl,rfl,by decide +kernel,rfl,by decide +kernel,by decide +kernel⟩
theorem zdw (T:Tx K mg a):FnOk P w K mg base CX0 1 a.f_without a.d_without ["heaps", "fewer"] (spD K 2 F_without):=by
 refine jF (N:=["heaps", "fewer"]) T.F_without zdZ fun cdv A outer s H E hr => ?_
 conv in (zk _)=>whnf
 exact (!zn (!zw (!jb zK (!rfl) T.n_tuple boot_tuple (!jf (!rfl) (!PD.b (!PFr.d_ (!jv (zF (oscope:=zd (top 25)) (oN:=["heaps", "fewer"]) (own:=["heap", "less"]) (caps:=[]) (N:=["heap", "less"]) (by decide +kernel) (!rfl) (!rfl)) (by decide) (xY (jo (zx (by decide)) (jo (zx (by decide)) xX))) (!rfl) (!wJ (!rfl) T.n_zip (!zi (!rfl) (!zb (pv 0)) (!zi (!rfl) (!zb (pv 1)) (!zh)))) (fun _ _ _ _ _=>(!qT (!rfl) (!zM (!zf (zJ (i:=0) (nd_ ["heap", "less"]) (!rfl) (Or.inl (!rfl)))) (!zM (!zf (zJ (i:=1) (nd_ ["heap", "less"]) (!rfl) (Or.inl (!rfl)))) (!qk))))) (fun _ _ _ _ _=>(!zS)) (fun _ _ _ _ _=>(!zC vX (!PD.b (!zb (pv 0))) (!PD.b (!zb (pv 1)))))))) (!zD)))))
theorem zdW:FnScope ["yard"] ["yard"] (zd (top 26)):=⟨rfl,rfl,rfl,by decide +kernel,rfl,by decide +kernel,by decide +kernel⟩
theorem zdt (T:Tx K mg a):FnOk P w K mg base CX0 3 a.f_fullest a.d_fullest ["yard"] (spD K 1 F_fullest):=by
 have O_sizes:=yT (P:=P) (w:=w) (base:=base) T
 refine jF (N:=["yard"]) T.F_fullest zdW fun cdv A outer s H E hr => ?_
 conv in (zk _)=>whnf
 exact (!zn (!zw (!jb zK (!rfl) T.n_tuple boot_tuple (!jf (!rfl) (!PD.b (!PFr.d_ (!jv (zF (oscope:=zd (top 26)) (oN:=["yard"]) (own:=["size"]) (caps:=[]) (N:=["size"]) (by decide +kernel) (!rfl) (!rfl)) (by decide) (zx (by decide)) (!rfl) (!jM (!zo O_sizes (hr.mono (by omega)) (!rfl) T.m_sizes T.F_sizes.kp T.b_sizes (!zi (!rfl) (!zb (pv 0)) (!zh)))) (fun _ _ _ _ _=>(!zf (zJ (i:=0) (nd_ ["size"]) (!rfl) (Or.inl (!rfl))))) (fun _ _ _ _ _=>(!zS)) (fun _ _ _ _ _=>(!zC vX (!PD.b (!zb (pv 0))) (!PD.b (!zj))))))) (!zD)))))
theorem xB:FnScope ["yard", "ahead", "behind", "burnt", "unburnt"] ["yard", "ahead", "behind"] (zd (top 27)):=⟨rfl,rfl,rfl,by decide +kernel,rfl,by decide +kernel,by decide +kernel⟩
theorem zaI (T:Tx K mg a):FnOk P w K mg base CX0 5 a.f_least_heap a.d_least_heap ["yard", "ahead", "behind"] (spD K 3 F_least_heap):=by
 have O_burn:=zfe (P:=P) (w:=w) (base:=base) T
 have O_ties_to:=kW (P:=P) (w:=w) (base:=base) T
 refine jF (N:=["yard", "ahead", "behind", "burnt", "unburnt"]) T.F_least_heap xB fun cdv A outer s H E hr => ?_
 have hu66:=vH hr
 conv in (zk _)=>whnf
 exact (!ze (!zr (!rfl) (!rfl) (!rfl) (!zf (!pgn (i:=3) xB.nd)) (!zjd (!rfl) T.n_sum (!zi (!rfl) (!zo O_burn (hr.mono (by omega)) (!rfl) T.m_burn T.F_burn.kp T.b_burn (!zi (!rfl) (!zb (pv 0)) (!zi (!rfl) (!zC zA (!PD.b (!zC zA (!PD.b (!zb (pv 1))) (!PD.b (!qQ (!zi (!rfl) (!zj) (!zh)))))) (!PD.b (!zb (pv 2)))) (!zh)))) (!zh)))) (!ze (!qY (i:=4) (zF (oscope:=zd (top 27)) (oN:=["yard", "ahead", "behind", "burnt", "unburnt"]) (own:=["place"]) (caps:=[3]) (N:=["place", "burnt"]) (by decide +kernel) (!rfl) (!rfl)) (by decide) (zx (by decide)) (!rfl) (!qB (!rfl) T.n_range (!zi (!rfl) (!zj) (!zi (!rfl) (!zC zA (!PD.b (!jL (!PD.b (!zb (pv 0))) (!PD.b (!zj)) (fun _ _=>(!rfl)))) (!PD.b (!zj))) (!zh)))) (fun _ _ _ _ _=>(!zf (zJ (i:=0) (nd_ ["place", "burnt"]) (!rfl) (Or.inl (!rfl))))) (fun _ _ _ _ _=>(!xj (!jk (qX hu66) (!PD.b (!zb (pv 0))) (!PD.b (!zb (pv 1))) (by rfl)))) (fun _ _ _ _ _=>(!zb (pv 0))) xB.nd (!rfl) (!rfl) (!rfl)) (!zn (!zw (!zo O_ties_to (hr.mono (by omega)) (!rfl) T.m_ties_to T.F_ties_to.kp T.b_ties_to (!zi (!rfl) (!zb (pv 0)) (!zi (!rfl) (!zC zA (!PD.b (!zO qI (!rfl) T.n_len boot_len (!jf (!rfl) (!PD.b (!zb (pv 1))) (!zD)))) (!PD.b (!zj))) (!zi (!rfl) (!zb (pv 4)) (!zh)))))))))
theorem qc:FnScope ["yard", "start", "full", "k", "least"] ["yard", "start", "full"] (zd (top 28)):=⟨rfl,rfl,rfl,by decide +kernel,rfl,by decide +kernel,by decide +kernel⟩
theorem wD (T:Tx K mg a):FnOk P w K mg base CX0 6 a.f_one_heap_longer a.d_one_heap_longer ["yard", "start", "full"] (spD K 3 F_one_heap_longer):=by
 have O_least_heap:=zaI (P:=P) (w:=w) (base:=base) T
 refine jF (N:=["yard", "start", "full", "k", "least"]) T.F_one_heap_longer qc fun cdv A outer s H E hr => ?_
 conv in (zk _)=>whnf
 exact (!ze (!zr (!rfl) (!rfl) (!rfl) (!zf (!pgn (i:=3) qc.nd)) (!zO qI (!rfl) T.n_len boot_len (!jf (!rfl) (!PD.b (!zb (pv 1))) (!zD)))) (!ze (!zr (!rfl) (!rfl) (!rfl) (!zf (!pgn (i:=4) qc.nd)) (!zo O_least_heap (hr.mono (by omega)) (!rfl) T.m_least_heap T.F_least_heap.kp T.b_least_heap (!zi (!rfl) (!zb (pv 0)) (!zi (!rfl) (!zb (pv 1)) (!zi (!rfl) (!qj (!PD.b (!zb (pv 2))) (!qo (!PD.b (!zC zA (!PD.b (!zb (pv 3))) (!PD.b (!zj))))) (!qm)) (!zh)))))) (!zn (!zw (!PFr.d_ (!jv (zF (oscope:=zd (top 28)) (oN:=["yard", "start", "full", "k", "least"]) (own:=["heap"]) (caps:=[1]) (N:=["heap", "start"]) (by decide +kernel) (!rfl) (!rfl)) (by decide) (zx (by decide)) (!rfl) (!qB (!rfl) T.n_range (!zi (!rfl) (!zb (pv 4)) (!zi (!rfl) (!zC zA (!PD.b (!jL (!PD.b (!zb (pv 2))) (!PD.b (!zb (pv 3))) (fun _ _=>(!rfl)))) (!PD.b (!zj))) (!zh)))) (fun _ _ _ _ _=>(!zf (zJ (i:=0) (nd_ ["heap", "start"]) (!rfl) (Or.inl (!rfl))))) (fun _ _ _ _ _=>(!zS)) (fun _ _ _ _ _=>(!zC zA (!PD.b (!zb (pv 1))) (!PD.b (!qQ (!zi (!rfl) (!zb (pv 0)) (!zh))))))))))))
theorem qH:FnScope ["yard", "full", "starts", "k", "longer", "start"] ["yard"] (zd (top 29)):=⟨rfl,rfl,rfl,by decide +kernel,rfl,by decide +kernel,by decide +kernel⟩
theorem zdu (T:Tx K mg a):FnOk P w K mg base CX0 7 a.f_lasting a.d_lasting ["yard"] (spD K 1 F_lasting):=by
 have O_fullest:=zdt (P:=P) (w:=w) (base:=base) T
 have O_one_heap_longer:=wD (P:=P) (w:=w) (base:=base) T
 refine jF (N:=["yard", "full", "starts", "k", "longer", "start"]) T.F_lasting qH fun cdv A outer s H E hr => ?_
 conv in (zk _)=>whnf
 exact (!ze (!zr (!rfl) (!rfl) (!rfl) (!zf (!pgn (i:=1) qH.nd)) (!zo O_fullest (hr.mono (by omega)) (!rfl) T.m_fullest T.F_fullest.kp T.b_fullest (!zi (!rfl) (!zb (pv 0)) (!zh)))) (!ze (!zr (!rfl) (!rfl) (!rfl) (!zf (!pgn (i:=2) qH.nd)) (!PFr.d_ (!wG (!zi (!rfl) (!qQ (!zh)) (!zh))))) (!ze (!qK PassesOwn.never (!rfl) (!wI (!rfl) T.n_range (!zi (!rfl) (!jL (!PD.b (!zb (pv 0))) (!PD.b (!zj)) (fun _ _=>(!rfl))) (!zh))) (!zf (!pgn (i:=3) qH.nd)) (!ze (!yU (!rfl) (!rfl) (!rfl) (!pgn (i:=4) qH.nd) (!wG (!zh))) (!ze (!qK PassesOwn.never (!rfl) (!jM (!zb (pv 2))) (!zf (!pgn (i:=5) qH.nd)) (!zn (!zjt (pv 4) (!zo O_one_heap_longer (hr.mono (by omega)) (!rfl) T.m_one_heap_longer T.F_one_heap_longer.kp T.b_one_heap_longer (!zi (!rfl) (!zb (pv 0)) (!zi (!rfl) (!zb (pv 5)) (!zi (!rfl) (!zb (pv 1)) (!zh)))))))) (!zn (!zhq 4 (!zr (!rfl) (!rfl) (!rfl) (!zf (!pgn (i:=2) qH.nd)) (!zb (pv 4)))))))) (!zn (!zw (!jb zK (!rfl) T.n_tuple boot_tuple (!jf (!rfl) (!PD.b (!zb (pv 2))) (!zD))))))))
theorem zaX:FnScope ["yard", "twice"] ["yard"] (zd (top 30)):=⟨rfl,rfl,rfl,by decide +kernel,rfl,by decide +kernel,by decide +kernel⟩
theorem zdv (T:Tx K mg a):FnOk P w K mg base CX0 4 a.f_lift_of a.d_lift_of ["yard"] (spD K 1 F_lift_of):=by
 have O_sizes:=yT (P:=P) (w:=w) (base:=base) T
 have O_settled:=ym (P:=P) (w:=w) (base:=base) T
 have O_without:=zdw (P:=P) (w:=w) (base:=base) T
 refine jF (N:=["yard", "twice"]) T.F_lift_of zaX fun cdv A outer s H E hr => ?_
 conv in (zk _)=>whnf
 exact (!ze (!zr (!rfl) (!rfl) (!rfl) (!zf (!pgn (i:=1) zaX.nd)) (!jb zK (!rfl) T.n_tuple boot_tuple (!jf (!rfl) (!PD.b (!PFr.d_ (!jv (zF (oscope:=zd (top 30)) (oN:=["yard", "twice"]) (own:=["size"]) (caps:=[]) (N:=["size"]) (by decide +kernel) (!rfl) (!rfl)) (by decide) (zx (by decide)) (!rfl) (!jM (!zo O_sizes (hr.mono (by omega)) (!rfl) T.m_sizes T.F_sizes.kp T.b_sizes (!zi (!rfl) (!zb (pv 0)) (!zh)))) (fun _ _ _ _ _=>(!zf (zJ (i:=0) (nd_ ["size"]) (!rfl) (Or.inl (!rfl))))) (fun _ _ _ _ _=>(!zS)) (fun _ _ _ _ _=>(!zC jY (!PD.b (!zj)) (!PD.b (!zb (pv 0)))))))) (!zD)))) (!zn (!zw (!zo O_without (hr.mono (by omega)) (!rfl) T.m_without T.F_without.kp T.b_without (!zi (!rfl) (!zb (pv 1)) (!zi (!rfl) (!jL (!PD.b (!zo O_settled (hr.mono (by omega)) (!rfl) T.m_settled T.F_settled.kp T.b_settled (!zi (!rfl) (!zb (pv 0)) (!zi (!rfl) (!zb (pv 1)) (!zh))))) (!PD.b (!zj)) (fun _ _=>(!rfl))) (!zh)))))))
theorem zh4:FnScope ["yard", "grains", "often"] ["yard", "grains"] (zd (top 31)):=⟨rfl,rfl,rfl,by decide +kernel,rfl,by decide +kernel,by decide +kernel⟩
theorem zb8 (T:Tx K mg a):FnOk P w K mg base CX0 5 a.f_home a.d_home ["yard", "grains"] (spD K 2 F_home):=by
 have O_lift_of:=zdv (P:=P) (w:=w) (base:=base) T
 have O_changed:=kT (P:=P) (w:=w) (base:=base) T
 have O_settled:=ym (P:=P) (w:=w) (base:=base) T
 refine jF (N:=["yard", "grains", "often"]) T.F_home zh4 fun cdv A outer s H E hr => ?_
 conv in (zk _)=>whnf
 exact (!ze (!zr (!rfl) (!rfl) (!rfl) (!zf (!pgn (i:=2) zh4.nd)) (!zC zA (!PD.b (!zj)) (!PD.b (!zO (wx (!rfl)) (!rfl) T.n_max boot_max (!jf (!rfl) (!PD.b (!zj)) (!jf (!rfl) (!PD.b (!zhe zaT (!PD.b (!zO (zdi (!rfl)) (!rfl) T.n_min boot_min (!jf (!rfl) (!PD.b (!zb (pv 1))) (!zD)))))) (!zD))))))) (!zn (!zw (!jL (!PD.b (!zo O_settled (hr.mono (by omega)) (!rfl) T.m_settled T.F_settled.kp T.b_settled (!zi (!rfl) (!zb (pv 0)) (!zi (!rfl) (!zo O_changed (hr.mono (by omega)) (!rfl) T.m_changed T.F_changed.kp T.b_changed (!zi (!rfl) (!zb (pv 1)) (!zi (!rfl) (!zo O_lift_of (hr.mono (by omega)) (!rfl) T.m_lift_of T.F_lift_of.kp T.b_lift_of (!zi (!rfl) (!zb (pv 0)) (!zh))) (!zi (!rfl) (!zb (pv 2)) (!zh))))) (!zh))))) (!PD.b (!zj)) (fun _ _=>(!rfl))))))
theorem zj0:FnScope ["yard"] ["yard"] (zd (top 32)):=⟨rfl,rfl,rfl,by decide +kernel,rfl,by decide +kernel,by decide +kernel⟩
theorem zi9 (T:Tx K mg a):FnOk P w K mg base CX0 6 a.f_zero a.d_zero ["yard"] (spD K 1 F_zero):=by
 have O_home:=zb8 (P:=P) (w:=w) (base:=base) T
 refine jF (N:=["yard"]) T.F_zero zj0 fun cdv A outer s H E hr => ?_
 conv in (zk _)=>whnf
 exact (!zn (!zw (!zo O_home (hr.mono (by omega)) (!rfl) T.m_home T.F_home.kp T.b_home (!zi (!rfl) (!zb (pv 0)) (!zi (!rfl) (!zC jY (!PD.b (!qQ (!zi (!rfl) (!zj) (!zh)))) (!PD.b (!jL (!PD.b (!zb (pv 0))) (!PD.b (!zj)) (fun _ _=>(!rfl))))) (!zh))))))
theorem xh:FnScope ["yard", "grains"] ["yard", "grains"] (zd (top 33)):=⟨rfl,rfl,rfl,by decide +kernel,rfl,by decide +kernel,by decide +kernel⟩
theorem jQ (T:Tx K mg a):FnOk P w K mg base CX0 6 a.f_refuse_unless_lasting a.d_refuse_unless_lasting ["yard", "grains"] (spD K 2 F_refuse_unless_lasting):=by
 have O_rests:=zcQ (P:=P) (w:=w) (base:=base) T
 have O_is_lasting:=zaG (P:=P) (w:=w) (base:=base) T
 refine jF (N:=["yard", "grains"]) T.F_refuse_unless_lasting xh fun cdv A outer s H E hr => ?_
 conv in (zk _)=>whnf
 exact (!zn (!xp (!PWd.t (!kZ (!vZ (!wt (!PD.b (!zo O_rests (hr.mono (by omega)) (!rfl) T.m_rests T.F_rests.kp T.b_rests (!zi (!rfl) (!zb (pv 0)) (!zi (!rfl) (!zb (pv 1)) (!zh))))))) (!kb (!vZ (!wt (!PD.b (!zo O_is_lasting (hr.mono (by omega)) (!rfl) T.m_is_lasting T.F_is_lasting.kp T.b_is_lasting (!zi (!rfl) (!zb (pv 0)) (!zi (!rfl) (!zb (pv 1)) (!zh)))))))))) (!zn zkP) (!jJ)))
theorem zjY:FnScope ["yard", "grains"] ["yard", "grains"] (zd (top 34)):=⟨rfl,rfl,rfl,by decide +kernel,rfl,by decide +kernel,by decide +kernel⟩
theorem zi8 (T:Tx K mg a):FnOk P w K mg base CX0 7 a.f_back a.d_back ["yard", "grains"] (spD K 2 F_back):=by
 have O_refuse_unless_lasting:=jQ (P:=P) (w:=w) (base:=base) T
 have O_home:=zb8 (P:=P) (w:=w) (base:=base) T
 refine jF (N:=["yard", "grains"]) T.F_back zjY fun cdv A outer s H E hr => ?_
 conv in (zk _)=>whnf
 exact (!ze (!zbA (!rfl) (!PD.b (!zo O_refuse_unless_lasting (hr.mono (by omega)) (!rfl) T.m_refuse_unless_lasting T.F_refuse_unless_lasting.kp T.b_refuse_unless_lasting (!zi (!rfl) (!zb (pv 0)) (!zi (!rfl) (!zb (pv 1)) (!zh)))))) (!zn (!zw (!zo O_home (hr.mono (by omega)) (!rfl) T.m_home T.F_home.kp T.b_home (!zi (!rfl) (!zb (pv 0)) (!zi (!rfl) (!jb zK (!rfl) T.n_tuple boot_tuple (!jf (!rfl) (!PD.b (!PFr.d_ (!jv (zF (oscope:=zd (top 34)) (oN:=["yard", "grains"]) (own:=["heap"]) (caps:=[]) (N:=["heap"]) (by decide +kernel) (!rfl) (!rfl)) (by decide) (zx (by decide)) (!rfl) (!jM (!zb (pv 1))) (fun _ _ _ _ _=>(!zf (zJ (i:=0) (nd_ ["heap"]) (!rfl) (Or.inl (!rfl))))) (fun _ _ _ _ _=>(!zS)) (fun _ _ _ _ _=>(!zhe zaT (!PD.b (!zb (pv 0)))))))) (!zD))) (!zh)))))))
theorem qF:FnScope ["yard", "grains", "whole", "parts", "shared", "part"] ["yard", "grains"] (zd (top 35)):=⟨rfl,rfl,rfl,by decide +kernel,rfl,by decide +kernel,by decide +kernel⟩
theorem zcb (T:Tx K mg a):FnOk P w K mg base CX0 11 a.f_order_of a.d_order_of ["yard", "grains"] (spD K 2 F_order_of):=by
 have O_refuse_unless_lasting:=jQ (P:=P) (w:=w) (base:=base) T
 have O_times_for:=zbt (P:=P) (w:=w) (base:=base) T
 have O_common_divisor:=yl (P:=P) (w:=w) (base:=base) T
 refine jF (N:=["yard", "grains", "whole", "parts", "shared", "part"]) T.F_order_of qF fun cdv A outer s H E hr => ?_
 conv in (zk _)=>whnf
 exact (!ze (!zbA (!rfl) (!PD.b (!zo O_refuse_unless_lasting (hr.mono (by omega)) (!rfl) T.m_refuse_unless_lasting T.F_refuse_unless_lasting.kp T.b_refuse_unless_lasting (!zi (!rfl) (!zb (pv 0)) (!zi (!rfl) (!zb (pv 1)) (!zh)))))) (!ze (!zr (!rfl) (!rfl) (!rfl) (!qT (!rfl) (!zM (!zf (!pgn (i:=2) qF.nd)) (!zM (!zf (!pgn (i:=3) qF.nd)) (!qk)))) (!zo O_times_for (hr.mono (by omega)) (!rfl) T.m_times_for T.F_times_for.kp T.b_times_for (!zi (!rfl) (!zb (pv 0)) (!zi (!rfl) (!zb (pv 1)) (!zh))))) (!ze (!zr (!rfl) (!rfl) (!rfl) (!zf (!pgn (i:=4) qF.nd)) (!zb (pv 2))) (!ze (!qK PassesOwn.never (!rfl) (!jM (!zb (pv 3))) (!zf (!pgn (i:=5) qF.nd)) (!zn (!zr (!rfl) (!rfl) (!rfl) (!zf (!pgn (i:=4) qF.nd)) (!zo O_common_divisor (hr.mono (by omega)) (!rfl) T.m_common_divisor T.F_common_divisor.kp T.b_common_divisor (!zi (!rfl) (!zb (pv 4)) (!zi (!rfl) (!zb (pv 5)) (!zh))))))) (!zn (!zw (!zC zaJ (!PD.b (!zO vt (!rfl) T.n_abs boot_abs (!jf (!rfl) (!PD.b (!zb (pv 2))) (!zD)))) (!PD.b (!zb (pv 4))))))))))
theorem zaj:FnScope ["_law_script", "_law_k"] ["_law_script", "_law_k"] (zd (top 37)):=⟨rfl,rfl,rfl,by decide +kernel,rfl,by decide +kernel,by decide +kernel⟩
theorem kA (T:Tx K mg a):FnOk P w K mg base CX0 1 a.f_law_cell_at a.d_law_cell_at ["_law_script", "_law_k"] (spD K 2 F_law_cell_at):=by
 refine jF (N:=["_law_script", "_law_k"]) T.F_law_cell_at zaj fun cdv A outer s H E hr => ?_
 have hu0:=zcC hr
 conv in (zk _)=>whnf
 exact (!ze (!xp (!jk (zfg hu0) (!PD.b (!zb (pv 1))) (!PD.b (!zO zdh (!rfl) T.n_len boot_len (!jf (!rfl) (!PD.b (!zb (pv 0))) (!zD)))) (jW _)) (!zn (!zw (!zkC (!PD.b (!zb (pv 0))) (!PD.b (!zb (pv 1))) (fun _ _=>(!rfl))))) (!jJ)) (!zn (!zw (!zj))))
theorem vp:FnScope ["_law_script", "_law_k", "_law_drawn_here"] ["_law_script", "_law_k"] (zd (top 38)):=⟨rfl,rfl,rfl,by decide +kernel,rfl,by decide +kernel,by decide +kernel⟩
theorem zbs (T:Tx K mg a):FnOk P w K mg base CX0 2 a.f_law_mixed a.d_law_mixed ["_law_script", "_law_k"] (spD K 2 F_law_mixed):=by
 have O_law_cell_at:=kA (P:=P) (w:=w) (base:=base) T
 refine jF (N:=["_law_script", "_law_k", "_law_drawn_here"]) T.F_law_mixed vp fun cdv A outer s H E hr => ?_
 conv in (zk _)=>whnf
 exact (!ze (!zr (!rfl) (!rfl) (!rfl) (!zf (!pgn (i:=2) vp.nd)) (!zC jy (!PD.b (!zC jY (!PD.b (!zC zA (!PD.b (!zC zA (!PD.b (!zo O_law_cell_at (hr.mono (by omega)) (!rfl) T.m_law_cell_at T.F_law_cell_at.kp T.b_law_cell_at (!zi (!rfl) (!zb (pv 0)) (!zi (!rfl) (!zb (pv 1)) (!zh))))) (!PD.b (!zC jY (!PD.b (!zj)) (!PD.b (!zb (pv 1))))))) (!PD.b (!zj)))) (!PD.b (!zj)))) (!PD.b (!zj)))) (!zn (!zw (!zC jy (!PD.b (!zC zA (!PD.b (!zC zA (!PD.b (!zC jY (!PD.b (!zb (pv 2))) (!PD.b (!zb (pv 2))))) (!PD.b (!zC jY (!PD.b (!zj)) (!PD.b (!zb (pv 2))))))) (!PD.b (!zb (pv 1))))) (!PD.b (!zj))))))
theorem vo:FnScope ["_law_number", "_law_k", "_law_drawn_here"] ["_law_number", "_law_k"] (zd (top 39)):=⟨rfl,rfl,rfl,by decide +kernel,rfl,by decide +kernel,by decide +kernel⟩
theorem yG (T:Tx K mg a):FnOk P w K mg base CX0 1 a.f_law_drawn a.d_law_drawn ["_law_number", "_law_k"] (spD K 2 F_law_drawn):=by
 refine jF (N:=["_law_number", "_law_k", "_law_drawn_here"]) T.F_law_drawn vo fun cdv A outer s H E hr => ?_
 conv in (zk _)=>whnf
 exact (!ze (!zr (!rfl) (!rfl) (!rfl) (!zf (!pgn (i:=2) vo.nd)) (!zC jy (!PD.b (!zC jY (!PD.b (!zC zA (!PD.b (!zC zA (!PD.b (!zb (pv 0))) (!PD.b (!zC jY (!PD.b (!zj)) (!PD.b (!zb (pv 1))))))) (!PD.b (!zj)))) (!PD.b (!zj)))) (!PD.b (!zj)))) (!zn (!zw (!zC jy (!PD.b (!zC zA (!PD.b (!zC zA (!PD.b (!zC jY (!PD.b (!zb (pv 2))) (!PD.b (!zb (pv 2))))) (!PD.b (!zC jY (!PD.b (!zj)) (!PD.b (!zb (pv 2))))))) (!PD.b (!zb (pv 1))))) (!PD.b (!zj))))))
theorem zU:FnScope ["_law_number", "_law_most", "_law_wide", "_law_count", "_law_found", "_law_place", "_law_k", "_law_low", "_law_high", "_law_names", "_law_at", "_law_links", "_law_one", "_law_other"] ["_law_number", "_law_most", "_law_wide"] (zd (top 40)):=⟨rfl,rfl,rfl,by decide +kernel,rfl,by decide +kernel,by decide +kernel⟩
theorem zca (T:Tx K mg a):FnOk P w K mg base CX0 2 a.f_law_yard a.d_law_yard ["_law_number", "_law_most", "_law_wide"] (spD K 3 F_law_yard):=by
 have O_law_drawn:=yG (P:=P) (w:=w) (base:=base) T
 refine jF (N:=["_law_number", "_law_most", "_law_wide", "_law_count", "_law_found", "_law_place", "_law_k", "_law_low", "_law_high", "_law_names", "_law_at", "_law_links", "_law_one", "_law_other"]) T.F_law_yard zU fun cdv A outer s H E hr => ?_
 have hu0:=zcC hr
 have hu1:=zli hr
 conv in (zk _)=>whnf
 exact (!ze (!zr (!rfl) (!rfl) (!rfl) (!zf (!pgn (i:=3) zU.nd)) (!zC zA (!PD.b (!zj)) (!PD.b (!zC jy (!PD.b (!zb (pv 0))) (!PD.b (!zb (pv 1))))))) (!ze (!zfy (!pgn (i:=4) zU.nd)) (!ze (!qK PassesOwn.never (!rfl) (!qB (!rfl) T.n_range (!zi (!rfl) (!zj) (!zi (!rfl) (!zC zA (!PD.b (!zb (pv 3))) (!PD.b (!zj))) (!zh)))) (!zf (!pgn (i:=5) zU.nd)) (!zn (!zbz hu1 (pv 4) (!qQ (!zi (!rfl) (!zC jy (!PD.b (!zo O_law_drawn (hr.mono (by omega)) (!rfl) T.m_law_drawn T.F_law_drawn.kp T.b_law_drawn (!zi (!rfl) (!zb (pv 0)) (!zi (!rfl) (!zb (pv 5)) (!zh))))) (!PD.b (!zb (pv 5)))) (!zi (!rfl) (!zb (pv 5)) (!zh)))) (!zC zA (!PD.b (!zj)) (!PD.b (!zC jy (!PD.b (!zo O_law_drawn (hr.mono (by omega)) (!rfl) T.m_law_drawn T.F_law_drawn.kp T.b_law_drawn (!zi (!rfl) (!zb (pv 0)) (!zi (!rfl) (!zC zA (!PD.b (!zj)) (!PD.b (!zb (pv 5)))) (!zh))))) (!PD.b (!zb (pv 2))))))))) (!ze (!qK PassesOwn.never (!rfl) (!wI (!rfl) T.n_range (!zi (!rfl) (!zC jy (!PD.b (!zC zaJ (!PD.b (!zb (pv 0))) (!PD.b (!zj)))) (!PD.b (!zj))) (!zh))) (!zf (!pgn (i:=6) zU.nd)) (!ze (!zr (!rfl) (!rfl) (!rfl) (!zf (!pgn (i:=7) zU.nd)) (!zC jy (!PD.b (!zo O_law_drawn (hr.mono (by omega)) (!rfl) T.m_law_drawn T.F_law_drawn.kp T.b_law_drawn (!zi (!rfl) (!zb (pv 0)) (!zi (!rfl) (!zC zA (!PD.b (!zj)) (!PD.b (!zb (pv 6)))) (!zh))))) (!PD.b (!zC zA (!PD.b (!zb (pv 3))) (!PD.b (!zj)))))) (!ze (!zr (!rfl) (!rfl) (!rfl) (!zf (!pgn (i:=8) zU.nd)) (!zC jy (!PD.b (!zo O_law_drawn (hr.mono (by omega)) (!rfl) T.m_law_drawn T.F_law_drawn.kp T.b_law_drawn (!zi (!rfl) (!zb (pv 0)) (!zi (!rfl) (!zC zA (!PD.b (!zj)) (!PD.b (!zb (pv 6)))) (!zh))))) (!PD.b (!zC zA (!PD.b (!zb (pv 3))) (!PD.b (!zj)))))) (!zn (!xp (!jk (zfg hu0) (!PD.b (!zb (pv 7))) (!PD.b (!zb (pv 8))) (jW _)) (!zn (!zbz hu1 (pv 4) (!qQ (!zi (!rfl) (!zb (pv 7)) (!zi (!rfl) (!zb (pv 8)) (!zh)))) (!zC zA (!PD.b (!zj)) (!PD.b (!zC jy (!PD.b (!zo O_law_drawn (hr.mono (by omega)) (!rfl) T.m_law_drawn T.F_law_drawn.kp T.b_law_drawn (!zi (!rfl) (!zb (pv 0)) (!zi (!rfl) (!zC zA (!PD.b (!zj)) (!PD.b (!zb (pv 6)))) (!zh))))) (!PD.b (!zb (pv 2)))))))) (!jJ)))))) (!ze (!zr (!rfl) (!rfl) (!rfl) (!zf (!pgn (i:=9) zU.nd)) (!PFr.d_ (!wG (!zi (!rfl) (!zj) (!zh))))) (!ze (!qK PassesOwn.never (!rfl) (!qB (!rfl) T.n_range (!zi (!rfl) (!zj) (!zi (!rfl) (!zC zA (!PD.b (!zb (pv 3))) (!PD.b (!zj))) (!zh)))) (!zf (!pgn (i:=5) zU.nd)) (!ze (!zr (!rfl) (!rfl) (!rfl) (!zf (!pgn (i:=10) zU.nd)) (!zC zA (!PD.b (!zj)) (!PD.b (!zC jy (!PD.b (!zo O_law_drawn (hr.mono (by omega)) (!rfl) T.m_law_drawn T.F_law_drawn.kp T.b_law_drawn (!zi (!rfl) (!zb (pv 0)) (!zi (!rfl) (!zC zA (!PD.b (!zj)) (!PD.b (!zb (pv 5)))) (!zh))))) (!PD.b (!zb (pv 5))))))) (!zn (!zr (!rfl) (!rfl) (!rfl) (!zf (!pgn (i:=9) zU.nd)) (!zC zA (!PD.b (!zC zA (!PD.b (!qj (!PD.b (!zb (pv 9))) (!qm) (!qo (!PD.b (!zb (pv 10)))))) (!PD.b (!PFr.d_ (!wG (!zi (!rfl) (!zb (pv 5)) (!zh))))))) (!PD.b (!qj (!PD.b (!zb (pv 9))) (!qo (!PD.b (!zb (pv 10)))) (!qm)))))))) (!ze (!yU (!rfl) (!rfl) (!rfl) (!pgn (i:=11) zU.nd) (!wG (!zh))) (!ze (!zfz 4 (!qK PassesOwn.never (!rfl) (!zfs (!zb (pv 4))) (!qT (!rfl) (!zM (!zf (!pgn (i:=7) zU.nd)) (!zM (!zf (!pgn (i:=8) zU.nd)) (!qk)))) (!ze (!zr (!rfl) (!rfl) (!rfl) (!zf (!pgn (i:=12) zU.nd)) (!jL (!PD.b (!zb (pv 9))) (!PD.b (!zb (pv 7))) (fun _ _=>(!rfl)))) (!ze (!zr (!rfl) (!rfl) (!rfl) (!zf (!pgn (i:=13) zU.nd)) (!jL (!PD.b (!zb (pv 9))) (!PD.b (!zb (pv 8))) (fun _ _=>(!rfl)))) (!zn (!zfw (pv 11) (!qQ (!zi (!rfl) (!zO (za7 (!rfl)) (!rfl) T.n_min boot_min (!jf (!rfl) (!PD.b (!zb (pv 12))) (!jf (!rfl) (!PD.b (!zb (pv 13))) (!zD)))) (!zi (!rfl) (!zO (wx (!rfl)) (!rfl) T.n_max boot_max (!jf (!rfl) (!PD.b (!zb (pv 12))) (!jf (!rfl) (!PD.b (!zb (pv 13))) (!zD)))) (!zi (!rfl) (!zhd hu1 (!zbv (pv 4)) (!PD.b (!qQ (!zi (!rfl) (!zb (pv 7)) (!zi (!rfl) (!zb (pv 8)) (!zh))))) (fun _ _=>(!rfl))) (!zh))))))))))) (!zn (!zw (!qQ (!zi (!rfl) (!zb (pv 3)) (!zi (!rfl) (!jb zK (!rfl) T.n_tuple boot_tuple (!jf (!rfl) (!PD.b (!PFr.d_ (!zfp (!rfl) T.n_sorted (!jf (!rfl) (!zbv (pv 11)) (!zD))))) (!zD))) (!zh))))))))))))))
theorem zaW:FnScope ["_law_number", "_law_count", "_law_most"] ["_law_number", "_law_count", "_law_most"] (zd (top 41)):=⟨rfl,rfl,rfl,by decide +kernel,rfl,by decide +kernel,by decide +kernel⟩
theorem zaH (T:Tx K mg a):FnOk P w K mg base CX0 2 a.f_law_grains a.d_law_grains ["_law_number", "_law_count", "_law_most"] (spD K 3 F_law_grains):=by
 have O_law_drawn:=yG (P:=P) (w:=w) (base:=base) T
 refine jF (N:=["_law_number", "_law_count", "_law_most"]) T.F_law_grains zaW fun cdv A outer s H E hr => ?_
 conv in (zk _)=>whnf
 exact (!zn (!zw (!jb zK (!rfl) T.n_tuple boot_tuple (!jf (!rfl) (!PD.b (!PFr.d_ (!jv (zF (oscope:=zd (top 41)) (oN:=["_law_number", "_law_count", "_law_most"]) (own:=["_law_k"]) (caps:=[0,2]) (N:=["_law_k", "_law_number", "_law_most"]) (by decide +kernel) (!rfl) (!rfl)) (by decide) (zx (by decide)) (!rfl) (!wI (!rfl) T.n_range (!zi (!rfl) (!zb (pv 1)) (!zh))) (fun _ _ _ _ _=>(!zf (zJ (i:=0) (nd_ ["_law_k", "_law_number", "_law_most"]) (!rfl) (Or.inl (!rfl))))) (fun _ _ _ _ _=>(!zS)) (fun _ _ _ _ _=>(!zC jy (!PD.b (!zo O_law_drawn (hr.mono (by omega)) (!rfl) T.m_law_drawn T.F_law_drawn.kp T.b_law_drawn (!zi (!rfl) (!zb (pv 1)) (!zi (!rfl) (!zC zA (!PD.b (!zj)) (!PD.b (!zb (pv 0)))) (!zh))))) (!PD.b (!zC zA (!PD.b (!zb (pv 2))) (!PD.b (!zj))))))))) (!zD)))))
theorem xS:FnScope ["_law_yard_here", "_law_found", "_law_place"] ["_law_yard_here"] (zd (top 42)):=⟨rfl,rfl,rfl,by decide +kernel,rfl,by decide +kernel,by decide +kernel⟩
theorem zb9 (T:Tx K mg a):FnOk P w K mg base CX0 1 a.f_law_room a.d_law_room ["_law_yard_here"] (spD K 1 F_law_room):=by
 refine jF (N:=["_law_yard_here", "_law_found", "_law_place"]) T.F_law_room xS fun cdv A outer s H E hr => ?_
 have hu66:=vH hr
 conv in (zk _)=>whnf
 exact (!ze (!zr (!rfl) (!rfl) (!rfl) (!zf (!pgn (i:=1) xS.nd)) (!zj)) (!ze (!qK PassesOwn.never (!rfl) (!qB (!rfl) T.n_range (!zi (!rfl) (!zj) (!zi (!rfl) (!zC zA (!PD.b (!jL (!PD.b (!zb (pv 0))) (!PD.b (!zj)) (fun _ _=>(!rfl)))) (!PD.b (!zj))) (!zh)))) (!zf (!pgn (i:=2) xS.nd)) (!zn (!zr (!rfl) (!rfl) (!rfl) (!zf (!pgn (i:=1) xS.nd)) (!zC jY (!PD.b (!zb (pv 1))) (!PD.b (!zO (xE (!rfl)) (!rfl) T.n_sum boot_sum (!jf (!rfl) (!PD.b (!PFr.d_ (!jv (zF (oscope:=zd (top 42)) (oN:=["_law_yard_here", "_law_found", "_law_place"]) (own:=["_law_link"]) (caps:=[2]) (N:=["_law_link", "_law_place"]) (by decide +kernel) (!rfl) (!rfl)) (by decide) (zx (by decide)) (!rfl) (!jM (!jL (!PD.b (!zb (pv 0))) (!PD.b (!zj)) (fun _ _=>(!rfl)))) (fun _ _ _ _ _=>(!zf (zJ (i:=0) (nd_ ["_law_link", "_law_place"]) (!rfl) (Or.inl (!rfl))))) (fun _ _ _ _ _=>(!xj (!jk (zij hu66) (!PD.b (!zb (pv 1))) (!PD.b (!qj (!PD.b (!zb (pv 0))) (!qm) (!qo (!PD.b (!zj))))) (by rfl)))) (fun _ _ _ _ _=>(!jL (!PD.b (!zb (pv 0))) (!PD.b (!zj)) (fun _ _=>(!rfl))))))) (!zD)))))))) (!zn (!zw (!zb (pv 1))))))
theorem xA:FnScope ["_law_script", "_law_yard_here", "_law_other_yard", "_law_some", "_law_none", "_law_one", "_law_other", "_law_moved", "_law_undone", "_law_many", "_law_at", "_law_k", "_law_grains_here", "_law_more", "_law_both"] ["_law_script"] (zd (top 43)):=⟨rfl,rfl,rfl,by decide +kernel,rfl,by decide +kernel,by decide +kernel⟩
theorem zkr (T:Tx K mg a):FnOk P w K mg base CX0 12 a.f_law a.d_law ["_law_script"] (spD K 1 F_law):=by
 have O_law_mixed:=zbs (P:=P) (w:=w) (base:=base) T
 have O_law_yard:=zca (P:=P) (w:=w) (base:=base) T
 have O_law_room:=zb9 (P:=P) (w:=w) (base:=base) T
 have O_lasting:=zdu (P:=P) (w:=w) (base:=base) T
 have O_zero:=zi9 (P:=P) (w:=w) (base:=base) T
 have O_put:=zks (P:=P) (w:=w) (base:=base) T
 have O_back:=zi8 (P:=P) (w:=w) (base:=base) T
 have O_order_of:=zcb (P:=P) (w:=w) (base:=base) T
 have O_law_grains:=zaH (P:=P) (w:=w) (base:=base) T
 have O_home:=zb8 (P:=P) (w:=w) (base:=base) T
 refine jF (N:=["_law_script", "_law_yard_here", "_law_other_yard", "_law_some", "_law_none", "_law_one", "_law_other", "_law_moved", "_law_undone", "_law_many", "_law_at", "_law_k", "_law_grains_here", "_law_more", "_law_both"]) T.F_law xA fun cdv A outer s H E hr => ?_
 have hu66:=vH hr
 have hu64:=zat hr
 conv in (zk _)=>whnf
 exact (!ze (!zr (!rfl) (!rfl) (!rfl) (!zf (!pgn (i:=1) xA.nd)) (!zo O_law_yard (hr.mono (by omega)) (!rfl) T.m_law_yard T.F_law_yard.kp T.b_law_yard (!zi (!rfl) (!zo O_law_mixed (hr.mono (by omega)) (!rfl) T.m_law_mixed T.F_law_mixed.kp T.b_law_mixed (!zi (!rfl) (!zb (pv 0)) (!zi (!rfl) (!zj) (!zh)))) (!zi (!rfl) (!zj) (!zi (!rfl) (!zj) (!zh)))))) (!ze (!zr (!rfl) (!rfl) (!rfl) (!zf (!pgn (i:=2) xA.nd)) (!zo O_law_yard (hr.mono (by omega)) (!rfl) T.m_law_yard T.F_law_yard.kp T.b_law_yard (!zi (!rfl) (!zo O_law_mixed (hr.mono (by omega)) (!rfl) T.m_law_mixed T.F_law_mixed.kp T.b_law_mixed (!zi (!rfl) (!zb (pv 0)) (!zi (!rfl) (!zj) (!zh)))) (!zi (!rfl) (!zj) (!zi (!rfl) (!zj) (!zh)))))) (!ze (!xp (!PWd.t (!zjD (!jk (kX hu64) (!PD.b (!zC jy (!PD.b (!zo O_law_mixed (hr.mono (by omega)) (!rfl) T.m_law_mixed T.F_law_mixed.kp T.b_law_mixed (!zi (!rfl) (!zb (pv 0)) (!zi (!rfl) (!zj) (!zh))))) (!PD.b (!zj)))) (!PD.b (!zj)) (jW _)) (!zhx (!jk zkz (!PD.b (!zo O_law_room (hr.mono (by omega)) (!rfl) T.m_law_room T.F_law_room.kp T.b_law_room (!zi (!rfl) (!zb (pv 2)) (!zh)))) (!PD.b (!zj)) (jW _))))) (!zn (!zr (!rfl) (!rfl) (!rfl) (!zf (!pgn (i:=1) xA.nd)) (!zb (pv 2)))) (!jJ)) (!ze (!zr (!rfl) (!rfl) (!rfl) (!zf (!pgn (i:=3) xA.nd)) (!zo O_lasting (hr.mono (by omega)) (!rfl) T.m_lasting T.F_lasting.kp T.b_lasting (!zi (!rfl) (!zb (pv 1)) (!zh)))) (!ze (!zr (!rfl) (!rfl) (!rfl) (!zf (!pgn (i:=4) xA.nd)) (!zo O_zero (hr.mono (by omega)) (!rfl) T.m_zero T.F_zero.kp T.b_zero (!zi (!rfl) (!zb (pv 1)) (!zh)))) (!ze (!zr (!rfl) (!rfl) (!rfl) (!zf (!pgn (i:=5) xA.nd)) (!jL (!PD.b (!zb (pv 3))) (!PD.b (!zC jy (!PD.b (!zo O_law_mixed (hr.mono (by omega)) (!rfl) T.m_law_mixed T.F_law_mixed.kp T.b_law_mixed (!zi (!rfl) (!zb (pv 0)) (!zi (!rfl) (!zj) (!zh))))) (!PD.b (!zO qI (!rfl) T.n_len boot_len (!jf (!rfl) (!PD.b (!zb (pv 3))) (!zD)))))) (fun _ _=>(!rfl)))) (!ze (!zr (!rfl) (!rfl) (!rfl) (!zf (!pgn (i:=6) xA.nd)) (!jL (!PD.b (!zb (pv 3))) (!PD.b (!zC jy (!PD.b (!zo O_law_mixed (hr.mono (by omega)) (!rfl) T.m_law_mixed T.F_law_mixed.kp T.b_law_mixed (!zi (!rfl) (!zb (pv 0)) (!zi (!rfl) (!zj) (!zh))))) (!PD.b (!zO qI (!rfl) T.n_len boot_len (!jf (!rfl) (!PD.b (!zb (pv 3))) (!zD)))))) (fun _ _=>(!rfl)))) (!ze (!qY (i:=7) (zF (oscope:=zd (top 43)) (oN:=["_law_script", "_law_yard_here", "_law_other_yard", "_law_some", "_law_none", "_law_one", "_law_other", "_law_moved", "_law_undone", "_law_many", "_law_at", "_law_k", "_law_grains_here", "_law_more", "_law_both"]) (own:=["_law_rest"]) (caps:=[1,4]) (N:=["_law_rest", "_law_yard_here", "_law_none"]) (by decide +kernel) (!rfl) (!rfl)) (by decide) (zx (by decide)) (!rfl) (!jM (!zb (pv 3))) (fun _ _ _ _ _=>(!zf (zJ (i:=0) (nd_ ["_law_rest", "_law_yard_here", "_law_none"]) (!rfl) (Or.inl (!rfl))))) (fun _ _ _ _ _=>(!xj (!jk (yH hu64) (!PD.b (!zo O_put (hr.mono (by omega)) (!rfl) T.m_put T.F_put.kp T.b_put (!zi (!rfl) (!zb (pv 1)) (!zi (!rfl) (!zb (pv 0)) (!zi (!rfl) (!zb (pv 2)) (!zh)))))) (!PD.b (!zb (pv 0))) (jW _)))) (fun _ _ _ _ _=>(!zb (pv 0))) xA.nd (!rfl) (!rfl) (!rfl)) (!ze (!xp (!PWd.t (!kZ (!jk (qX hu66) (!PD.b (!zb (pv 4))) (!PD.b (!zb (pv 3))) (by rfl)) (!kb (!jk (yH hu64) (!PD.b (!zb (pv 7))) (!PD.b (!PFr.d_ (!wG (!zh)))) (jW _))))) (!zn (!zw (!kY))) (!jJ)) (!ze (!zr (!rfl) (!rfl) (!rfl) (!zf (!pgn (i:=8) xA.nd)) (!zo O_back (hr.mono (by omega)) (!rfl) T.m_back T.F_back.kp T.b_back (!zi (!rfl) (!zb (pv 1)) (!zi (!rfl) (!zb (pv 5)) (!zh))))) (!ze (!xp (!PWd.t (!kZ (!jk (qX hu66) (!PD.b (!zb (pv 8))) (!PD.b (!zb (pv 3))) (by rfl)) (!kZ (!jk (yH hu64) (!PD.b (!zo O_put (hr.mono (by omega)) (!rfl) T.m_put T.F_put.kp T.b_put (!zi (!rfl) (!zb (pv 1)) (!zi (!rfl) (!zb (pv 5)) (!zi (!rfl) (!zb (pv 8)) (!zh)))))) (!PD.b (!zb (pv 4))) (jW _)) (!kb (!jk (qX hu66) (!PD.b (!zo O_put (hr.mono (by omega)) (!rfl) T.m_put T.F_put.kp T.b_put (!zi (!rfl) (!zb (pv 1)) (!zi (!rfl) (!zb (pv 5)) (!zi (!rfl) (!zb (pv 6)) (!zh)))))) (!PD.b (!zb (pv 3))) (by rfl)))))) (!zn (!zw (!kY))) (!jJ)) (!ze (!xp (!jk (yH hu64) (!PD.b (!zfm hu66 (!rfl) T.n_len (!rfl) T.n_set (!zi (!rfl) (!PFr.d_ (!jv (zF (oscope:=zd (top 43)) (oN:=["_law_script", "_law_yard_here", "_law_other_yard", "_law_some", "_law_none", "_law_one", "_law_other", "_law_moved", "_law_undone", "_law_many", "_law_at", "_law_k", "_law_grains_here", "_law_more", "_law_both"]) (own:=["_law_grains_here"]) (caps:=[1,5]) (N:=["_law_grains_here", "_law_yard_here", "_law_one"]) (by decide +kernel) (!rfl) (!rfl)) (by decide) (zx (by decide)) (!rfl) (!jM (!zb (pv 3))) (fun _ _ _ _ _=>(!zf (zJ (i:=0) (nd_ ["_law_grains_here", "_law_yard_here", "_law_one"]) (!rfl) (Or.inl (!rfl))))) (fun _ _ _ _ _=>(!zS)) (fun _ _ _ _ _=>(!zo O_put (hr.mono (by omega)) (!rfl) T.m_put T.F_put.kp T.b_put (!zi (!rfl) (!zb (pv 1)) (!zi (!rfl) (!zb (pv 0)) (!zi (!rfl) (!zb (pv 2)) (!zh)))))))) (!zh)))) (!PD.b (!zO qI (!rfl) T.n_len boot_len (!jf (!rfl) (!PD.b (!zb (pv 3))) (!zD)))) (jW _)) (!zn (!zw (!kY))) (!jJ)) (!ze (!zr (!rfl) (!rfl) (!rfl) (!zf (!pgn (i:=9) xA.nd)) (!zo O_order_of (hr.mono (by omega)) (!rfl) T.m_order_of T.F_order_of.kp T.b_order_of (!zi (!rfl) (!zb (pv 1)) (!zi (!rfl) (!zb (pv 5)) (!zh))))) (!ze (!zr (!rfl) (!rfl) (!rfl) (!zf (!pgn (i:=10) xA.nd)) (!zb (pv 5))) (!ze (!qK PassesOwn.never (!rfl) (!wI (!rfl) T.n_range (!zi (!rfl) (!zb (pv 9)) (!zh))) (!zf (!pgn (i:=11) xA.nd)) (!ze (!xp (!jk (yH hu64) (!PD.b (!zbw (kX hu64) (!PD.b (!zb (pv 10))) (!PD.b (!zb (pv 4))) (jW _))) (!PD.b (!zbw (kX hu64) (!PD.b (!zb (pv 11))) (!PD.b (!zC vX (!PD.b (!zb (pv 9))) (!PD.b (!zj)))) (jW _))) (jW _)) (!zn (!zw (!kY))) (!jJ)) (!zn (!zr (!rfl) (!rfl) (!rfl) (!zf (!pgn (i:=10) xA.nd)) (!zo O_put (hr.mono (by omega)) (!rfl) T.m_put T.F_put.kp T.b_put (!zi (!rfl) (!zb (pv 1)) (!zi (!rfl) (!zb (pv 10)) (!zi (!rfl) (!zb (pv 5)) (!zh))))))))) (!ze (!xp (!PWd.t (!kZ (!wt (!PD.b (!zfl (zgV _) (!PD.b (!zb (pv 9))) (!rfl) T.n_isinstance (!rfl) T.n_bool boot_isinstance boot_bool))) (!kb (!jk (yH hu64) (!PD.b (!zC jy (!PD.b (!zO qI (!rfl) T.n_len boot_len (!jf (!rfl) (!PD.b (!zb (pv 3))) (!zD)))) (!PD.b (!zb (pv 9))))) (!PD.b (!zj)) (jW _))))) (!zn (!zw (!kY))) (!jJ)) (!ze (!zr (!rfl) (!rfl) (!rfl) (!zf (!pgn (i:=12) xA.nd)) (!zo O_law_grains (hr.mono (by omega)) (!rfl) T.m_law_grains T.F_law_grains.kp T.b_law_grains (!zi (!rfl) (!zo O_law_mixed (hr.mono (by omega)) (!rfl) T.m_law_mixed T.F_law_mixed.kp T.b_law_mixed (!zi (!rfl) (!zb (pv 0)) (!zi (!rfl) (!zj) (!zh)))) (!zi (!rfl) (!jL (!PD.b (!zb (pv 1))) (!PD.b (!zj)) (fun _ _=>(!rfl))) (!zi (!rfl) (!zj) (!zh)))))) (!ze (!zr (!rfl) (!rfl) (!rfl) (!zf (!pgn (i:=13) xA.nd)) (!zo O_law_grains (hr.mono (by omega)) (!rfl) T.m_law_grains T.F_law_grains.kp T.b_law_grains (!zi (!rfl) (!zo O_law_mixed (hr.mono (by omega)) (!rfl) T.m_law_mixed T.F_law_mixed.kp T.b_law_mixed (!zi (!rfl) (!zb (pv 0)) (!zi (!rfl) (!zj) (!zh)))) (!zi (!rfl) (!jL (!PD.b (!zb (pv 1))) (!PD.b (!zj)) (fun _ _=>(!rfl))) (!zi (!rfl) (!zj) (!zh)))))) (!ze (!zr (!rfl) (!rfl) (!rfl) (!zf (!pgn (i:=14) xA.nd)) (!jb zK (!rfl) T.n_tuple boot_tuple (!jf (!rfl) (!PD.b (!PFr.d_ (!jv (zF (oscope:=zd (top 43)) (oN:=["_law_script", "_law_yard_here", "_law_other_yard", "_law_some", "_law_none", "_law_one", "_law_other", "_law_moved", "_law_undone", "_law_many", "_law_at", "_law_k", "_law_grains_here", "_law_more", "_law_both"]) (own:=["_law_here", "_law_there"]) (caps:=[]) (N:=["_law_here", "_law_there"]) (by decide +kernel) (!rfl) (!rfl)) (by decide) (xY (jo (zx (by decide)) (jo (zx (by decide)) xX))) (!rfl) (!wJ (!rfl) T.n_zip (!zi (!rfl) (!zb (pv 12)) (!zi (!rfl) (!zb (pv 13)) (!zh)))) (fun _ _ _ _ _=>(!qT (!rfl) (!zM (!zf (zJ (i:=0) (nd_ ["_law_here", "_law_there"]) (!rfl) (Or.inl (!rfl)))) (!zM (!zf (zJ (i:=1) (nd_ ["_law_here", "_law_there"]) (!rfl) (Or.inl (!rfl)))) (!qk))))) (fun _ _ _ _ _=>(!zS)) (fun _ _ _ _ _=>(!zC zA (!PD.b (!zb (pv 0))) (!PD.b (!zb (pv 1)))))))) (!zD)))) (!ze (!xp (!PWd.t (!kZ (!jk (qX hu66) (!PD.b (!zo O_home (hr.mono (by omega)) (!rfl) T.m_home T.F_home.kp T.b_home (!zi (!rfl) (!zb (pv 1)) (!zi (!rfl) (!zb (pv 12)) (!zh))))) (!PD.b (!zb (pv 3))) (by rfl)) (!kb (!jk (yH hu64) (!PD.b (!zo O_home (hr.mono (by omega)) (!rfl) T.m_home T.F_home.kp T.b_home (!zi (!rfl) (!zb (pv 1)) (!zi (!rfl) (!zb (pv 5)) (!zh))))) (!PD.b (!zb (pv 5))) (jW _))))) (!zn (!zw (!kY))) (!jJ)) (!zn (!zw (!zbw (kX hu64) (!PD.b (!zo O_home (hr.mono (by omega)) (!rfl) T.m_home T.F_home.kp T.b_home (!zi (!rfl) (!zb (pv 1)) (!zi (!rfl) (!zb (pv 14)) (!zh))))) (!PD.b (!zo O_put (hr.mono (by omega)) (!rfl) T.m_put T.F_put.kp T.b_put (!zi (!rfl) (!zb (pv 1)) (!zi (!rfl) (!zo O_home (hr.mono (by omega)) (!rfl) T.m_home T.F_home.kp T.b_home (!zi (!rfl) (!zb (pv 1)) (!zi (!rfl) (!zb (pv 12)) (!zh)))) (!zi (!rfl) (!zo O_home (hr.mono (by omega)) (!rfl) T.m_home T.F_home.kp T.b_home (!zi (!rfl) (!zb (pv 1)) (!zi (!rfl) (!zb (pv 13)) (!zh)))) (!zh)))))) (jW _))))))))))))))))))))))))
end
end L2.Y
set_option maxHeartbeats 4000000
namespace L2.Y
open PySem PySem.Spec PyProof.Rows
theorem all_mk {l:PySem.W.OpenLaw} {w:World} {K:Frag} {h:Heap} {mg:Str→Option Value} {fa:Addr} (X:K.In h) (G:h.Ns mainGlobals mg) (hfa:mg "law" = some (.ref fa))
  {f0:Addr} {od0 an0:Option Addr} {sl0:Array (Option Value)} {oc0 kV0 dc0 pm0 cd0 ct0:Value}
  (a0:PySem.W.nsIn K mainGlobals "size_of" = some (some (.ref f0)))
  (l0:K.lookup f0=some ⟨oc0,od0,.func (PySem.W.fnOf "size_of" "size_of" (zq (top 5)) (zk (top 5)) (zd (top 5)) .none kV0 dc0 pm0 an0 cd0 ct0),sl0⟩)
  (c0:PySem.W.codeIn K cd0 "size_of" = true) (k0:PySem.W.keepIn K (.ref f0)=true)
  {f1:Addr} {od1 an1:Option Addr} {sl1:Array (Option Value)} {oc1 kV1 dc1 pm1 cd1 ct1:Value}
  (a1:PySem.W.nsIn K mainGlobals "sizes" = some (some (.ref f1)))
  (l1:K.lookup f1=some ⟨oc1,od1,.func (PySem.W.fnOf "sizes" "sizes" (zq (top 6)) (zk (top 6)) (zd (top 6)) .none kV1 dc1 pm1 an1 cd1 ct1),sl1⟩)
  (c1:PySem.W.codeIn K cd1 "sizes" = true) (k1:PySem.W.keepIn K (.ref f1)=true)
  {f2:Addr} {od2 an2:Option Addr} {sl2:Array (Option Value)} {oc2 kV2 dc2 pm2 cd2 ct2:Value}
  (a2:PySem.W.nsIn K mainGlobals "between" = some (some (.ref f2)))
  (l2:K.lookup f2=some ⟨oc2,od2,.func (PySem.W.fnOf "between" "between" (zq (top 7)) (zk (top 7)) (zd (top 7)) .none kV2 dc2 pm2 an2 cd2 ct2),sl2⟩)
  (c2:PySem.W.codeIn K cd2 "between" = true) (k2:PySem.W.keepIn K (.ref f2)=true)
  {f3:Addr} {od3 an3:Option Addr} {sl3:Array (Option Value)} {oc3 kV3 dc3 pm3 cd3 ct3:Value}
  (a3:PySem.W.nsIn K mainGlobals "all_below" = some (some (.ref f3)))
  (l3:K.lookup f3=some ⟨oc3,od3,.func (PySem.W.fnOf "all_below" "all_below" (zq (top 9)) (zk (top 9)) (zd (top 9)) .none kV3 dc3 pm3 an3 cd3 ct3),sl3⟩)
  (c3:PySem.W.codeIn K cd3 "all_below" = true) (k3:PySem.W.keepIn K (.ref f3)=true)
  {f4:Addr} {od4 an4:Option Addr} {sl4:Array (Option Value)} {oc4 kV4 dc4 pm4 cd4 ct4:Value}
  (a4:PySem.W.nsIn K mainGlobals "change_by" = some (some (.ref f4)))
  (l4:K.lookup f4=some ⟨oc4,od4,.func (PySem.W.fnOf "change_by" "change_by" (zq (top 10)) (zk (top 10)) (zd (top 10)) .none kV4 dc4 pm4 an4 cd4 ct4),sl4⟩)
  (c4:PySem.W.codeIn K cd4 "change_by" = true) (k4:PySem.W.keepIn K (.ref f4)=true)
  {f5:Addr} {od5 an5:Option Addr} {sl5:Array (Option Value)} {oc5 kV5 dc5 pm5 cd5 ct5:Value}
  (a5:PySem.W.nsIn K mainGlobals "changed" = some (some (.ref f5)))
  (l5:K.lookup f5=some ⟨oc5,od5,.func (PySem.W.fnOf "changed" "changed" (zq (top 11)) (zk (top 11)) (zd (top 11)) .none kV5 dc5 pm5 an5 cd5 ct5),sl5⟩)
  (c5:PySem.W.codeIn K cd5 "changed" = true) (k5:PySem.W.keepIn K (.ref f5)=true)
  {f6:Addr} {od6 an6:Option Addr} {sl6:Array (Option Value)} {oc6 kV6 dc6 pm6 cd6 ct6:Value}
  (a6:PySem.W.nsIn K mainGlobals "rests" = some (some (.ref f6)))
  (l6:K.lookup f6=some ⟨oc6,od6,.func (PySem.W.fnOf "rests" "rests" (zq (top 12)) (zk (top 12)) (zd (top 12)) .none kV6 dc6 pm6 an6 cd6 ct6),sl6⟩)
  (c6:PySem.W.codeIn K cd6 "rests" = true) (k6:PySem.W.keepIn K (.ref f6)=true)
  {f7:Addr} {od7 an7:Option Addr} {sl7:Array (Option Value)} {oc7 kV7 dc7 pm7 cd7 ct7:Value}
  (a7:PySem.W.nsIn K mainGlobals "settled" = some (some (.ref f7)))
  (l7:K.lookup f7=some ⟨oc7,od7,.func (PySem.W.fnOf "settled" "settled" (zq (top 13)) (zk (top 13)) (zd (top 13)) .none kV7 dc7 pm7 an7 cd7 ct7),sl7⟩)
  (c7:PySem.W.codeIn K cd7 "settled" = true) (k7:PySem.W.keepIn K (.ref f7)=true)
  {f8:Addr} {od8 an8:Option Addr} {sl8:Array (Option Value)} {oc8 kV8 dc8 pm8 cd8 ct8:Value}
  (a8:PySem.W.nsIn K mainGlobals "put" = some (some (.ref f8)))
  (l8:K.lookup f8=some ⟨oc8,od8,.func (PySem.W.fnOf "put" "put" (zq (top 14)) (zk (top 14)) (zd (top 14)) .none kV8 dc8 pm8 an8 cd8 ct8),sl8⟩)
  (c8:PySem.W.codeIn K cd8 "put" = true) (k8:PySem.W.keepIn K (.ref f8)=true)
  {f9:Addr} {od9 an9:Option Addr} {sl9:Array (Option Value)} {oc9 kV9 dc9 pm9 cd9 ct9:Value}
  (a9:PySem.W.nsIn K mainGlobals "ties_to" = some (some (.ref f9)))
  (l9:K.lookup f9=some ⟨oc9,od9,.func (PySem.W.fnOf "ties_to" "ties_to" (zq (top 16)) (zk (top 16)) (zd (top 16)) .none kV9 dc9 pm9 an9 cd9 ct9),sl9⟩)
  (c9:PySem.W.codeIn K cd9 "ties_to" = true) (k9:PySem.W.keepIn K (.ref f9)=true)
  {f10:Addr} {od10 an10:Option Addr} {sl10:Array (Option Value)} {oc10 kV10 dc10 pm10 cd10 ct10:Value}
  (a10:PySem.W.nsIn K mainGlobals "catching" = some (some (.ref f10)))
  (l10:K.lookup f10=some ⟨oc10,od10,.func (PySem.W.fnOf "catching" "catching" (zq (top 17)) (zk (top 17)) (zd (top 17)) .none kV10 dc10 pm10 an10 cd10 ct10),sl10⟩)
  (c10:PySem.W.codeIn K cd10 "catching" = true) (k10:PySem.W.keepIn K (.ref f10)=true)
  {f11:Addr} {od11 an11:Option Addr} {sl11:Array (Option Value)} {oc11 kV11 dc11 pm11 cd11 ct11:Value}
  (a11:PySem.W.nsIn K mainGlobals "burn" = some (some (.ref f11)))
  (l11:K.lookup f11=some ⟨oc11,od11,.func (PySem.W.fnOf "burn" "burn" (zq (top 18)) (zk (top 18)) (zd (top 18)) .none kV11 dc11 pm11 an11 cd11 ct11),sl11⟩)
  (c11:PySem.W.codeIn K cd11 "burn" = true) (k11:PySem.W.keepIn K (.ref f11)=true)
  {f12:Addr} {od12 an12:Option Addr} {sl12:Array (Option Value)} {oc12 kV12 dc12 pm12 cd12 ct12:Value}
  (a12:PySem.W.nsIn K mainGlobals "is_lasting" = some (some (.ref f12)))
  (l12:K.lookup f12=some ⟨oc12,od12,.func (PySem.W.fnOf "is_lasting" "is_lasting" (zq (top 19)) (zk (top 19)) (zd (top 19)) .none kV12 dc12 pm12 an12 cd12 ct12),sl12⟩)
  (c12:PySem.W.codeIn K cd12 "is_lasting" = true) (k12:PySem.W.keepIn K (.ref f12)=true)
  {f13:Addr} {od13 an13:Option Addr} {sl13:Array (Option Value)} {oc13 kV13 dc13 pm13 cd13 ct13:Value}
  (a13:PySem.W.nsIn K mainGlobals "determinant" = some (some (.ref f13)))
  (l13:K.lookup f13=some ⟨oc13,od13,.func (PySem.W.fnOf "determinant" "determinant" (zq (top 21)) (zk (top 21)) (zd (top 21)) .none kV13 dc13 pm13 an13 cd13 ct13),sl13⟩)
  (c13:PySem.W.codeIn K cd13 "determinant" = true) (k13:PySem.W.keepIn K (.ref f13)=true)
  {f14:Addr} {od14 an14:Option Addr} {sl14:Array (Option Value)} {oc14 kV14 dc14 pm14 cd14 ct14:Value}
  (a14:PySem.W.nsIn K mainGlobals "times_for" = some (some (.ref f14)))
  (l14:K.lookup f14=some ⟨oc14,od14,.func (PySem.W.fnOf "times_for" "times_for" (zq (top 22)) (zk (top 22)) (zd (top 22)) .none kV14 dc14 pm14 an14 cd14 ct14),sl14⟩)
  (c14:PySem.W.codeIn K cd14 "times_for" = true) (k14:PySem.W.keepIn K (.ref f14)=true)
  {f15:Addr} {od15 an15:Option Addr} {sl15:Array (Option Value)} {oc15 kV15 dc15 pm15 cd15 ct15:Value}
  (a15:PySem.W.nsIn K mainGlobals "common_divisor" = some (some (.ref f15)))
  (l15:K.lookup f15=some ⟨oc15,od15,.func (PySem.W.fnOf "common_divisor" "common_divisor" (zq (top 23)) (zk (top 23)) (zd (top 23)) .none kV15 dc15 pm15 an15 cd15 ct15),sl15⟩)
  (c15:PySem.W.codeIn K cd15 "common_divisor" = true) (k15:PySem.W.keepIn K (.ref f15)=true)
  {f16:Addr} {od16 an16:Option Addr} {sl16:Array (Option Value)} {oc16 kV16 dc16 pm16 cd16 ct16:Value}
  (a16:PySem.W.nsIn K mainGlobals "without" = some (some (.ref f16)))
  (l16:K.lookup f16=some ⟨oc16,od16,.func (PySem.W.fnOf "without" "without" (zq (top 25)) (zk (top 25)) (zd (top 25)) .none kV16 dc16 pm16 an16 cd16 ct16),sl16⟩)
  (c16:PySem.W.codeIn K cd16 "without" = true) (k16:PySem.W.keepIn K (.ref f16)=true)
  {f17:Addr} {od17 an17:Option Addr} {sl17:Array (Option Value)} {oc17 kV17 dc17 pm17 cd17 ct17:Value}
  (a17:PySem.W.nsIn K mainGlobals "fullest" = some (some (.ref f17)))
  (l17:K.lookup f17=some ⟨oc17,od17,.func (PySem.W.fnOf "fullest" "fullest" (zq (top 26)) (zk (top 26)) (zd (top 26)) .none kV17 dc17 pm17 an17 cd17 ct17),sl17⟩)
  (c17:PySem.W.codeIn K cd17 "fullest" = true) (k17:PySem.W.keepIn K (.ref f17)=true)
  {f18:Addr} {od18 an18:Option Addr} {sl18:Array (Option Value)} {oc18 kV18 dc18 pm18 cd18 ct18:Value}
  (a18:PySem.W.nsIn K mainGlobals "least_heap" = some (some (.ref f18)))
  (l18:K.lookup f18=some ⟨oc18,od18,.func (PySem.W.fnOf "least_heap" "least_heap" (zq (top 27)) (zk (top 27)) (zd (top 27)) .none kV18 dc18 pm18 an18 cd18 ct18),sl18⟩)
  (c18:PySem.W.codeIn K cd18 "least_heap" = true) (k18:PySem.W.keepIn K (.ref f18)=true)
  {f19:Addr} {od19 an19:Option Addr} {sl19:Array (Option Value)} {oc19 kV19 dc19 pm19 cd19 ct19:Value}
  (a19:PySem.W.nsIn K mainGlobals "one_heap_longer" = some (some (.ref f19)))
  (l19:K.lookup f19=some ⟨oc19,od19,.func (PySem.W.fnOf "one_heap_longer" "one_heap_longer" (zq (top 28)) (zk (top 28)) (zd (top 28)) .none kV19 dc19 pm19 an19 cd19 ct19),sl19⟩)
  (c19:PySem.W.codeIn K cd19 "one_heap_longer" = true) (k19:PySem.W.keepIn K (.ref f19)=true)
  {f20:Addr} {od20 an20:Option Addr} {sl20:Array (Option Value)} {oc20 kV20 dc20 pm20 cd20 ct20:Value}
  (a20:PySem.W.nsIn K mainGlobals "lasting" = some (some (.ref f20)))
  (l20:K.lookup f20=some ⟨oc20,od20,.func (PySem.W.fnOf "lasting" "lasting" (zq (top 29)) (zk (top 29)) (zd (top 29)) .none kV20 dc20 pm20 an20 cd20 ct20),sl20⟩)
  (c20:PySem.W.codeIn K cd20 "lasting" = true) (k20:PySem.W.keepIn K (.ref f20)=true)
  {f21:Addr} {od21 an21:Option Addr} {sl21:Array (Option Value)} {oc21 kV21 dc21 pm21 cd21 ct21:Value}
  (a21:PySem.W.nsIn K mainGlobals "lift_of" = some (some (.ref f21)))
  (l21:K.lookup f21=some ⟨oc21,od21,.func (PySem.W.fnOf "lift_of" "lift_of" (zq (top 30)) (zk (top 30)) (zd (top 30)) .none kV21 dc21 pm21 an21 cd21 ct21),sl21⟩)
  (c21:PySem.W.codeIn K cd21 "lift_of" = true) (k21:PySem.W.keepIn K (.ref f21)=true)
  {f22:Addr} {od22 an22:Option Addr} {sl22:Array (Option Value)} {oc22 kV22 dc22 pm22 cd22 ct22:Value}
  (a22:PySem.W.nsIn K mainGlobals "home" = some (some (.ref f22)))
  (l22:K.lookup f22=some ⟨oc22,od22,.func (PySem.W.fnOf "home" "home" (zq (top 31)) (zk (top 31)) (zd (top 31)) .none kV22 dc22 pm22 an22 cd22 ct22),sl22⟩)
  (c22:PySem.W.codeIn K cd22 "home" = true) (k22:PySem.W.keepIn K (.ref f22)=true)
  {f23:Addr} {od23 an23:Option Addr} {sl23:Array (Option Value)} {oc23 kV23 dc23 pm23 cd23 ct23:Value}
  (a23:PySem.W.nsIn K mainGlobals "zero" = some (some (.ref f23)))
  (l23:K.lookup f23=some ⟨oc23,od23,.func (PySem.W.fnOf "zero" "zero" (zq (top 32)) (zk (top 32)) (zd (top 32)) .none kV23 dc23 pm23 an23 cd23 ct23),sl23⟩)
  (c23:PySem.W.codeIn K cd23 "zero" = true) (k23:PySem.W.keepIn K (.ref f23)=true)
  {f24:Addr} {od24 an24:Option Addr} {sl24:Array (Option Value)} {oc24 kV24 dc24 pm24 cd24 ct24:Value}
  (a24:PySem.W.nsIn K mainGlobals "refuse_unless_lasting" = some (some (.ref f24)))
  (l24:K.lookup f24=some ⟨oc24,od24,.func (PySem.W.fnOf "refuse_unless_lasting" "refuse_unless_lasting" (zq (top 33)) (zk (top 33)) (zd (top 33)) .none kV24 dc24 pm24 an24 cd24 ct24),sl24⟩)
  (c24:PySem.W.codeIn K cd24 "refuse_unless_lasting" = true) (k24:PySem.W.keepIn K (.ref f24)=true)
  {f25:Addr} {od25 an25:Option Addr} {sl25:Array (Option Value)} {oc25 kV25 dc25 pm25 cd25 ct25:Value}
  (a25:PySem.W.nsIn K mainGlobals "back" = some (some (.ref f25)))
  (l25:K.lookup f25=some ⟨oc25,od25,.func (PySem.W.fnOf "back" "back" (zq (top 34)) (zk (top 34)) (zd (top 34)) .none kV25 dc25 pm25 an25 cd25 ct25),sl25⟩)
  (c25:PySem.W.codeIn K cd25 "back" = true) (k25:PySem.W.keepIn K (.ref f25)=true)
  {f26:Addr} {od26 an26:Option Addr} {sl26:Array (Option Value)} {oc26 kV26 dc26 pm26 cd26 ct26:Value}
  (a26:PySem.W.nsIn K mainGlobals "order_of" = some (some (.ref f26)))
  (l26:K.lookup f26=some ⟨oc26,od26,.func (PySem.W.fnOf "order_of" "order_of" (zq (top 35)) (zk (top 35)) (zd (top 35)) .none kV26 dc26 pm26 an26 cd26 ct26),sl26⟩)
  (c26:PySem.W.codeIn K cd26 "order_of" = true) (k26:PySem.W.keepIn K (.ref f26)=true)
  {f27:Addr} {od27 an27:Option Addr} {sl27:Array (Option Value)} {oc27 kV27 dc27 pm27 cd27 ct27:Value}
  (a27:PySem.W.nsIn K mainGlobals "_law_cell_at" = some (some (.ref f27)))
  (l27:K.lookup f27=some ⟨oc27,od27,.func (PySem.W.fnOf "_law_cell_at" "_law_cell_at" (zq (top 37)) (zk (top 37)) (zd (top 37)) .none kV27 dc27 pm27 an27 cd27 ct27),sl27⟩)
  (c27:PySem.W.codeIn K cd27 "_law_cell_at" = true) (k27:PySem.W.keepIn K (.ref f27)=true)
  {f28:Addr} {od28 an28:Option Addr} {sl28:Array (Option Value)} {oc28 kV28 dc28 pm28 cd28 ct28:Value}
  (a28:PySem.W.nsIn K mainGlobals "_law_mixed" = some (some (.ref f28)))
  (l28:K.lookup f28=some ⟨oc28,od28,.func (PySem.W.fnOf "_law_mixed" "_law_mixed" (zq (top 38)) (zk (top 38)) (zd (top 38)) .none kV28 dc28 pm28 an28 cd28 ct28),sl28⟩)
  (c28:PySem.W.codeIn K cd28 "_law_mixed" = true) (k28:PySem.W.keepIn K (.ref f28)=true)
  {f29:Addr} {od29 an29:Option Addr} {sl29:Array (Option Value)} {oc29 kV29 dc29 pm29 cd29 ct29:Value}
  (a29:PySem.W.nsIn K mainGlobals "_law_drawn" = some (some (.ref f29)))
  (l29:K.lookup f29=some ⟨oc29,od29,.func (PySem.W.fnOf "_law_drawn" "_law_drawn" (zq (top 39)) (zk (top 39)) (zd (top 39)) .none kV29 dc29 pm29 an29 cd29 ct29),sl29⟩)
  (c29:PySem.W.codeIn K cd29 "_law_drawn" = true) (k29:PySem.W.keepIn K (.ref f29)=true)
  {f30:Addr} {od30 an30:Option Addr} {sl30:Array (Option Value)} {oc30 kV30 dc30 pm30 cd30 ct30:Value}
  (a30:PySem.W.nsIn K mainGlobals "_law_yard" = some (some (.ref f30)))
  (l30:K.lookup f30=some ⟨oc30,od30,.func (PySem.W.fnOf "_law_yard" "_law_yard" (zq (top 40)) (zk (top 40)) (zd (top 40)) .none kV30 dc30 pm30 an30 cd30 ct30),sl30⟩)
  (c30:PySem.W.codeIn K cd30 "_law_yard" = true) (k30:PySem.W.keepIn K (.ref f30)=true)
  {f31:Addr} {od31 an31:Option Addr} {sl31:Array (Option Value)} {oc31 kV31 dc31 pm31 cd31 ct31:Value}
  (a31:PySem.W.nsIn K mainGlobals "_law_grains" = some (some (.ref f31)))
  (l31:K.lookup f31=some ⟨oc31,od31,.func (PySem.W.fnOf "_law_grains" "_law_grains" (zq (top 41)) (zk (top 41)) (zd (top 41)) .none kV31 dc31 pm31 an31 cd31 ct31),sl31⟩)
  (c31:PySem.W.codeIn K cd31 "_law_grains" = true) (k31:PySem.W.keepIn K (.ref f31)=true)
  {f32:Addr} {od32 an32:Option Addr} {sl32:Array (Option Value)} {oc32 kV32 dc32 pm32 cd32 ct32:Value}
  (a32:PySem.W.nsIn K mainGlobals "_law_room" = some (some (.ref f32)))
  (l32:K.lookup f32=some ⟨oc32,od32,.func (PySem.W.fnOf "_law_room" "_law_room" (zq (top 42)) (zk (top 42)) (zd (top 42)) .none kV32 dc32 pm32 an32 cd32 ct32),sl32⟩)
  (c32:PySem.W.codeIn K cd32 "_law_room" = true) (k32:PySem.W.keepIn K (.ref f32)=true)
  {f33:Addr} {od33 an33:Option Addr} {sl33:Array (Option Value)} {oc33 kV33 dc33 pm33 cd33 ct33:Value}
  (a33:PySem.W.nsIn K mainGlobals "law" = some (some (.ref f33)))
  (l33:K.lookup f33=some ⟨oc33,od33,.func (PySem.W.fnOf "law" "law" (zq (top 43)) (zk (top 43)) (zd (top 43)) .none kV33 dc33 pm33 an33 cd33 ct33),sl33⟩)
  (c33:PySem.W.codeIn K cd33 "law" = true) (k33:PySem.W.keepIn K (.ref f33)=true)
  (z0:PySem.W.nsIn K mainGlobals "abs" = some none)
  (z1:PySem.W.nsIn K mainGlobals "all" = some none)
  (z2:PySem.W.nsIn K mainGlobals "bool" = some none)
  (z3:PySem.W.nsIn K mainGlobals "enumerate" = some none)
  (z4:PySem.W.nsIn K mainGlobals "isinstance" = some none)
  (z5:PySem.W.nsIn K mainGlobals "len" = some none)
  (z6:PySem.W.nsIn K mainGlobals "list" = some none)
  (z7:PySem.W.nsIn K mainGlobals "max" = some none)
  (z8:PySem.W.nsIn K mainGlobals "min" = some none)
  (z9:PySem.W.nsIn K mainGlobals "range" = some none)
  (z10:PySem.W.nsIn K mainGlobals "set" = some none)
  (z11:PySem.W.nsIn K mainGlobals "sorted" = some none)
  (z12:PySem.W.nsIn K mainGlobals "sum" = some none)
  (z13:PySem.W.nsIn K mainGlobals "tuple" = some none)
  (z14:PySem.W.nsIn K mainGlobals "zip" = some none)
  : ∃ fd:FuncData,(∀ (s:Shared) (v:Value),BindsTo s fd ⟨[v],[]⟩ [("_law_script",v)])∧∀ base:Heap,K.In base→base.Ns mainGlobals mg→FnOk l.prog w K mg base CX0 12 fa fd ["_law_script"] (spD K 1 F_law):=by
 have e:=hfa.symm.trans (PySem.W.mg_of X G a33)
 cases e
 have F0:=zZ (st:=top 5) l0 c0 k0
 have b0:=F0.binds (ps:=["yard", "place"]) fun _ _ _ _ _ _ us hl=>by obtain ⟨u0,u1,rfl⟩:=us2 hl;rfl
 have F1:=zZ (st:=top 6) l1 c1 k1
 have b1:=F1.binds (ps:=["yard"]) fun _ _ _ _ _ _ us hl=>by obtain ⟨u0,rfl⟩:=us1 hl;rfl
 have F2:=zZ (st:=top 7) l2 c2 k2
 have b2:=F2.binds (ps:=["yard", "one", "other"]) fun _ _ _ _ _ _ us hl=>by obtain ⟨u0,u1,u2,rfl⟩:=us3 hl;rfl
 have F3:=zZ (st:=top 9) l3 c3 k3
 have b3:=F3.binds (ps:=["heaps", "limits"]) fun _ _ _ _ _ _ us hl=>by obtain ⟨u0,u1,rfl⟩:=us2 hl;rfl
 have F4:=zZ (st:=top 10) l4 c4 k4
 have b4:=F4.binds (ps:=["yard", "place"]) fun _ _ _ _ _ _ us hl=>by obtain ⟨u0,u1,rfl⟩:=us2 hl;rfl
 have F5:=zZ (st:=top 11) l5 c5 k5
 have b5:=F5.binds (ps:=["heaps", "change", "often"]) fun _ _ _ _ _ _ us hl=>by obtain ⟨u0,u1,u2,rfl⟩:=us3 hl;rfl
 have F6:=zZ (st:=top 12) l6 c6 k6
 have b6:=F6.binds (ps:=["yard", "grains"]) fun _ _ _ _ _ _ us hl=>by obtain ⟨u0,u1,rfl⟩:=us2 hl;rfl
 have F7:=zZ (st:=top 13) l7 c7 k7
 have b7:=F7.binds (ps:=["yard", "grains"]) fun _ _ _ _ _ _ us hl=>by obtain ⟨u0,u1,rfl⟩:=us2 hl;rfl
 have F8:=zZ (st:=top 14) l8 c8 k8
 have b8:=F8.binds (ps:=["yard", "one", "other"]) fun _ _ _ _ _ _ us hl=>by obtain ⟨u0,u1,u2,rfl⟩:=us3 hl;rfl
 have F9:=zZ (st:=top 16) l9 c9 k9
 have b9:=F9.binds (ps:=["yard", "place", "others"]) fun _ _ _ _ _ _ us hl=>by obtain ⟨u0,u1,u2,rfl⟩:=us3 hl;rfl
 have F10:=zZ (st:=top 17) l10 c10 k10
 have b10:=F10.binds (ps:=["yard", "grains", "unburnt"]) fun _ _ _ _ _ _ us hl=>by obtain ⟨u0,u1,u2,rfl⟩:=us3 hl;rfl
 have F11:=zZ (st:=top 18) l11 c11 k11
 have b11:=F11.binds (ps:=["yard", "grains"]) fun _ _ _ _ _ _ us hl=>by obtain ⟨u0,u1,rfl⟩:=us2 hl;rfl
 have F12:=zZ (st:=top 19) l12 c12 k12
 have b12:=F12.binds (ps:=["yard", "grains"]) fun _ _ _ _ _ _ us hl=>by obtain ⟨u0,u1,rfl⟩:=us2 hl;rfl
 have F13:=zZ (st:=top 21) l13 c13 k13
 have b13:=F13.binds (ps:=["rows"]) fun _ _ _ _ _ _ us hl=>by obtain ⟨u0,rfl⟩:=us1 hl;rfl
 have F14:=zZ (st:=top 22) l14 c14 k14
 have b14:=F14.binds (ps:=["yard", "difference"]) fun _ _ _ _ _ _ us hl=>by obtain ⟨u0,u1,rfl⟩:=us2 hl;rfl
 have F15:=zZ (st:=top 23) l15 c15 k15
 have b15:=F15.binds (ps:=["one", "other"]) fun _ _ _ _ _ _ us hl=>by obtain ⟨u0,u1,rfl⟩:=us2 hl;rfl
 have F16:=zZ (st:=top 25) l16 c16 k16
 have b16:=F16.binds (ps:=["heaps", "fewer"]) fun _ _ _ _ _ _ us hl=>by obtain ⟨u0,u1,rfl⟩:=us2 hl;rfl
 have F17:=zZ (st:=top 26) l17 c17 k17
 have b17:=F17.binds (ps:=["yard"]) fun _ _ _ _ _ _ us hl=>by obtain ⟨u0,rfl⟩:=us1 hl;rfl
 have F18:=zZ (st:=top 27) l18 c18 k18
 have b18:=F18.binds (ps:=["yard", "ahead", "behind"]) fun _ _ _ _ _ _ us hl=>by obtain ⟨u0,u1,u2,rfl⟩:=us3 hl;rfl
 have F19:=zZ (st:=top 28) l19 c19 k19
 have b19:=F19.binds (ps:=["yard", "start", "full"]) fun _ _ _ _ _ _ us hl=>by obtain ⟨u0,u1,u2,rfl⟩:=us3 hl;rfl
 have F20:=zZ (st:=top 29) l20 c20 k20
 have b20:=F20.binds (ps:=["yard"]) fun _ _ _ _ _ _ us hl=>by obtain ⟨u0,rfl⟩:=us1 hl;rfl
 have F21:=zZ (st:=top 30) l21 c21 k21
 have b21:=F21.binds (ps:=["yard"]) fun _ _ _ _ _ _ us hl=>by obtain ⟨u0,rfl⟩:=us1 hl;rfl
 have F22:=zZ (st:=top 31) l22 c22 k22
 have b22:=F22.binds (ps:=["yard", "grains"]) fun _ _ _ _ _ _ us hl=>by obtain ⟨u0,u1,rfl⟩:=us2 hl;rfl
 have F23:=zZ (st:=top 32) l23 c23 k23
 have b23:=F23.binds (ps:=["yard"]) fun _ _ _ _ _ _ us hl=>by obtain ⟨u0,rfl⟩:=us1 hl;rfl
 have F24:=zZ (st:=top 33) l24 c24 k24
 have b24:=F24.binds (ps:=["yard", "grains"]) fun _ _ _ _ _ _ us hl=>by obtain ⟨u0,u1,rfl⟩:=us2 hl;rfl
 have F25:=zZ (st:=top 34) l25 c25 k25
 have b25:=F25.binds (ps:=["yard", "grains"]) fun _ _ _ _ _ _ us hl=>by obtain ⟨u0,u1,rfl⟩:=us2 hl;rfl
 have F26:=zZ (st:=top 35) l26 c26 k26
 have b26:=F26.binds (ps:=["yard", "grains"]) fun _ _ _ _ _ _ us hl=>by obtain ⟨u0,u1,rfl⟩:=us2 hl;rfl
 have F27:=zZ (st:=top 37) l27 c27 k27
 have b27:=F27.binds (ps:=["_law_script", "_law_k"]) fun _ _ _ _ _ _ us hl=>by obtain ⟨u0,u1,rfl⟩:=us2 hl;rfl
 have F28:=zZ (st:=top 38) l28 c28 k28
 have b28:=F28.binds (ps:=["_law_script", "_law_k"]) fun _ _ _ _ _ _ us hl=>by obtain ⟨u0,u1,rfl⟩:=us2 hl;rfl
 have F29:=zZ (st:=top 39) l29 c29 k29
 have b29:=F29.binds (ps:=["_law_number", "_law_k"]) fun _ _ _ _ _ _ us hl=>by obtain ⟨u0,u1,rfl⟩:=us2 hl;rfl
 have F30:=zZ (st:=top 40) l30 c30 k30
 have b30:=F30.binds (ps:=["_law_number", "_law_most", "_law_wide"]) fun _ _ _ _ _ _ us hl=>by obtain ⟨u0,u1,u2,rfl⟩:=us3 hl;rfl
 have F31:=zZ (st:=top 41) l31 c31 k31
 have b31:=F31.binds (ps:=["_law_number", "_law_count", "_law_most"]) fun _ _ _ _ _ _ us hl=>by obtain ⟨u0,u1,u2,rfl⟩:=us3 hl;rfl
 have F32:=zZ (st:=top 42) l32 c32 k32
 have b32:=F32.binds (ps:=["_law_yard_here"]) fun _ _ _ _ _ _ us hl=>by obtain ⟨u0,rfl⟩:=us1 hl;rfl
 have F33:=zZ (st:=top 43) l33 c33 k33
 have b33:=F33.binds (ps:=["_law_script"]) fun _ _ _ _ _ _ us hl=>by obtain ⟨u0,rfl⟩:=us1 hl;rfl
 have T:Tx K mg ⟨f0,PySem.W.fnOf "size_of" "size_of" (zq (top 5)) (zk (top 5)) (zd (top 5)) .none kV0 dc0 pm0 an0 cd0 ct0,f1,PySem.W.fnOf "sizes" "sizes" (zq (top 6)) (zk (top 6)) (zd (top 6)) .none kV1 dc1 pm1 an1 cd1 ct1,f2,PySem.W.fnOf "between" "between" (zq (top 7)) (zk (top 7)) (zd (top 7)) .none kV2 dc2 pm2 an2 cd2 ct2,f3,PySem.W.fnOf "all_below" "all_below" (zq (top 9)) (zk (top 9)) (zd (top 9)) .none kV3 dc3 pm3 an3 cd3 ct3,f4,PySem.W.fnOf "change_by" "change_by" (zq (top 10)) (zk (top 10)) (zd (top 10)) .none kV4 dc4 pm4 an4 cd4 ct4,f5,PySem.W.fnOf "changed" "changed" (zq (top 11)) (zk (top 11)) (zd (top 11)) .none kV5 dc5 pm5 an5 cd5 ct5,f6,PySem.W.fnOf "rests" "rests" (zq (top 12)) (zk (top 12)) (zd (top 12)) .none kV6 dc6 pm6 an6 cd6 ct6,f7,PySem.W.fnOf "settled" "settled" (zq (top 13)) (zk (top 13)) (zd (top 13)) .none kV7 dc7 pm7 an7 cd7 ct7,f8,PySem.W.fnOf "put" "put" (zq (top 14)) (zk (top 14)) (zd (top 14)) .none kV8 dc8 pm8 an8 cd8 ct8,f9,PySem.W.fnOf "ties_to" "ties_to" (zq (top 16)) (zk (top 16)) (zd (top 16)) .none kV9 dc9 pm9 an9 cd9 ct9,f10,PySem.W.fnOf "catching" "catching" (zq (top 17)) (zk (top 17)) (zd (top 17)) .none kV10 dc10 pm10 an10 cd10 ct10,f11,PySem.W.fnOf "burn" "burn" (zq (top 18)) (zk (top 18)) (zd (top 18)) .none kV11 dc11 pm11 an11 cd11 ct11,f12,PySem.W.fnOf "is_lasting" "is_lasting" (zq (top 19)) (zk (top 19)) (zd (top 19)) .none kV12 dc12 pm12 an12 cd12 ct12,f13,PySem.W.fnOf "determinant" "determinant" (zq (top 21)) (zk (top 21)) (zd (top 21)) .none kV13 dc13 pm13 an13 cd13 ct13,f14,PySem.W.fnOf "times_for" "times_for" (zq (top 22)) (zk (top 22)) (zd (top 22)) .none kV14 dc14 pm14 an14 cd14 ct14,f15,PySem.W.fnOf "common_divisor" "common_divisor" (zq (top 23)) (zk (top 23)) (zd (top 23)) .none kV15 dc15 pm15 an15 cd15 ct15,f16,PySem.W.fnOf "without" "without" (zq (top 25)) (zk (top 25)) (zd (top 25)) .none kV16 dc16 pm16 an16 cd16 ct16,f17,PySem.W.fnOf "fullest" "fullest" (zq (top 26)) (zk (top 26)) (zd (top 26)) .none kV17 dc17 pm17 an17 cd17 ct17,f18,PySem.W.fnOf "least_heap" "least_heap" (zq (top 27)) (zk (top 27)) (zd (top 27)) .none kV18 dc18 pm18 an18 cd18 ct18,f19,PySem.W.fnOf "one_heap_longer" "one_heap_longer" (zq (top 28)) (zk (top 28)) (zd (top 28)) .none kV19 dc19 pm19 an19 cd19 ct19,f20,PySem.W.fnOf "lasting" "lasting" (zq (top 29)) (zk (top 29)) (zd (top 29)) .none kV20 dc20 pm20 an20 cd20 ct20,f21,PySem.W.fnOf "lift_of" "lift_of" (zq (top 30)) (zk (top 30)) (zd (top 30)) .none kV21 dc21 pm21 an21 cd21 ct21,f22,PySem.W.fnOf "home" "home" (zq (top 31)) (zk (top 31)) (zd (top 31)) .none kV22 dc22 pm22 an22 cd22 ct22,f23,PySem.W.fnOf "zero" "zero" (zq (top 32)) (zk (top 32)) (zd (top 32)) .none kV23 dc23 pm23 an23 cd23 ct23,f24,PySem.W.fnOf "refuse_unless_lasting" "refuse_unless_lasting" (zq (top 33)) (zk (top 33)) (zd (top 33)) .none kV24 dc24 pm24 an24 cd24 ct24,f25,PySem.W.fnOf "back" "back" (zq (top 34)) (zk (top 34)) (zd (top 34)) .none kV25 dc25 pm25 an25 cd25 ct25,f26,PySem.W.fnOf "order_of" "order_of" (zq (top 35)) (zk (top 35)) (zd (top 35)) .none kV26 dc26 pm26 an26 cd26 ct26,f27,PySem.W.fnOf "_law_cell_at" "_law_cell_at" (zq (top 37)) (zk (top 37)) (zd (top 37)) .none kV27 dc27 pm27 an27 cd27 ct27,f28,PySem.W.fnOf "_law_mixed" "_law_mixed" (zq (top 38)) (zk (top 38)) (zd (top 38)) .none kV28 dc28 pm28 an28 cd28 ct28,f29,PySem.W.fnOf "_law_drawn" "_law_drawn" (zq (top 39)) (zk (top 39)) (zd (top 39)) .none kV29 dc29 pm29 an29 cd29 ct29,f30,PySem.W.fnOf "_law_yard" "_law_yard" (zq (top 40)) (zk (top 40)) (zd (top 40)) .none kV30 dc30 pm30 an30 cd30 ct30,f31,PySem.W.fnOf "_law_grains" "_law_grains" (zq (top 41)) (zk (top 41)) (zd (top 41)) .none kV31 dc31 pm31 an31 cd31 ct31,f32,PySem.W.fnOf "_law_room" "_law_room" (zq (top 42)) (zk (top 42)) (zd (top 42)) .none kV32 dc32 pm32 an32 cd32 ct32,fa,PySem.W.fnOf "law" "law" (zq (top 43)) (zk (top 43)) (zd (top 43)) .none kV33 dc33 pm33 an33 cd33 ct33⟩:=⟨F0,b0,PySem.W.mg_of X G a0,F1,b1,PySem.W.mg_of X G a1,F2,b2,PySem.W.mg_of X G a2,F3,b3,PySem.W.mg_of X G a3,F4,b4,PySem.W.mg_of X G a4,F5,b5,PySem.W.mg_of X G a5,F6,b6,PySem.W.mg_of X G a6,F7,b7,PySem.W.mg_of X G a7,F8,b8,PySem.W.mg_of X G a8,F9,b9,PySem.W.mg_of X G a9,F10,b10,PySem.W.mg_of X G a10,F11,b11,PySem.W.mg_of X G a11,F12,b12,PySem.W.mg_of X G a12,F13,b13,PySem.W.mg_of X G a13,F14,b14,PySem.W.mg_of X G a14,F15,b15,PySem.W.mg_of X G a15,F16,b16,PySem.W.mg_of X G a16,F17,b17,PySem.W.mg_of X G a17,F18,b18,PySem.W.mg_of X G a18,F19,b19,PySem.W.mg_of X G a19,F20,b20,PySem.W.mg_of X G a20,F21,b21,PySem.W.mg_of X G a21,F22,b22,PySem.W.mg_of X G a22,F23,b23,PySem.W.mg_of X G a23,F24,b24,PySem.W.mg_of X G a24,F25,b25,PySem.W.mg_of X G a25,F26,b26,PySem.W.mg_of X G a26,F27,b27,PySem.W.mg_of X G a27,F28,b28,PySem.W.mg_of X G a28,F29,b29,PySem.W.mg_of X G a29,F30,b30,PySem.W.mg_of X G a30,F31,b31,PySem.W.mg_of X G a31,F32,b32,PySem.W.mg_of X G a32,F33,b33,PySem.W.mg_of X G a33,PySem.W.mg_none_of X G z0,PySem.W.mg_none_of X G z1,PySem.W.mg_none_of X G z2,PySem.W.mg_none_of X G z3,PySem.W.mg_none_of X G z4,PySem.W.mg_none_of X G z5,PySem.W.mg_none_of X G z6,PySem.W.mg_none_of X G z7,PySem.W.mg_none_of X G z8,PySem.W.mg_none_of X G z9,PySem.W.mg_none_of X G z10,PySem.W.mg_none_of X G z11,PySem.W.mg_none_of X G z12,PySem.W.mg_none_of X G z13,PySem.W.mg_none_of X G z14⟩
 exact ⟨PySem.W.fnOf "law" "law" (zq (top 43)) (zk (top 43)) (zd (top 43)) .none kV33 dc33 pm33 an33 cd33 ct33,fun s v=>.of_eq rfl,fun base _ _=>zkr T⟩
theorem walk {l:PySem.W.OpenLaw} {q:Program} {loose:List Str} {XP:(Str→Option Value)→Heap→Prop} {YP:World→Heap→Prop} {d:DefRec} {K:Params→PySem.W.Frag} (hn:l.most=some 63) (hdf:d.params.defaults=[])
  (hY:∀ (w:World) (h:Heap),YP w h→(K w.params).In h)
  (F:∀ (w:World) (mg:Str→Option Value) (fa:Addr) (h:Heap),(K w.params).In h→h.Ns mainGlobals mg→mg d.name=some (.ref fa) →
   ∃ fd:FuncData,(∀ (s:Shared) (u:Value),BindsTo s fd ⟨[u],[]⟩ [("_law_script",u)])∧∀ base:Heap,(K w.params).In base→base.Ns mainGlobals mg→FnOk l.prog w (K w.params) mg base CX0 12 fa fd ["_law_script"] (spD (K w.params) 1 F_law)) :
  PySem.W.WalkO q loose XP YP l.row.toRowW d [] (fun f vs=>PySem.call f vs) :=
 L2.walk_of (n:=63) (k:=12) (x := "_law_script") (CX:=fun _=>CX0) (sp:=fun w=>spD (K w.params) 1 F_law) hn (by decide) hdf ⟨rfl,by decide,by decide⟩ hY F (fun _ _ a ns hl _ hS=>zfL hS (zg0 ns hl)) fun _ _ _ _ _ z=>z
end L2.Y
open PySem PySem.W PyProof.Rows
set_option maxRecDepth 100000 in
set_option maxHeartbeats 0 in
theorem PySem.Challenge.cw_sandyard_k22_whole_dial_holds : PySem.Challenge.rw_sandyard_k22_whole_dial.Holds := by
 w_on;o_law;k_head;(case hw=>w_witness2)
 k_fill
 refine L2.Y.walk (l:=PySem.Challenge.rw_sandyard_k22_whole_dial) rfl rfl (fun w h Y=>PySem.W.kIn_of Y) ?F
 case F =>
  intro w mg fa h KX G hmg
  refine' L2.Y.all_mk KX G hmg ?a0 ?l0 ?c0 ?k0 ?a1 ?l1 ?c1 ?k1 ?a2 ?l2 ?c2 ?k2 ?a3 ?l3 ?c3 ?k3 ?a4 ?l4 ?c4 ?k4 ?a5 ?l5 ?c5 ?k5 ?a6 ?l6 ?c6 ?k6 ?a7 ?l7 ?c7 ?k7 ?a8 ?l8 ?c8 ?k8 ?a9 ?l9 ?c9 ?k9 ?a10 ?l10 ?c10 ?k10 ?a11 ?l11 ?c11 ?k11 ?a12 ?l12 ?c12 ?k12 ?a13 ?l13 ?c13 ?k13 ?a14 ?l14 ?c14 ?k14 ?a15 ?l15 ?c15 ?k15 ?a16 ?l16 ?c16 ?k16 ?a17 ?l17 ?c17 ?k17 ?a18 ?l18 ?c18 ?k18 ?a19 ?l19 ?c19 ?k19 ?a20 ?l20 ?c20 ?k20 ?a21 ?l21 ?c21 ?k21 ?a22 ?l22 ?c22 ?k22 ?a23 ?l23 ?c23 ?k23 ?a24 ?l24 ?c24 ?k24 ?a25 ?l25 ?c25 ?k25 ?a26 ?l26 ?c26 ?k26 ?a27 ?l27 ?c27 ?k27 ?a28 ?l28 ?c28 ?k28 ?a29 ?l29 ?c29 ?k29 ?a30 ?l30 ?c30 ?k30 ?a31 ?l31 ?c31 ?k31 ?a32 ?l32 ?c32 ?k32 ?a33 ?l33 ?c33 ?k33 ?z0 ?z1 ?z2 ?z3 ?z4 ?z5 ?z6 ?z7 ?z8 ?z9 ?z10 ?z11 ?z12 ?z13 ?z14
  (case a0=>k_is)
  (case l0=>k_is)
  (case c0=>k_is)
  (case k0=>k_is)
  (case a1=>k_is)
  (case l1=>k_is)
  (case c1=>k_is)
  (case k1=>k_is)
  (case a2=>k_is)
  (case l2=>k_is)
  (case c2=>k_is)
  (case k2=>k_is)
  (case a3=>k_is)
  (case l3=>k_is)
  (case c3=>k_is)
  (case k3=>k_is)
  (case a4=>k_is)
  (case l4=>k_is)
  (case c4=>k_is)
  (case k4=>k_is)
  (case a5=>k_is)
  (case l5=>k_is)
  (case c5=>k_is)
  (case k5=>k_is)
  (case a6=>k_is)
  (case l6=>k_is)
  (case c6=>k_is)
  (case k6=>k_is)
  (case a7=>k_is)
  (case l7=>k_is)
  (case c7=>k_is)
  (case k7=>k_is)
  (case a8=>k_is)
  (case l8=>k_is)
  (case c8=>k_is)
  (case k8=>k_is)
  (case a9=>k_is)
  (case l9=>k_is)
  (case c9=>k_is)
  (case k9=>k_is)
  (case a10=>k_is)
  (case l10=>k_is)
  (case c10=>k_is)
  (case k10=>k_is)
  (case a11=>k_is)
  (case l11=>k_is)
  (case c11=>k_is)
  (case k11=>k_is)
  (case a12=>k_is)
  (case l12=>k_is)
  (case c12=>k_is)
  (case k12=>k_is)
  (case a13=>k_is)
  (case l13=>k_is)
  (case c13=>k_is)
  (case k13=>k_is)
  (case a14=>k_is)
  (case l14=>k_is)
  (case c14=>k_is)
  (case k14=>k_is)
  (case a15=>k_is)
  (case l15=>k_is)
  (case c15=>k_is)
  (case k15=>k_is)
  (case a16=>k_is)
  (case l16=>k_is)
  (case c16=>k_is)
  (case k16=>k_is)
  (case a17=>k_is)
  (case l17=>k_is)
  (case c17=>k_is)
  (case k17=>k_is)
  (case a18=>k_is)
  (case l18=>k_is)
  (case c18=>k_is)
  (case k18=>k_is)
  (case a19=>k_is)
  (case l19=>k_is)
  (case c19=>k_is)
  (case k19=>k_is)
  (case a20=>k_is)
  (case l20=>k_is)
  (case c20=>k_is)
  (case k20=>k_is)
  (case a21=>k_is)
  (case l21=>k_is)
  (case c21=>k_is)
  (case k21=>k_is)
  (case a22=>k_is)
  (case l22=>k_is)
  (case c22=>k_is)
  (case k22=>k_is)
  (case a23=>k_is)
  (case l23=>k_is)
  (case c23=>k_is)
  (case k23=>k_is)
  (case a24=>k_is)
  (case l24=>k_is)
  (case c24=>k_is)
  (case k24=>k_is)
  (case a25=>k_is)
  (case l25=>k_is)
  (case c25=>k_is)
  (case k25=>k_is)
  (case a26=>k_is)
  (case l26=>k_is)
  (case c26=>k_is)
  (case k26=>k_is)
  (case a27=>k_is)
  (case l27=>k_is)
  (case c27=>k_is)
  (case k27=>k_is)
  (case a28=>k_is)
  (case l28=>k_is)
  (case c28=>k_is)
  (case k28=>k_is)
  (case a29=>k_is)
  (case l29=>k_is)
  (case c29=>k_is)
  (case k29=>k_is)
  (case a30=>k_is)
  (case l30=>k_is)
  (case c30=>k_is)
  (case k30=>k_is)
  (case a31=>k_is)
  (case l31=>k_is)
  (case c31=>k_is)
  (case k31=>k_is)
  (case a32=>k_is)
  (case l32=>k_is)
  (case c32=>k_is)
  (case k32=>k_is)
  (case a33=>k_is)
  (case l33=>k_is)
  (case c33=>k_is)
  (case k33=>k_is)
  (case z0=>k_is)
  (case z1=>k_is)
  (case z2=>k_is)
  (case z3=>k_is)
  (case z4=>k_is)
  (case z5=>k_is)
  (case z6=>k_is)
  (case z7=>k_is)
  (case z8=>k_is)
  (case z9=>k_is)
  (case z10=>k_is)
  (case z11=>k_is)
  (case z12=>k_is)
  (case z13=>k_is)
  (case z14=>k_is)
end
