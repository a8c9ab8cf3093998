import PyProof.Rows.All
import Wide.All
import OpenK.AllK
import Wide.FinOn
import KE.KStateDown
import HandS.HeadHook4
import HandS.Words
import HandS.ForMost
import HandS.TupSets
import HandS.Conv
import HandS.Strs
import HandS.SortInts
import HandS.IsInst
import HandS.TupAny
import HandS.TupLen
import HandS.TupMul
import HandS.Deep
import HandS.Evl
import KE.GoesEnum
import KE.KDictDisplayH
import HandS.Head0
import HandS.Head1
import HandS.Head2
import HandS.ExcInit
import HandS.ExcOwn
import HandS.ExcField
import HandS.TryOnly
import HandS.ForExc
import HandS.Small
import HandS.Property
import HandS.Lambda
import HandS.Nested
import KE.KDflt
import HandS.EndOwn
import HandS.NestedK
import HandS.Codes
import HandS.FStr
import HandS.WideBits
import PyProof.StrBlock2
import HandS.SortKw
import KE.SortCalls
import KE.SortData
import KE.SortKeyHeap
import KE.KSortKey
import HandS.Zip
import KE.DataMinMax
import HandS.HeadWalk
import HandS.Comp
import HandS.Exc
import PyProof.CompFree
import HandS.DictComp
import PyProof.Rows.StrJoinRep
import HandS.Flow
import HandS.ListItems
import KE.KDictZip
import PyProof.CollectWalk
import KE.GoesZip
import PySem.Challenge.RW_lockturns_k15_whole_sessions
set_option Elab.async false
set_option linter.all false
set_option maxRecDepth 100000
set_option maxHeartbeats 4000000
/-! what is looked at behind one run of the top -/
namespace Lt
open PySem PySem.Spec PyProof.Rows L2
/-! ### functions by their places -/
structure Fx where
  at_ : PySem.W.Frag → Addr
  name : Str
  qual : Str
  st : Stmt
def fnSeen (o : Obj) : He.FnV := match o.data with
  | .func z => some (z.name, z.qualname, z.params, z.body, z.scope, z.globals, z.closure, z.defaults, z.builtins)
  | _ => none
def codeSeen (K : PySem.W.Frag) (q : Str) (o : Obj) : Bool := match o.data with
  | .func z => PySem.W.codeIn K z.code q
  | _ => false
def fxSee (K : PySem.W.Frag) (d : Fx) : He.FnV := (K.lookup (d.at_ K)).bind fnSeen
def fxVal (d : Fx) : He.FnV := some (d.name, d.qual, defArgs d.st, .stmts (defBody d.st), defScope d.st, mainGlobals, [], .none, builtinsNs)
def fxGood (K : PySem.W.Frag) (d : Fx) : Bool := PySem.W.keepIn K (.ref (d.at_ K)) && (K.lookup (d.at_ K)).any (codeSeen K d.qual)
/-- a function stands at f -/
def FxAt (K : PySem.W.Frag) (f : Addr) (x q : Str) (st : Stmt) : Prop := ∃ (oc : Value) (od : Option Addr) (osl : Array (Option Value)) (kV doc pm : Value) (an : Option Addr) (cdv ct : Value),
  K.lookup f = some ⟨oc, od, .func (PySem.W.fnOf x q (defArgs st) (defBody st) (defScope st) .none kV doc pm an cdv ct), osl⟩ ∧ PySem.W.codeIn K cdv q = true ∧ PySem.W.keepIn K (.ref f) = true
theorem fx_ok {K : PySem.W.Frag} {d : Fx} (e : fxSee K d = fxVal d) (c : fxGood K d = true) : FxAt K (d.at_ K) d.name d.qual d.st := by
  unfold fxGood at c
  obtain ⟨kp, c2⟩ := Bool.and_eq_true_iff.mp c
  unfold fxSee at e
  cases q : K.lookup (d.at_ K) with
  | none => rw [q] at c2; cases c2
  | some o =>
    rw [q] at c2 e
    obtain ⟨oc, od, dt, osl⟩ := o
    cases dt with
    | func z =>
      obtain ⟨n1, n2, n3, n4, n5, n6, n7, n8, n9, n10, n11, n12, n13, n14, n15⟩ := z
      have e2 : (some (n1, n2, n3, n4, n5, n6, n7, n8, n15) : He.FnV) = some (d.name, d.qual, defArgs d.st, .stmts (defBody d.st), defScope d.st, mainGlobals, [], .none, builtinsNs) := e
      simp only [Option.some.injEq, Prod.mk.injEq] at e2
      obtain ⟨h1, h2, h3, h4, h5, h6, h7, h8, h9⟩ := e2
      subst h1 h2 h3 h4 h5 h6 h7 h8 h9
      exact ⟨oc, od, osl, n9, n10, n11, n12, n13, n14, q, c2, kp⟩
    | _ => cases c2
/-! ### what is looked at -/
abbrev AlY : Type := List He.FnV × List (Option (List (Option (Str × Int)))) × Bool
def seeY (fx : List Fx) (ts : List He.Tab) (tf : List He.Defn) (bs : List (PySem.W.Frag → Bool)) (g : Addr → Option Obj) (K : PySem.W.Frag) : AlY :=
  (fx.map (fxSee K), ts.map (fun t => He.dicW K (t.1 K)), fx.all (fxGood K) && (bs.all (fun b => b K) && He.tabsB g tf K))
def valY (fx : List Fx) (ts : List He.Tab) (w : World) : AlY := (fx.map fxVal, ts.map (fun t => some (He.keysIn w.params t.2)), true)
/-- what is walked to: the globals, their codes and class dicts, methods, getters -/
def nextY (o : Obj) : List Addr := match o.data with
  | .dict es _ => es.toList.flatMap fun e => He.refV e.val
  | .func z => He.refV z.code
  | .cls z => [z.ns]
  | .fields vs => (match o.cls with
    | .type t => if t = "property" then vs.toList.flatMap He.refV else []
    | _ => [])
  | _ => []
def stepY (g : Addr → Option Obj) (as : List Addr) : List Addr := as.flatMap fun a => ((g a).map nextY).getD []
def walkY (g : Addr → Option Obj) : Nat → List Addr → List Addr
  | 0, as => as
  | n + 1, as => as ++ walkY g n (stepY g as)
def forceY {α : Type} : PySem.W.Frag → (PySem.W.Frag → α) → α
  | [], k => k []
  | (a, o) :: r, k => forceY r fun r' => k ((a, o) :: r')
theorem forceY_eq {α : Type} : ∀ (K : PySem.W.Frag) (k : PySem.W.Frag → α), forceY K k = k K
  | [], _ => rfl
  | (a, o) :: r, k => forceY_eq r fun r' => k ((a, o) :: r')
def obsY (n : Nat) (fx : List Fx) (ts : List He.Tab) (tf : List He.Defn) (bs : List (PySem.W.Frag → Bool)) (g : Addr → Option Obj) : AlY := forceY (He.frT g (walkY g n [mainGlobals])) (seeY fx ts tf bs g)
structure SaysY (fx : List Fx) (ts : List He.Tab) (tf : List He.Defn) (bs : List (PySem.W.Frag → Bool)) (w : World) (h : Heap) (K : PySem.W.Frag) : Prop where
  fns : ∀ d ∈ fx, FxAt K (d.at_ K) d.name d.qual d.st
  tab : ∀ t ∈ ts, ∃ es n, KDict K w (t.1 K) es n
  bool : ∀ b ∈ bs, b K = true
  hd : ∀ p ∈ tf, PySem.W.codeHdIn K (He.cT K p).1 (He.cT K p).2 = true ∧ K.lookup (He.cT K p).2 = none ∧ h.get? (He.cT K p).2 = some { cls := .none, data := .fields #[] }
theorem map_mem_eq {α β : Type} {f g : α → β} : ∀ {l : List α}, l.map f = l.map g → ∀ x ∈ l, f x = g x
  | a :: l, h, x, hx => by
    rw [List.map_cons, List.map_cons] at h
    injection h with h1 h2
    rcases List.mem_cons.mp hx with rfl | hx
    · exact h1
    · exact map_mem_eq h2 x hx
theorem saysY {n : Nat} {fx : List Fx} {ts : List He.Tab} {tf : List He.Defn} {bs : List (PySem.W.Frag → Bool)} {w : World} {h : Heap} (e : obsY n fx ts tf bs h.get? = valY fx ts w) : SaysY fx ts tf bs w h (He.frT h.get? (walkY h.get? n [mainGlobals])) := by
  unfold obsY at e
  rw [forceY_eq] at e
  generalize hK : He.frT h.get? (walkY h.get? n [mainGlobals]) = K at e
  have e1 : fx.map (fxSee K) = fx.map fxVal := congrArg (fun z : AlY => z.1) e
  have e2 : ts.map (fun t => He.dicW K (t.1 K)) = ts.map (fun t => some (He.keysIn w.params t.2)) := congrArg (fun z : AlY => z.2.1) e
  have e3 : (fx.all (fxGood K) && (bs.all (fun b => b K) && He.tabsB h.get? tf K)) = true := congrArg (fun z : AlY => z.2.2) e
  obtain ⟨g1, g2⟩ := Bool.and_eq_true_iff.mp e3
  obtain ⟨g3, g4⟩ := Bool.and_eq_true_iff.mp g2
  refine ⟨fun d hd => fx_ok (map_mem_eq e1 d hd) (List.all_eq_true.mp g1 d hd), fun t ht => He.dicW_ok (map_mem_eq e2 t ht), fun b hb => List.all_eq_true.mp g3 b hb, fun p hp => ?_⟩
  obtain ⟨k1, k2⟩ := Bool.and_eq_true_iff.mp (List.all_eq_true.mp g4 p hp)
  cases q : h.get? (He.cT K p).2 with
  | none => rw [q] at k2; cases k2
  | some o =>
    rw [q] at k2
    refine ⟨k1, ?_, by rw [He.emptyTab_eq k2]⟩
    have z := He.frT_none (as := walkY h.get? n [mainGlobals]) q k2
    rw [hK] at z
    exact z
def hookY (n : Nat) (fx : List Fx) (ts : List He.Tab) (tf : List He.Defn) (bs : List (PySem.W.Frag → Bool)) : PySem.W.Hook where
  α := AlY
  obs := fun s => obsY n fx ts tf bs s.heap.get?
  val := valY fx ts
  says := fun w h => ∃ K : PySem.W.Frag, K.In h ∧ SaysY fx ts tf bs w h K
  of := fun w s e => ⟨_, He.frT_in, saysY e⟩
  keeps := fun w h h' x k => by
    obtain ⟨K, hK, c⟩ := x
    exact ⟨K, PySem.W.Frag.In.keeps hK k, c.fns, c.tab, c.bool, fun p hp => let ⟨a, b, d⟩ := c.hd p hp; ⟨a, b, k _ _ d⟩⟩
theorem obsY_eq {n : Nat} {fx : List Fx} {ts : List He.Tab} {tf : List He.Defn} {bs : List (PySem.W.Frag → Bool)} {g : Addr → Option Obj} {s : Shared} (h : ∀ a, g a = s.heap.get? a) : obsY n fx ts tf bs g = (hookY n fx ts tf bs).obs s := by
  have e : g = s.heap.get? := funext h
  subst e
  rfl
def bCls (x : Str) (K : PySem.W.Frag) : Bool := (He.Fa.glo x).ok K && ((He.Fa.cls x).ok K && (PySem.W.makesIn K (He.ga K x) && PySem.W.keepIn K (.ref (He.ga K x))))
def headA : Option (List Value) → Addr
  | some (.ref f :: _) => f
  | _ => 0
def pA (K : PySem.W.Frag) (C m : Str) : Addr := headA (PySem.W.recIn K (He.ma K (He.ga K C) m) "property")
def hasHd : Option (List Value) → Bool
  | some (.ref _ :: _) => true
  | _ => false
def bProp (C m : Str) (K : PySem.W.Frag) : Bool := He.eqO (PySem.W.findIn K (.ref (He.ga K C)) m) (some (some (.ref (He.ma K (He.ga K C) m)))) && (He.eqO (PySem.W.specialIn K (.ref (He.ma K (He.ga K C) m)) "__get__") (some (some (.builtin "property.__get__"))) &&
  (decide (PySem.W.takesIn K (.ref (He.ma K (He.ga K C) m)) = some true) && hasHd (PySem.W.recIn K (He.ma K (He.ga K C) m) "property")))
def mroB (C : Addr) : List Value → Bool
  | .ref D :: r => decide (D = C) && PySem.HandSPX.refsVE r
  | _ => false
def newB : List (Option Value) → Bool
  | [_, _, _, _, some (.builtin n), _] => decide (n = "ValueError.__new__")
  | _ => false
def errO (C : Addr) (o : Obj) : Bool := match o.cls, o.data with
  | .type t, .cls z => decide (t = "type") && (newB o.slots.toList && (z.hasDict && (!z.hasDel && mroB C z.mro)))
  | _, _ => false
def bErr (x : Str) (fs : List Str) (K : PySem.W.Frag) : Bool := ((He.Fa.glo x).ok K && (K.lookup (He.ga K x)).any (errO (He.ga K x))) && ((He.eqO (PySem.W.findIn K (.ref (He.ga K x)) "__setattr__") (some (some (.builtin "object.__setattr__"))) &&
  (He.eqO (PySem.W.findIn K (.ref (He.ga K x)) "__getattribute__") (some (some (.builtin "BaseException.__getattribute__"))) && He.eqO (PySem.W.findIn K (.ref (He.ga K x)) "__getattr__") (some none))) &&
  (fs.all (fun f => He.eqO (PySem.W.findIn K (.ref (He.ga K x)) f) (some none)) && ((PySem.W.keepIn K (.ref (He.ga K x)) && (decide (PySem.W.subIn K (.ref (He.ga K x)) (.type "BaseException") = some true) && decide (PySem.W.typeIn K (.ref (He.ga K x)) = some (.type "type")))) &&
  ((PySem.W.hasDictIn K (He.ga K x) && (PySem.W.isClsIn K (He.ga K x) && decide (PySem.W.subIn K (.ref (He.ga K x)) (.ref (He.ga K x)) = some true))) &&
  (He.eqO (PySem.W.findIn K (.ref (He.ga K x)) "__init__") (some (some (.ref (He.ma K (He.ga K x) "__init__")))) && decide (PySem.W.typeIn K (.ref (He.ma K (He.ga K x) "__init__")) = some (.type "function")))))))
def bErr0 (x : Str) (K : PySem.W.Frag) : Bool := ((He.Fa.glo x).ok K && (He.Fa.exc x).ok K) && (PySem.W.isClsIn K (He.ga K x) && decide (PySem.W.subIn K (.ref (He.ga K x)) (.ref (He.ga K x)) = some true))
end Lt

set_option Elab.async false
set_option linter.all false
set_option maxRecDepth 100000
set_option maxHeartbeats 4000000
/-! enumerate over a tuple, in a for -/
namespace LtR
open PySem PyProof.Rows
open AutoSeq1 (wpAny_loadPart')
theorem meets_enum1 {v : Value} {o : Obj} {H : Heap → Prop} (B : Begins v o H) :
    Meets (Builtin.«enumerate.__new__» ⟨[.type "enumerate", v], []⟩) (fun _ R s => H s.heap ∧
      R (.ok (.ret (.ref (s.heap.push o).objs.size))) { s with heap := (s.heap.push o).push { cls := .type "enumerate", data := .fields #[.none, .bool false, .ref s.heap.objs.size, rawInt 0, .none, .none] } }) :=
  .of_wp fun prog w A R s h => by
    obtain ⟨hp, g, d, tk, os⟩ := s
    obtain ⟨h1, h⟩ := h
    have hsub := sub_enumerate
    have q1 : ∀ {A' : Around} {E : Value → Shared → Prop} {Q : Value → Shared → Prop}, Q (.ref hp.objs.size) ⟨hp.push o, g, d, tk, os⟩ → wpAny (model prog w) A' (pyIter v) Q E ⟨hp, g, d, tk, os⟩ :=
      fun q => B.iter prog w _ _ ⟨hp, g, d, tk, os⟩ _ h1 q
    wp_walk using q1
    refine wpAny_stack_any fun st => wpAny_pure ?_
    split
    · rename_i c _ _ _ _ _
      cases (c == Value.type "enumerate")
      · wp_walk using q1
        exact ⟨_, rfl, h⟩
      · wp_walk using q1
        exact ⟨_, rfl, h⟩
    · wp_walk using q1
      exact ⟨_, rfl, h⟩
section
variable {prog : Program} {w : World} {A : Around} {E : Value → Shared → Prop} {s : Shared}
theorem enum1_begins {v : Value} {o : Obj} {H : Heap → Prop} {Q : Value → Shared → Prop} (B : Begins v o H) (h1 : H s.heap)
    (h : ∀ h', IsEnum h' (s.heap.objs.size + 1) s.heap.objs.size 0 .none → h'.get? s.heap.objs.size = some o → h'.objs.size = s.heap.objs.size + 2 →
      (∀ b o, s.heap.get? b = some o → h'.get? b = some o) → Q (.ref (s.heap.objs.size + 1)) { s with heap := h' }) :
    wpAny (model prog w) A (call (.type "enumerate") [v]) Q E s := by
  refine callType_new F.called_enumerate (by decide) (F.typeCall_enumerate_1 _) (F.newCall_enumerate_1 _) (fun obj => F.args_object_init_2 obj _) F.entry_enumerate_new
    (meets_enum1 B) ⟨h1, ?_⟩
  have hz : (s.heap.push o).objs.size = s.heap.objs.size + 1 := Heap.size_push ..
  show _ ∧ _
  rw [hz]
  have he : IsEnum ((s.heap.push o).push { cls := .type "enumerate", data := .fields #[.none, .bool false, .ref s.heap.objs.size, rawInt 0, .none, .none] }) (s.heap.objs.size + 1) s.heap.objs.size 0 .none := by
    have := Heap.get?_push_size (s.heap.push o) (o := { cls := .type "enumerate", data := .fields #[.none, .bool false, .ref s.heap.objs.size, rawInt 0, .none, .none] }) rfl
    rw [hz] at this; exact this
  refine ⟨⟨_, he, rfl⟩, h _ he (Heap.get?_push_of_some _ (Heap.get?_push_size _ B.free)) (by rw [Heap.size_push, hz]) fun b o x => Heap.get?_push_of_some _ (Heap.get?_push_of_some _ x)⟩
end
end LtR
namespace L2
open PySem PySem.Spec PyProof.Rows
/-- the tuple at a as it stands at each turn, each item in a new pair -/
def Itet (K : PySem.W.Frag) (a : Addr) : It :=
  ⟨fun i H => ∃ (xs : List V) (x : V), SqT K H a xs ∧ xs[i]? = some x, fun i H v H' => ∃ T x, v = .ref T ∧ H T = none ∧ H' = upd H T (.tup [.int (i : Nat), x]) ∧ ∀ xs, SqT K H a xs → xs[i]? = some x, fun i H => ∃ xs : List V, SqT K H a xs ∧ xs.length = i⟩
theorem turn_enumT {P : Program} {w : World} {K : PySem.W.Frag} {elts : List Expr} {kk : Nat} {tpos : Pos} (a e it : Addr) (hae : a ≠ e) (hai : a ≠ it) :
    Turn P w K (.Tuple elts kk tpos) (Itet K a) [e, it] e (fun i h => (∃ old, IsEnum h e it ((i : Nat) : Int) old) ∧ h.IsTupleIter it a i ∧ e ≠ it) where
  mem := by simp
  obj := fun i h st b hb => by
    obtain ⟨⟨old, he⟩, ⟨o, ho, hc, hd⟩, _⟩ := st
    have e' : b = e ∨ b = it := by simpa using hb
    rcases e' with z | z
    · rw [z]; exact ⟨_, he, fun v q => nomatch q⟩
    · rw [z]; exact ⟨o, ho, fun v q => by rw [hd] at q; cases q⟩
  keep := fun i h h' st k => let ⟨⟨old, he⟩, hi, hne⟩ := st; ⟨⟨old, k e (by simp) _ he⟩, hi.at fun o q => k it (by simp) o q, hne⟩
  item := by
    intro X hP hw hK hc i pins s σ H E I hf st hg
    subst hP hw hK
    obtain ⟨⟨old, he⟩, hit, hne⟩ := st
    obtain ⟨xs, x, hq, hx⟩ := hg
    obtain ⟨its, rv, p, hz⟩ := I.tuple hq
    obtain ⟨u, hu, ru⟩ := rv.get hx
    have hel : e < s.heap.objs.size := Heap.lt_size he
    have hil : it < s.heap.objs.size := by obtain ⟨_, q, _⟩ := hit; exact Heap.lt_size q
    have hu' : its.toArray[i]? = some u := by simpa using hu
    have hlt : i < its.toArray.size := (Array.getElem?_eq_some_iff.mp hu').1
    refine wpAny_pyNext_enum_itemD (Draws.tuple (prog := X.prog) (w := X.w) (A := X.A.in1) (I.ok.hd hc) it a hai its.toArray) he ⟨hit, (show s.heap.IsTuple a its.toArray from p)⟩ hlt hne (by simp [hne, Ne.symm hae]) fun x' h' tk hP ho hst' hT hsz hk => ?_
    have ex : x' = u := Option.some.inj ((show its.toArray[i]? = some x' from hP).symm.trans hu')
    subst ex
    obtain ⟨hit', hp'⟩ := hst'
    refine ⟨_, rfl, wpAny_letOwnedTupleGo_enum (s := { s with heap := h', toks := tk + 1 }) ho fun h'' he' sb => ?_⟩
    have hT2 : h''.get? s.heap.objs.size = some { cls := .type "tuple", data := .seq #[.int i tk, x'] } := (sb.2 _ (Nat.ne_of_gt hel)).trans hT
    have new : ObjOk X.prog X.w (upd H s.heap.objs.size (.tup [.int (i : Nat), x])) h'' s.heap.objs.size (.tup [.int (i : Nat), x]) :=
      ⟨by show 2 ≤ sizeLine; decide, [.int i tk, x'], .cons ⟨_, rfl⟩ (.cons ru .nil), ⟨_, hT2, rfl, _, rfl⟩⟩
    have I1 : Inv X pins σ (upd H s.heap.objs.size (.tup [.int (i : Nat), x])) { s with heap := h'', toks := tk + 1 } :=
      I.turnedNew (ch := [e, it]) (fun b ob hb q => (sb.2 b (fun z => hb (by simp [z]))).trans (hk b ob (fun z => hb (by simp [z])) (fun z => hb (by simp [z])) q)) hf (Nat.le_refl _) new
    refine ⟨.ref s.heap.objs.size, _, I1, rfl, ⟨_, x, rfl, I.hok.fresh (Nat.le_refl _), rfl, fun ys hy => by rw [I.tuple_inj hy hq]; exact hx⟩, ⟨⟨x', ?_⟩, hit'.at fun o q => (sb.2 it (Ne.symm hne)).trans q, hne⟩, fun b hb => ?_⟩
    · have e1 : ((i + 1 : Nat) : Int) = (i : Int) + 1 := by omega
      rw [e1]; exact he'
    · have hb' : b < s.heap.objs.size := by
        have e' : b = e ∨ b = it := by simpa using hb
        rcases e' with z | z
        · rw [z]; exact hel
        · rw [z]; exact hil
      rw [upd_ne (Nat.ne_of_lt hb')]
      exact (hf b hb).1
  done := by
    intro X hP hw hK hc i pins s σ H E I hf st hg
    subst hP hw hK
    obtain ⟨⟨old, he⟩, hit, hne⟩ := st
    obtain ⟨xs, hq, hx⟩ := hg
    obtain ⟨its, rv, p, hz⟩ := I.tuple hq
    obtain ⟨f0, f1, f2, f3, f4, f5⟩ := hf it (by simp)
    have hl := rv.length
    have hn : its.toArray.size = i := by simp; omega
    exact wpAny_pyNext_enum_endD (Draws.tuple (prog := X.prog) (w := X.w) (A := X.A.in1) (I.ok.hd hc) it a hai its.toArray) he (show s.heap.IsTupleIter it a its.toArray.size ∧ s.heap.IsTuple a its.toArray from ⟨by rw [hn]; exact hit, p⟩) fun h' eb => ⟨rfl, I.turned (t' := s.toks) (fun b o hb q => eb b o hb q) f0 f1 f3 f4 f5⟩
  self := fun A i s Q E st h => let ⟨⟨_, he⟩, _⟩ := st; wpAny_pyIter_enum he h
def iEnumT (K : PySem.W.Frag) (ta : TA) : TI := fun σ H R => ta σ H fun vs H1 => ∃ a xs, vs = [.ref a] ∧ SqT K H1 a xs ∧ R (Itet K a) H1
theorem pi_enumT {X : Cx} {e : Expr} {ta : TA} {p pos tpos : Pos} {elts : List Expr} {kk : Nat} (hg : Gl X "enumerate") (hm : X.mg "enumerate" = none) (ha : PA X [e] ta) (hs : starEach [e] X.env = [(false, eval e X.env)] := by rfl) :
    PI X (.Tuple elts kk tpos) (.Call (.Name "enumerate" p) [e] [] pos) (iEnumT X.K ta) := by
  refine ⟨fun pins s σ H R I h => ?_⟩
  refine Call_ (ld_blt I hg hm boot_enumerate (PyProof.Rows.callWith_type1 (thn (ha.run pos pins s σ H _ I h) fun us s1 ⟨vs, H1, I1, r1, q1⟩ => ?_) hs rfl))
  obtain ⟨a, xs, ex, hq, q⟩ := q1
  subst ex
  cases r1 with
  | cons r rr =>
    cases rr
    cases r
    obtain ⟨its, rv, p', hz⟩ := I1.tuple hq
    have hal : a < s1.heap.objs.size := by obtain ⟨_, e, _⟩ := p'; exact Heap.lt_size e
    refine LtR.enum1_begins (begins_tuple a its.toArray) (show s1.heap.IsTuple a its.toArray from p') fun h' he hit hsz hk => wpAny_pyIter_enum he ?_
    have I2 : Inv X pins σ H1 { s1 with heap := h' } := I1.kept (t' := s1.toks) hk
    refine ⟨s1.heap.objs.size + 1, [s1.heap.objs.size + 1, s1.heap.objs.size], _, _, H1, rfl, I2, turn_enumT a (s1.heap.objs.size + 1) s1.heap.objs.size (Nat.ne_of_lt (Nat.lt_succ_of_lt hal)) (Nat.ne_of_lt hal), ⟨⟨.none, he⟩, ⟨_, hit, rfl, rfl⟩, Nat.succ_ne_self _⟩, fun b hb => ?_, q⟩
    have e' : b = s1.heap.objs.size + 1 ∨ b = s1.heap.objs.size := by simpa using hb
    have hle : s1.heap.objs.size ≤ b := by
      rcases e' with z | z
      · rw [z]; exact Nat.le_add_right _ _
      · rw [z]; exact Nat.le_refl _
    exact I1.fpOk hle (I1.hok.fresh hle)
end L2

set_option Elab.async false
set_option linter.all false
set_option maxRecDepth 100000
set_option maxHeartbeats 4000000
/-! sorted of a dict whose keys are tuples of ints; sorted of a tuple of ints; tuple.index of ints; {tuple: v} -/
namespace L2
open PySem PySem.Spec PyProof.Rows
section
variable {X : Cx}
/-- sorted(t), t a tuple of fewer than 64 ints -/
def rSortIT (K : PySem.W.Frag) : List V → Hp → VK → Prop := fun vs H Q => ∃ (a : Addr) (ns : List Int), vs = [V.ref a] ∧ SqT K H a (ns.map V.int) ∧ ns.length < 64 ∧
  ∀ (ns' : List Int) (p : Addr), ns'.Perm ns → ns'.Pairwise (· ≤ ·) → H p = none → Q (.ref p) (upd H p (.lst (ns'.map V.int)))
end
section
variable {prog : Program} {w : World} {A : Around} {E : Value → Shared → Prop} {s : Shared}
theorem collect_tup {l : Addr} {vs : List Value} {Q : List Value → Shared → Prop} (hl : s.heap.IsTuple l vs.toArray)
    (h : Q vs { s with heap := (s.heap.push (seqObj "list" #[] 0)).update s.heap.objs.size (Obj.mapSeq (· ++ vs.toArray)) }) (hsz : vs.length ≤ sizeLine) :
    wpAny (model prog w) A (collect (.ref l)) Q E s := by
  obtain ⟨o, ho, hc, n, hd⟩ := id hl
  unfold collect
  refine wpAny_bind (wpAny_runValue (codeAny_builtin entry_proto_collect' ?_))
  show wpAny _ _ (do again (.builtin "list.__iadd__" ⟨[← newList [], .ref l], []⟩)) _ _ s
  refine wpAny_bind (wpAny_newList (wpAny_pure ⟨Code.quiet_builtin _ (by decide +kernel), codeAny_builtin entry_list_iadd' ?_⟩))
  show wpAny _ _ (Builtin.List.listExtendWith (.ref s.heap.objs.size) (.ref l) (.ref s.heap.objs.size)) _ _ { s with heap := s.heap.push (seqObj "list" #[] 0) }
  unfold Builtin.List.listExtendWith
  have ho' : (s.heap.push (seqObj "list" #[] 0)).get? l = some o := Heap.get?_push_of_some _ ho
  refine wpAny_bind (wpAny_typeOf (T := "tuple") ⟨o, ho', hc⟩ ?_)
  have ht : (Value.type "tuple" == Value.type "tuple") = true := by rfl
  rw [if_pos (by rw [ht]; simp)]
  refine wpAny_bind (listItems_at ho' hd ?_)
  refine wpAny_bind (listItems_at (xs := #[]) (n := 0) (Heap.get?_push_size _ rfl) rfl ?_)
  rw [if_neg (by simp)]
  refine wpAny_bind (listUpdate_at (xs := #[]) (n := 0) (Heap.get?_push_size _ rfl) rfl ?_ (Nat.zero_le _) (by show (#[] ++ vs.toArray).size ≤ sizeLine + 1; simp only [Array.size_append, List.size_toArray, List.length_nil]; omega))
  refine wpAny_pure ?_
  show wpAny (model prog w) A (do
      let o ← load s.heap.objs.size
      match o.data with
      | .seq xs _ => pure xs.toList
      | _ => unsupported "internal:collect") Q E { s with heap := (s.heap.push (seqObj "list" #[] 0)).update s.heap.objs.size (Obj.mapSeq (· ++ vs.toArray)) }
  refine wpAny_bind (wpAny_load (get?_update_seq (Heap.get?_push_size _ rfl) _) ?_)
  show wpAny _ _ (pure ((#[] : Array Value) ++ vs.toArray).toList) Q E _
  rw [show ((#[] : Array Value) ++ vs.toArray).toList = vs by simp]
  exact wpAny_pure h
theorem sorted_tupI {l : Addr} {vs : List Value} {ns : List Int} {Q : Value → Shared → Prop} (hl : s.heap.IsTuple l vs.toArray) (hI : IntsAre vs ns) (h64 : vs.length < 64)
    (h : ∀ (out : Array Value) (ns' : List Int), IntsAre out.toList ns' → ns'.Perm ns → ns'.Pairwise (· ≤ ·) → Q (.ref (s.heap.objs.size + 1)) { s with heap := sortedAll s.heap vs out }) :
    wpAny (model prog w) A (call (.builtin "sorted") [.ref l]) Q E s := by
  refine Calls.call_function_entry kind_sorted plain_sorted entry_sorted (args_sorted1 _) ?_
  unfold Builtin.«sorted»
  refine wpAny_bind (m := checkCount "sorted" 1 1 _) (wpAny_pure ?_)
  refine wpAny_bind (collect_tup hl ?_ (by rw [sizeLine_eq]; omega))
  refine wpAny_bind (wpAny_newList ?_ (by rw [sizeLine_eq]; omega))
  have hsz : ((s.heap.push (seqObj "list" #[] 0)).update s.heap.objs.size (Obj.mapSeq (· ++ vs.toArray))).objs.size = s.heap.objs.size + 1 := by
    rw [Heap.size_update, size_push']
  have hoL : (((s.heap.push (seqObj "list" #[] 0)).update s.heap.objs.size (Obj.mapSeq (· ++ vs.toArray))).push (seqObj "list" vs.toArray 0)).get? (s.heap.objs.size + 1) = some (seqObj "list" vs.toArray 0) := by
    rw [← hsz]; exact Heap.get?_push_size _ rfl
  show wpAny _ _ _ _ _ { s with heap := ((s.heap.push (seqObj "list" #[] 0)).update s.heap.objs.size (Obj.mapSeq (· ++ vs.toArray))).push (seqObj "list" vs.toArray 0) }
  rw [hsz]
  refine wpAny_bind (wpAny_holding (wpAny_call_entry slot_list_sort ⟨_, hoL, rfl⟩ entry_list_sort (list_sort_tree hoL hI h64 fun out ns' a1 a2 a3 => ⟨_, rfl, ?_⟩) (args_list_sort _)))
  exact wpAny_pure ⟨_, rfl, h out ns' a1 a2 a3⟩
end
section
variable {X : Cx}
theorem cr_sortIT : CallR X (.builtin "sorted") (rSortIT X.K) := by
  intro pins s σ H vs us Q I r h
  obtain ⟨a, ns, rfl, hs, h64, q⟩ := h
  obtain ⟨its, rv, hl, _⟩ := I.tuple hs
  rw [Vals.ref1 r]
  have hi := rv.ints
  refine sorted_tupI hl hi (by rw [hi.length]; exact h64) fun out ns' h1 h2 h3 => ?_
  obtain ⟨ep, he'⟩ := PyProof.Rows.sortedAll_at s.heap its out
  have hlen : (ns'.map V.int).length ≤ sizeLine := by rw [List.length_map, h2.length_eq]; exact small64 h64
  exact ⟨.ref _, upd H (s.heap.objs.size + 1) (.lst (ns'.map V.int)), I.laid (t' := s.toks) (fun _ _ => PyProof.Rows.sortedAll_old) (Nat.le_succ _) ⟨hlen, out.toList, ep, vals_of_ints h1, he'⟩, rfl, q ns' _ h2 h3 (I.hok.fresh (Nat.le_succ _))⟩
/-- {k: v}, k a tuple of ints and texts -/
def tDispT (tk tv : TE) : TE := fun σ H Q => ∀ p, H p = none → tk σ (upd H p (.dT [])) fun x H1 => tv σ H1 fun y H2 => ∃ (b : Addr) (k : List Key), x = .ref b ∧ H2 p = some (.dT []) ∧ H2 b = some (.tup (k.map kV)) ∧ Q (.ref p) (upd H2 p (.dT [(k, y)]))
theorem pe_dispT {k v : Expr} {pos : Pos} {tk tv : TE} (hu : X.A.units + 1 < cLine) (hk : PE X k tk) (hv : PE X v tv) : PE X (.Dict [some k] [v] pos) (tDispT tk tv) := by
  refine ⟨fun pins s σ H Q I q => ?_⟩
  have hn := I.hok.fresh (Nat.le_refl s.heap.objs.size)
  have I1 := I.laid (a := s.heap.objs.size) (o := .dT []) (h' := s.heap.push { cls := .type "dict", data := .dict #[] }) (t' := s.toks) (fun _ _ q => Heap.get?_push_of_some _ q) (Nat.le_refl _) (dt_empty s.heap I.big)
  have hroom : (tupleKind (mixKind X.prog X.w)).room X.A := (show X.A.units < cLine by omega)
  rw [arm_eval_Dict, zip_pairTrees [some k] [v] X.env pos rfl rfl, dictDisplay_pairs (pairTrees [some k] [v] X.env pos) (by intro z; cases z) (by show 1 < 17; omega)]
  refine wpAny_bind (wpAny_standAt (wpAny_bind (wpAny_subDictH (knd := tupleKind (mixKind X.prog X.w)) (Q := fun d s' => wpAny (model X.prog X.w) X.A (pure (Value.ref d)) (EP X pins σ Q) X.xe s') hroom (by show 1 ≤ 15; omega) ?_)))
  refine pairTrees_cons_walk (thn (hk.run pins _ σ _ _ I1 (q _ hn)) fun u s1 ⟨x, H1, I2, rx, q1⟩ => thn (hv.run pins s1 σ H1 _ I2 q1) fun w2 s2 ⟨y, H2, I3, ry, q2⟩ => pairTrees_nil_walk ?_)
  obtain ⟨b, ks, rfl, hp, hb, qq⟩ := q2
  cases rx
  obtain ⟨z, hd, xs0, rel, dd⟩ := dt_of I3.hok hp
  cases rel
  refine ⟨[(ks, b, w2)], ⟨rfl, rfl, key_of I3.hok hb, trivial⟩, dd, fun h' tk' dd' hs => wpAny_pure ⟨.ref s.heap.objs.size, _, ?_, rfl, qq⟩⟩
  obtain ⟨o, es, ep, ho, h2, h3, h4, _, h5⟩ := dd'
  refine d_write I3 (by rw [hp]; exact True.intro) hs ⟨o, ho⟩ ⟨by show 1 ≤ sizeLine; decide, hd, [(ks, b, w2)], .cons ⟨rfl, ?_, ry⟩ .nil, o, es, ep, ho, h2, h3, h4, h5⟩
  rw [upd_ne (ne_of hb hp (fun z => nomatch z))]
  exact hb
end
end L2

set_option Elab.async false
set_option linter.all false
set_option maxRecDepth 100000
set_option maxHeartbeats 4000000
/-! the common ground: turns and locks in the heap, defs by name -/
namespace Lt
open PySem PySem.Spec PyProof.Rows L2
/-! ### heaps -/
theorem same_new {H : Hp} {p : Addr} {o : HO} (h : H p = none) : Same H (upd H p o) := fun b x e => by
  rw [upd_ne (ne_of_none e h)]
  exact e
/-- an object that H does not know may change -/
theorem same_mut {H H' : Hp} {p : Addr} {o : HO} (e : Same H H') (h : H p = none) : Same H (upd H' p o) := fun a u ha => by
  rw [upd_ne (ne_of_none ha h)]
  exact e a u ha
/-- the tuples stay -/
def Tm (H H' : Hp) : Prop := (∀ a xs, H a = some (.tup xs) → H' a = some (.tup xs)) ∧ ∀ a o xs, H a = some (.frz o (.tup xs)) → H' a = some (.frz o (.tup xs))
theorem Tm.refl (H : Hp) : Tm H H := ⟨fun _ _ h => h, fun _ _ _ h => h⟩
theorem Tm.trans {H H1 H2 : Hp} (a : Tm H H1) (b : Tm H1 H2) : Tm H H2 := ⟨fun c x h => b.1 c x (a.1 c x h), fun c o x h => b.2 c o x (a.2 c o x h)⟩
theorem Tm.of {H H' : Hp} (e : Same H H') : Tm H H' := ⟨fun a xs h => e a _ h, fun a o xs h => e a _ h⟩
/-- a tuple to be read: its object known or not -/
abbrev RT (H : Hp) (a : Addr) (xs : List V) : Prop := Rd H a (.tup xs)
theorem RT.tm {H H' : Hp} {a : Addr} {xs : List V} (h : RT H a xs) (e : Tm H H') : RT H' a xs := by
  rcases h with h | ⟨o, h⟩
  · exact .inl (e.1 _ _ h)
  · exact .inr ⟨o, e.2 _ _ _ h⟩
theorem RT.sm {H H' : Hp} {a : Addr} {xs : List V} (h : RT H a xs) (e : Same H H') : RT H' a xs := h.tm (.of e)
theorem RT.sq {K : PySem.W.Frag} {H : Hp} {a : Addr} {xs : List V} (h : RT H a xs) : SqT K H a xs := .inl h
/-- what is no tuple may change -/
theorem Tm.mut {H : Hp} {p : Addr} {o u : HO} (h : H p = some u) (hu : ∀ xs, u ≠ .tup xs) (hf : ∀ ob xs, u ≠ .frz ob (.tup xs)) : Tm H (upd H p o) :=
  ⟨fun a xs e => by rw [upd_ne (ne_of e h (fun z => hu xs z.symm))]; exact e, fun a ob xs e => by rw [upd_ne (ne_of e h (fun z => hf ob xs z.symm))]; exact e⟩
theorem Tm.lst {H : Hp} {p : Addr} {o : HO} {ys : List V} (h : H p = some (.lst ys)) : Tm H (upd H p o) := .mut h (fun _ z => nomatch z) fun _ _ z => nomatch z
theorem Tm.dT {H : Hp} {p : Addr} {o : HO} {ys : List (List Key × V)} (h : H p = some (.dT ys)) : Tm H (upd H p o) := .mut h (fun _ z => nomatch z) fun _ _ z => nomatch z
theorem Tm.new {H : Hp} {p : Addr} {o : HO} (h : H p = none) : Tm H (upd H p o) := .of (same_new h)

/-! ### turns: tuples of numbers -/
def nI (n : Nat) : V := .int (n : Int)
def nIs (t : List Nat) : List V := t.map nI
def TN (H : Hp) (v : V) (t : List Nat) : Prop := ∃ a, v = .ref a ∧ RT H a (nIs t)
/-- one that no dict refuses as a key -/
def TK (H : Hp) (v : V) (t : List Nat) : Prop := ∃ a, v = .ref a ∧ H a = some (.tup (nIs t))
theorem TK.tn {H : Hp} {v : V} {t : List Nat} (h : TK H v t) : TN H v t := let ⟨a, e, h⟩ := h; ⟨a, e, .inl h⟩
theorem TK.tm {H H' : Hp} {v : V} {t : List Nat} (e : Tm H H') (h : TK H v t) : TK H' v t := let ⟨a, ev, ha⟩ := h; ⟨a, ev, e.1 _ _ ha⟩
/-- a tuple of turns -/
def TT (H : Hp) (v : V) (ts : List (List Nat)) : Prop := ∃ a xs, v = .ref a ∧ H a = some (.tup xs) ∧ Paired (TN H) xs ts
/-- a list of turns at a -/
def LT (H : Hp) (a : Addr) (ts : List (List Nat)) : Prop := ∃ xs, H a = some (.lst xs) ∧ Paired (TN H) xs ts
theorem TN.tm {H H' : Hp} {v : V} {t : List Nat} (e : Tm H H') (h : TN H v t) : TN H' v t := let ⟨a, ev, ha⟩ := h; ⟨a, ev, ha.tm e⟩
theorem TNs.tm {H H' : Hp} (e : Tm H H') : ∀ {xs : List V} {ts : List (List Nat)}, Paired (TN H) xs ts → Paired (TN H') xs ts
  | _, _, .nil => .nil
  | _, _, .cons r t => .cons (r.tm e) (TNs.tm e t)
theorem TT.tm {H H' : Hp} {v : V} {t : List (List Nat)} (e : Tm H H') (h : TT H v t) : TT H' v t := let ⟨a, xs, ev, ha, p⟩ := h; ⟨a, xs, ev, e.1 _ _ ha, TNs.tm e p⟩
theorem LT.same {H H' : Hp} {v : Addr} {t : List (List Nat)} (e : Same H H') (h : LT H v t) : LT H' v t := let ⟨xs, ha, p⟩ := h; ⟨xs, e _ _ ha, TNs.tm (.of e) p⟩
theorem nIs_len (t : List Nat) : (nIs t).length = t.length := List.length_map ..
theorem nIs_get (t : List Nat) (i : Nat) : (nIs t)[i]? = (t[i]?).map nI := List.getElem?_map ..
theorem nIs_int (t : List Nat) : nIs t = (t.map Int.ofNat).map V.int := by
  unfold nIs
  rw [List.map_map]
  rfl
theorem nIs_key (t : List Nat) : nIs t = (t.map fun n : Nat => (Sum.inl (Int.ofNat n) : Key)).map kV := by
  unfold nIs
  rw [List.map_map]
  rfl
theorem Paired.getL {α β : Type} {F : α → β → Prop} : ∀ {xs : List α} {ys : List β} {i : Nat} {x : α}, Paired F xs ys → xs[i]? = some x → ∃ y, ys[i]? = some y ∧ F x y
  | _, _, _, _, .nil, e => by simp at e
  | _, _, 0, _, .cons r _, e => by simp at e; subst e; exact ⟨_, rfl, r⟩
  | _, _, i + 1, x, .cons _ t, e => by
    obtain ⟨u, h1, h2⟩ := Paired.getL (i := i) (x := x) t (by simpa using e)
    exact ⟨u, by simpa using h1, h2⟩
theorem Paired.getR {α β : Type} {F : α → β → Prop} : ∀ {xs : List α} {ys : List β} {i : Nat} {y : β}, Paired F xs ys → ys[i]? = some y → ∃ x, xs[i]? = some x ∧ F x y
  | _, _, _, _, .nil, e => by simp at e
  | _, _, 0, _, .cons r _, e => by simp at e; subst e; exact ⟨_, rfl, r⟩
  | _, _, i + 1, x, .cons _ t, e => by
    obtain ⟨u, h1, h2⟩ := Paired.getR (i := i) (y := x) t (by simpa using e)
    exact ⟨u, by simpa using h1, h2⟩
theorem Paired.app {α β : Type} {F : α → β → Prop} : ∀ {xs xs' : List α} {ys ys' : List β}, Paired F xs ys → Paired F xs' ys' → Paired F (xs ++ xs') (ys ++ ys')
  | _, _, _, _, .nil, h => h
  | _, _, _, _, .cons r t, h => .cons r (Paired.app t h)
theorem Paired.one {α β : Type} {F : α → β → Prop} {x : α} {y : β} (h : F x y) : Paired F [x] [y] := .cons h .nil
/-! ### data for == and in -/
def dN (n : Nat) : PyData := .int (n : Int)
def dT (t : List Nat) : PyData := .tuple (t.map dN)
theorem dp_nats {K : PySem.W.Frag} {H : Hp} : ∀ t : List Nat, DpAll K H (nIs t) (t.map dN)
  | [] => .nil
  | n :: t => .cons (.int _) (dp_nats t)
theorem TN.dp {K : PySem.W.Frag} {H : Hp} {v : V} {t : List Nat} (h : TN H v t) : Dp K H v (dT t) := by
  obtain ⟨a, rfl, ha⟩ := h
  exact .tup ha.sq (dp_nats t)
theorem TNs.dp {K : PySem.W.Frag} {H : Hp} : ∀ {xs : List V} {ts : List (List Nat)}, Paired (TN H) xs ts → DpAll K H xs (ts.map dT)
  | _, _, .nil => .nil
  | _, _, .cons r t => .cons r.dp (TNs.dp t)
theorem TT.dp {K : PySem.W.Frag} {H : Hp} {v : V} {ts : List (List Nat)} (h : TT H v ts) : Dp K H v (.tuple (ts.map dT)) := by
  obtain ⟨a, xs, rfl, ha, p⟩ := h
  exact .tup (SqT.of ha) (TNs.dp p)
theorem LT.dp {K : PySem.W.Frag} {H : Hp} {a : Addr} {ts : List (List Nat)} (h : LT H a ts) : Dp K H (.ref a) (.list (ts.map dT)) := by
  obtain ⟨xs, ha, p⟩ := h
  exact .lst (SqL.of ha) (TNs.dp p)
theorem eqvAll_map {α : Type} [DecidableEq α] {f : α → PyData} (h : ∀ x y, PyData.eqv (f x) (f y) = decide (x = y)) : ∀ xs ys : List α, PyData.eqvAll (xs.map f) (ys.map f) = decide (xs = ys)
  | [], [] => by simp [PyData.eqvAll]
  | [], _ :: _ => by simp [PyData.eqvAll]
  | _ :: _, [] => by simp [PyData.eqvAll]
  | x :: xs, y :: ys => by
    rw [List.map_cons, List.map_cons, PyData.eqvAll, h, eqvAll_map h xs ys]
    by_cases e1 : x = y <;> by_cases e2 : xs = ys <;> simp [e1, e2]
theorem eqv_dN (a b : Nat) : PyData.eqv (dN a) (dN b) = decide (a = b) := by
  show ((a : Int) == (b : Int)) = decide (a = b)
  by_cases e : a = b
  · subst e; simp
  · rw [decide_eq_false e]
    exact beq_eq_false_iff_ne.mpr (by omega)
theorem eqv_dT (s t : List Nat) : PyData.eqv (dT s) (dT t) = decide (s = t) := by
  show PyData.eqvAll (s.map dN) (t.map dN) = _
  exact eqvAll_map eqv_dN s t
theorem depth_nats : ∀ t : List Nat, PyData.depthAll (t.map dN) = 0
  | [] => rfl
  | n :: t => by
    show max (PyData.depth (dN n)) (PyData.depthAll (t.map dN)) = 0
    rw [depth_nats t]
    rfl
theorem can_nats : ∀ t : List Nat, PyData.canLayAll0 (t.map dN) = true
  | [] => rfl
  | n :: t => by
    show (PyData.canLay0 (dN n) && PyData.canLayAll0 (t.map dN)) = true
    rw [can_nats t]
    rfl
theorem sh_T (t : List Nat) : SeqAt.shaped (dT t) = true := by
  show (PyData.canLayAll0 (t.map dN) && decide (PyData.depthAll (t.map dN) + 1 ≤ 64)) = true
  rw [can_nats, depth_nats]
  rfl
/-! ### defs by name -/
section
variable (P : Program) (w : World) (K : PySem.W.Frag) (mg : Str → Option Value) (base : Heap)
/-- the def x of the module's top keeps the promise sp -/
def Has (CX : CXT) (k : Nat) (x : Str) (ps : List Str) (sp : Sp) : Prop :=
  ∃ (f : Addr) (fd : FuncData), mg x = some (.ref f) ∧ PySem.W.keepIn K (.ref f) = true ∧ Binds K fd ps [] ∧ FnOk P w K mg base CX k f fd ps sp
/-- the def x of the module's top is the statement st -/
def Top (x : Str) (st : Stmt) (ps : List Str) : Prop := ∃ (f : Addr) (fd : FuncData), mg x = some (.ref f) ∧ Fun K x x st f fd ∧ Binds K fd ps []
end
section
variable {P : Program} {w : World} {K : PySem.W.Frag} {mg : Str → Option Value} {base : Heap}
theorem Has.mono {CX : CXT} {j k : Nat} {x : Str} {ps : List Str} {sp : Sp} (h : Has P w K mg base CX j x ps sp) (l : j ≤ k) : Has P w K mg base CX k x ps sp :=
  let ⟨f, fd, a, b, c, d⟩ := h
  ⟨f, fd, a, b, c, d.mono l⟩
theorem Has.imp {CX : CXT} {k : Nat} {x : Str} {ps : List Str} {sp sp' : Sp} (h : Has P w K mg base CX k x ps sp) (i : ∀ vs H Q E, sp' vs H Q E → sp vs H Q E) : Has P w K mg base CX k x ps sp' :=
  let ⟨f, fd, a, b, c, d⟩ := h
  ⟨f, fd, a, b, c, d.imp i⟩
/-- THE RULE for a def that raises nothing -/
theorem Top.ok {x : Str} {st : Stmt} {N ps : List Str} {k : Nat} {sp : Sp} (T : Top K mg x st ps) (S : FnScope N ps (defScope st)) (len : ∀ vs H Q E, sp vs H Q E → vs.length = ps.length)
    (hbody : ∀ (f : Addr) (cdv : Value) (A : Around) (outer : List Env) (s : Shared) (H : Hp) (vs : List V) (Q : VK) (E : XK), Room k (A.deeper (envOfC x (defScope st) s.heap.objs.size f cdv)) → sp vs H Q E →
      ∃ t, PSs (cxOf CX0 P w K mg base N x (defScope st) f cdv A outer s H E).nox (defBody st) t ∧ t { nx := fun _ H' => Q .non H', rt := Q } (start N vs) H) : Has P w K mg base CX0 (k + 1) x ps sp := by
  obtain ⟨f, fd, hm, F, b⟩ := T
  exact ⟨f, fd, hm, F.kp, b, F.ok S len fun cdv A outer s H vs Q E hr h => hbody f cdv A outer s H vs Q E hr h⟩
end
/-- a call of such a def -/
theorem pe_has {X : Cx} {k : Nat} {x : Str} {ps : List Str} {sp : Sp} {e : Expr} {es : List Expr} {t : TA} {p pos : Pos} (h : Has X.prog X.w X.K X.mg X.base CX0 k x ps sp) (hr : Room k X.A) (hg : Gl X x) (ha : PA X (e :: es) t)
    (hdb : (x == ("__debug__" : Str)) = false := by decide) (he : starEach (e :: es) X.env = (false, eval e X.env) :: starEach es X.env := by rfl) (hpl : (backTo pos (starEach es X.env)).any (·.1) = false := by rfl) :
    PE X (.Call (.Name x p) (e :: es) [] pos) (tCall sp [] E0 t) := by
  obtain ⟨f, fd, hm, hk, hb, F⟩ := h
  exact pe_call F hr hg hm hk hb .nil pass0 ha hdb he hpl
end Lt

set_option Elab.async false
set_option linter.all false
set_option maxRecDepth 100000
namespace Lt
open PySem PySem.Spec PyProof.Rows L2
def topS (i : Nat) : Stmt := PySem.Challenge.pw_lockturns_k15_whole_sessions.main.body.getD i (.Pass ⟨0, 0, 0, 0⟩)
abbrev s_BadLock : Stmt := topS 3
abbrev s_BadLine : Stmt := topS 6
abbrev s_TooMany : Stmt := topS 7
abbrev s_is_number : Stmt := topS 16
abbrev s_are_numbers : Stmt := topS 17
abbrev s_is_permutation : Stmt := topS 18
abbrev s_still_of : Stmt := topS 19
abbrev s_product_of : Stmt := topS 20
abbrev s_words_of : Stmt := topS 25
abbrev s_check_lock : Stmt := topS 32
abbrev s_made_words : Stmt := topS 33
abbrev s_Dial : Stmt := topS 86
abbrev s_WordLine : Stmt := topS 99
abbrev s_write_lock : Stmt := topS 100
abbrev s_read_lock : Stmt := topS 101
abbrev s_check_text : Stmt := topS 103
abbrev s_spaced : Stmt := topS 104
abbrev s_words_in : Stmt := topS 105
abbrev s_worded_lines : Stmt := topS 106
abbrev s_Desk : Stmt := topS 110
abbrev s_is_known : Stmt := topS 111
abbrev s_Session : Stmt := topS 130
abbrev s_read_session : Stmt := topS 131
abbrev s_first_unlike : Stmt := topS 132
abbrev s_check_marks : Stmt := topS 133
abbrev s_unmarked : Stmt := topS 134
abbrev s_law_taken : Stmt := topS 136
abbrev s_law_pick : Stmt := topS 137
abbrev s_law_alike : Stmt := topS 138
abbrev s_law_permutation : Stmt := topS 139
abbrev s_law_known : Stmt := topS 140
abbrev s_law_lock : Stmt := topS 141
abbrev s_law_said_session : Stmt := topS 142
abbrev s_law : Stmt := topS 143
abbrev m_Dial_turn : Stmt := inClass s_Dial 1
abbrev m_Dial_step : Stmt := inClass s_Dial 2
abbrev m_Dial_undo : Stmt := inClass s_Dial 3
abbrev m_Dial_home : Stmt := inClass s_Dial 4
abbrev m_WordLine_init : Stmt := inClass s_WordLine 0
abbrev m_WordLine_take : Stmt := inClass s_WordLine 1
abbrev m_WordLine_take_places : Stmt := inClass s_WordLine 2
abbrev m_WordLine_end : Stmt := inClass s_WordLine 4
abbrev m_Desk_init : Stmt := inClass s_Desk 0
abbrev m_Desk_take_lock : Stmt := inClass s_Desk 1
abbrev m_Desk_say : Stmt := inClass s_Desk 2
abbrev m_Session_init : Stmt := inClass s_Session 0
abbrev m_Session_say : Stmt := inClass s_Session 1
abbrev m_Session_text : Stmt := inClass s_Session 2
abbrev m_Session_log : Stmt := inClass s_Session 3
end Lt

set_option Elab.async false
set_option linter.all false
set_option maxRecDepth 100000
set_option maxHeartbeats 0
namespace Lt
open PySem PySem.Spec PyProof.Rows L2
def noY : List Str := ["wait", "keep", "share", "held", "sing"]
def noB (K : PySem.W.Frag) (a : Addr) : Bool := noY.all fun z => He.eqO (PySem.W.nsIn K a z) (some none)
def bsl : List (PySem.W.Frag → Bool) := [
  fun K => (He.Fa.free "tuple").ok K,
  fun K => (He.Fa.free "list").ok K,
  fun K => (He.Fa.free "range").ok K,
  fun K => (He.Fa.free "len").ok K,
  fun K => (He.Fa.free "sorted").ok K,
  fun K => (He.Fa.free "enumerate").ok K,
  fun K => (He.Fa.free "isinstance").ok K,
  fun K => (He.Fa.free "all").ok K,
  fun K => (He.Fa.free "set").ok K,
  fun K => (He.Fa.free "int").ok K,
  fun K => (He.Fa.free "bool").ok K,
  fun K => (He.Fa.free "str").ok K,
  fun K => (He.Fa.free "sum").ok K,
  fun K => (He.Fa.free "zip").ok K,
  fun K => (He.Fa.free "min").ok K,
  fun K => (He.Fa.free "max").ok K,
  fun K => (He.Fa.free "reversed").ok K,
  fun K => (He.Fa.int "MOST_TURNS" 240).ok K,
  fun K => (He.Fa.int "MOST_GIVEN" 4).ok K,
  fun K => (He.Fa.int "FEWEST_PLACES" 2).ok K,
  fun K => (He.Fa.int "MOST_PLACES" 9).ok K,
  fun K => (He.Fa.str "LOCK_MARK" "| ").ok K,
  fun K => (He.Fa.str "LINE_MARK" "> ").ok K,
  fun K => (He.Fa.str "ANSWER_MARK" "< ").ok K,
  fun K => (He.Fa.glo "LOCK_ANSWERS").ok K,
  fun K => noB K (He.ga K "LOCK_ANSWERS"),
  fun K => (He.Fa.glo "DIAL_ANSWERS").ok K,
  fun K => noB K (He.ga K "DIAL_ANSWERS"),
  fun K => bErr "BadLock" ["place"] K,
  fun K => bErr "BadLine" ["line", "place"] K,
  fun K => bErr "TooMany" ["most"] K,
  fun K => bErr0 "BadString" K,
  fun K => (He.Fa.exm "BadString" "BadLine" false).ok K,
  fun K => bCls "Dial" K,
  fun K => (He.Fa.noat "Dial" "_made").ok K,
  fun K => (He.Fa.noat "Dial" "_stood").ok K,
  fun K => (He.Fa.glo "Dial").ok K,
  fun K => (He.Fa.mkr "Dial").ok K,
  fun K => (He.Fa.meth "Dial" "turn").ok K,
  fun K => (He.Fa.meth "Dial" "step").ok K,
  fun K => (He.Fa.meth "Dial" "undo").ok K,
  fun K => (He.Fa.meth "Dial" "home").ok K,
  fun K => bProp "Dial" "stands" K,
  fun K => bProp "Dial" "done" K,
  fun K => bCls "WordLine" K,
  fun K => (He.Fa.noat "WordLine" "at").ok K,
  fun K => (He.Fa.noat "WordLine" "number").ok K,
  fun K => (He.Fa.noat "WordLine" "words").ok K,
  fun K => (He.Fa.glo "WordLine").ok K,
  fun K => (He.Fa.mkr "WordLine").ok K,
  fun K => (He.Fa.meth "WordLine" "take").ok K,
  fun K => (He.Fa.meth "WordLine" "take_places").ok K,
  fun K => (He.Fa.meth "WordLine" "take_turn").ok K,
  fun K => (He.Fa.meth "WordLine" "end").ok K,
  fun K => bCls "Desk" K,
  fun K => (He.Fa.noat "Desk" "_dial").ok K,
  fun K => (He.Fa.noat "Desk" "_lock").ok K,
  fun K => (He.Fa.glo "Desk").ok K,
  fun K => (He.Fa.mkr "Desk").ok K,
  fun K => (He.Fa.meth "Desk" "take_lock").ok K,
  fun K => (He.Fa.meth "Desk" "say").ok K,
  fun K => bCls "Session" K,
  fun K => (He.Fa.noat "Session" "_desk").ok K,
  fun K => (He.Fa.noat "Session" "_lock").ok K,
  fun K => (He.Fa.noat "Session" "_log").ok K,
  fun K => (He.Fa.glo "Session").ok K,
  fun K => (He.Fa.mkr "Session").ok K,
  fun K => (He.Fa.meth "Session" "say").ok K,
  fun K => (He.Fa.meth "Session" "text").ok K,
  fun K => bProp "Session" "log" K,
  fun K => (He.Fa.glo "is_number").ok K,
  fun K => (He.Fa.glo "are_numbers").ok K,
  fun K => (He.Fa.glo "is_permutation").ok K,
  fun K => (He.Fa.glo "still_of").ok K,
  fun K => (He.Fa.glo "product_of").ok K,
  fun K => (He.Fa.glo "words_of").ok K,
  fun K => (He.Fa.glo "check_lock").ok K,
  fun K => (He.Fa.glo "made_words").ok K,
  fun K => (He.Fa.glo "write_lock").ok K,
  fun K => (He.Fa.glo "read_lock").ok K,
  fun K => (He.Fa.glo "check_text").ok K,
  fun K => (He.Fa.glo "spaced").ok K,
  fun K => (He.Fa.glo "words_in").ok K,
  fun K => (He.Fa.glo "worded_lines").ok K,
  fun K => (He.Fa.glo "is_known").ok K,
  fun K => (He.Fa.glo "read_session").ok K,
  fun K => (He.Fa.glo "first_unlike").ok K,
  fun K => (He.Fa.glo "check_marks").ok K,
  fun K => (He.Fa.glo "unmarked").ok K,
  fun K => (He.Fa.glo "_law_taken").ok K,
  fun K => (He.Fa.glo "_law_pick").ok K,
  fun K => (He.Fa.glo "_law_alike").ok K,
  fun K => (He.Fa.glo "_law_permutation").ok K,
  fun K => (He.Fa.glo "_law_known").ok K,
  fun K => (He.Fa.glo "_law_lock").ok K,
  fun K => (He.Fa.glo "_law_said_session").ok K,
  fun K => (He.Fa.glo "law").ok K]
def fxl : List Fx := [
  ⟨fun K => He.ma K (He.ga K "BadLock") "__init__", "__init__", ("BadLock" : Str) ++ ".__init__", inClass s_BadLock 0⟩,
  ⟨fun K => He.ma K (He.ga K "BadLine") "__init__", "__init__", ("BadLine" : Str) ++ ".__init__", inClass s_BadLine 0⟩,
  ⟨fun K => He.ma K (He.ga K "TooMany") "__init__", "__init__", ("TooMany" : Str) ++ ".__init__", inClass s_TooMany 0⟩,
  ⟨fun K => He.ma K (He.ga K "Dial") "__init__", "__init__", ("Dial" : Str) ++ ".__init__", inClass s_Dial 0⟩,
  ⟨fun K => He.ma K (He.ga K "Dial") "turn", "turn", "Dial.turn", inClass s_Dial 1⟩,
  ⟨fun K => He.ma K (He.ga K "Dial") "step", "step", "Dial.step", inClass s_Dial 2⟩,
  ⟨fun K => He.ma K (He.ga K "Dial") "undo", "undo", "Dial.undo", inClass s_Dial 3⟩,
  ⟨fun K => He.ma K (He.ga K "Dial") "home", "home", "Dial.home", inClass s_Dial 4⟩,
  ⟨fun K => pA K "Dial" "stands", "stands", "Dial.stands", inClass s_Dial 5⟩,
  ⟨fun K => pA K "Dial" "done", "done", "Dial.done", inClass s_Dial 6⟩,
  ⟨fun K => He.ma K (He.ga K "WordLine") "__init__", "__init__", ("WordLine" : Str) ++ ".__init__", inClass s_WordLine 0⟩,
  ⟨fun K => He.ma K (He.ga K "WordLine") "take", "take", "WordLine.take", inClass s_WordLine 1⟩,
  ⟨fun K => He.ma K (He.ga K "WordLine") "take_places", "take_places", "WordLine.take_places", inClass s_WordLine 2⟩,
  ⟨fun K => He.ma K (He.ga K "WordLine") "take_turn", "take_turn", "WordLine.take_turn", inClass s_WordLine 3⟩,
  ⟨fun K => He.ma K (He.ga K "WordLine") "end", "end", "WordLine.end", inClass s_WordLine 4⟩,
  ⟨fun K => He.ma K (He.ga K "Desk") "__init__", "__init__", ("Desk" : Str) ++ ".__init__", inClass s_Desk 0⟩,
  ⟨fun K => He.ma K (He.ga K "Desk") "take_lock", "take_lock", "Desk.take_lock", inClass s_Desk 1⟩,
  ⟨fun K => He.ma K (He.ga K "Desk") "say", "say", "Desk.say", inClass s_Desk 2⟩,
  ⟨fun K => He.ma K (He.ga K "Session") "__init__", "__init__", ("Session" : Str) ++ ".__init__", inClass s_Session 0⟩,
  ⟨fun K => He.ma K (He.ga K "Session") "say", "say", "Session.say", inClass s_Session 1⟩,
  ⟨fun K => He.ma K (He.ga K "Session") "text", "text", "Session.text", inClass s_Session 2⟩,
  ⟨fun K => pA K "Session" "log", "log", "Session.log", inClass s_Session 3⟩,
  ⟨fun K => (He.ga K "is_number"), "is_number", "is_number", s_is_number⟩,
  ⟨fun K => (He.ga K "are_numbers"), "are_numbers", "are_numbers", s_are_numbers⟩,
  ⟨fun K => (He.ga K "is_permutation"), "is_permutation", "is_permutation", s_is_permutation⟩,
  ⟨fun K => (He.ga K "still_of"), "still_of", "still_of", s_still_of⟩,
  ⟨fun K => (He.ga K "product_of"), "product_of", "product_of", s_product_of⟩,
  ⟨fun K => (He.ga K "words_of"), "words_of", "words_of", s_words_of⟩,
  ⟨fun K => (He.ga K "check_lock"), "check_lock", "check_lock", s_check_lock⟩,
  ⟨fun K => (He.ga K "made_words"), "made_words", "made_words", s_made_words⟩,
  ⟨fun K => (He.ga K "write_lock"), "write_lock", "write_lock", s_write_lock⟩,
  ⟨fun K => (He.ga K "read_lock"), "read_lock", "read_lock", s_read_lock⟩,
  ⟨fun K => (He.ga K "check_text"), "check_text", "check_text", s_check_text⟩,
  ⟨fun K => (He.ga K "spaced"), "spaced", "spaced", s_spaced⟩,
  ⟨fun K => (He.ga K "words_in"), "words_in", "words_in", s_words_in⟩,
  ⟨fun K => (He.ga K "worded_lines"), "worded_lines", "worded_lines", s_worded_lines⟩,
  ⟨fun K => (He.ga K "is_known"), "is_known", "is_known", s_is_known⟩,
  ⟨fun K => (He.ga K "read_session"), "read_session", "read_session", s_read_session⟩,
  ⟨fun K => (He.ga K "first_unlike"), "first_unlike", "first_unlike", s_first_unlike⟩,
  ⟨fun K => (He.ga K "check_marks"), "check_marks", "check_marks", s_check_marks⟩,
  ⟨fun K => (He.ga K "unmarked"), "unmarked", "unmarked", s_unmarked⟩,
  ⟨fun K => (He.ga K "_law_taken"), "_law_taken", "_law_taken", s_law_taken⟩,
  ⟨fun K => (He.ga K "_law_pick"), "_law_pick", "_law_pick", s_law_pick⟩,
  ⟨fun K => (He.ga K "_law_alike"), "_law_alike", "_law_alike", s_law_alike⟩,
  ⟨fun K => (He.ga K "_law_permutation"), "_law_permutation", "_law_permutation", s_law_permutation⟩,
  ⟨fun K => (He.ga K "_law_known"), "_law_known", "_law_known", s_law_known⟩,
  ⟨fun K => (He.ga K "_law_lock"), "_law_lock", "_law_lock", s_law_lock⟩,
  ⟨fun K => (He.ga K "_law_said_session"), "_law_said_session", "_law_said_session", s_law_said_session⟩,
  ⟨fun K => (He.ga K "law"), "law", "law", s_law⟩]
def tsl : List He.Tab := [(fun K => (He.ga K "LOCK_ANSWERS"), ["many", "lower", "derived", "prime", "weights", "most"]), (fun K => (He.ga K "DIAL_ANSWERS"), ["undo", "stands", "home"])]
def tfl : List He.Defn := [("law", none)]
end Lt
namespace Hd
open PySem PySem.W PySem.Calls PyProof.Rows
abbrev R : OpenRow := OpenLaw.row PySem.Challenge.rw_lockturns_k15_whole_sessions
def nm0 : List PySem.Str := ["_wall", "LockError", "BadLock", "BadRow", "BadSign", "BadLine", "TooMany", "BadTurn", "BadTask", "BadNumber", "NoWay", "NotPrime", "BadString", "MOST_TURNS", "is_number", "are_numbers", "is_permutation", "still_of", "product_of", "back_of", "power_of", "rounds_of", "bracket_of", "words_of", "group_of", "MOST_GIVEN", "FEWEST_PLACES", "MOST_PLACES", "all_turns", "check_lock"]
def nm1 : List PySem.Str := ["made_words", "is_turn", "check_turn", "lower", "derived", "is_dying", "prime", "ring", "brackets_made", "led_into", "fading_turns", "MOST_INPUTS", "JOINERS", "MOST_AROUND", "RUN_SIGNS", "table_of", "check_inputs", "check_table", "inputs_of", "input_table", "bits_of", "formula_tree", "placed_words", "tree_from", "expected", "worth_of", "weighed", "told_number", "exponents", "chains"]
def nm2 : List PySem.Str := ["own_prime", "exponent_of", "weighed_term", "weighed_makers", "powers_in", "made_by", "longest_first", "most_all", "all_row", "ring_row", "chain_row", "most_times", "bracket_steps", "undone_steps", "MOST_STEPS", "check_row", "is_step", "Dial", "are_bits", "formula_row", "many_steps", "bracket_pairs", "steps_for", "both_steps", "unless", "row_for", "steps_at", "WordLine", "write_lock", "read_lock"]
def nm3 : List PySem.Str := ["write_row", "check_text", "spaced", "words_in", "worded_lines", "NUMBERS", "NO_PRIME", "Desk", "is_known", "turn_answer", "row_answer", "wanted_row", "undo_answer", "stands_answer", "home_answer", "many_answer", "lower_answer", "derived_answer", "prime_answer", "weights_answer", "most_answer", "DIAL_ANSWERS", "LOCK_ANSWERS", "LOCK_MARK", "LINE_MARK", "ANSWER_MARK", "Session", "read_session", "first_unlike", "check_marks"]
def nm4 : List PySem.Str := ["unmarked", "_law_taken", "_law_pick", "_law_alike", "_law_permutation", "_law_known", "_law_lock", "_law_said_session"]
def names : List PySem.Str := nm0 ++ nm1 ++ nm2 ++ nm3 ++ nm4
def qv : Program := view R.prog [143]
abbrev hk : Hook := Lt.hookY 5 Lt.fxl Lt.tsl Lt.tfl Lt.bsl
def ob (s : SharedT) : Lt.AlY := Lt.obsY 5 Lt.fxl Lt.tsl Lt.tfl Lt.bsl (HandSHeadRun.getT s)
theorem ob_eq (s : SharedT) : ob s = hk.obs s.abs := Lt.obsY_eq (HandSHeadRun.getT_eq s)
theorem run_f (w : World) : HandSHeadRun.RunEq R qv hk ob 16000 names (w.withFollow "special-get-raises" false) := by
  intro os
  kernel_rfl
theorem run_t (w : World) : HandSHeadRun.RunEq R qv hk ob 16000 names (w.withFollow "special-get-raises" true) := by
  intro os
  kernel_rfl
theorem run (w : World) : HandSHeadRun.RunEq R qv hk ob 16000 names w := byRow2 "special-get-raises" (P := fun w => HandSHeadRun.RunEq R qv hk ob 16000 names w) run_f run_t w
end Hd

set_option Elab.async false
set_option linter.all false
set_option maxRecDepth 100000
set_option maxHeartbeats 4000000
/-! errors of the program's own -/
namespace L2
open PySem PySem.Spec PyProof.Rows
section
variable {X : Cx} {pos : Pos}
/-- X(), X an own exception class without own __init__ -/
theorem pmk_own0 {C : Addr} {bmB : List Value} {B newId initId : String} {x : Str} {p : Pos} (F : ExcBaseFacts B newId initId bmB) (q : PySem.W.excIn X.K C bmB newId = true) (gC : X.mg x = some (.ref C))
    (kC : PySem.W.keepIn X.K (.ref C) = true) (r : Raises X (.ref C)) (hg : Gl X x) (hdb : (x == ("__debug__" : Str)) = false := by decide) :
    PMk X (.Call (.Name x p) [] [] pos) (fun _ H Q => Q (.ref C) none H) := by
  intro pins s σ H Q I h
  refine wpAny_Call_Name_kw (ld_glob I hg gC ?_ hdb)
  refine PySem.W.callWith_K0 I.kIn kC ?_
  obtain ⟨bm, N, nm, qn, bs, hdct, sn, sub, ab, col, dd, k0, k1, k2, k3, k5, mN, hC, hN, hni, T⟩ := exc_obj I.kIn q
  exact wpAny_call_exc_subT F T hC hN hni (fun h' e hm => mk_of I hm r h (I.hok.gone hm.new)) (Nat.zero_le _)
end
end L2
namespace Lt
open PySem PySem.Spec PyProof.Rows L2
/-- __init__(self, f): self.f = f -/
def spInit (K : PySem.W.Frag) (fld : Str) : Sp := fun vs H Q _ => ∃ (a C : Addr) (v : V), vs = [.ref a, v] ∧ OexC K C ∧ PySem.W.findIn K (.ref C) fld = some none ∧ H a = some (exo a C none) ∧
  ∀ dx, H dx = none → dx ≠ a → Q .non (upd (upd H dx (exd dx [(fld, v)])) a (exo a C (some dx)))
section
variable (P : Program) (w : World) (K : PySem.W.Frag) (mg : Str → Option Value) (base : Heap)
/-- an own error class with the field fld, set by its __init__ -/
structure ErrI (x fld : Str) (C : Addr) : Prop where
  oex : OexC K C
  g : mg x = some (.ref C)
  no : PySem.W.findIn K (.ref C) fld = some none
  init : ∃ fI fd, PySem.W.findIn K (.ref C) "__init__" = some (some (.ref fI)) ∧ PySem.W.typeIn K (.ref fI) = some (.type "function") ∧ Binds K fd ["self", fld] [] ∧ FnOk P w K mg base CX0 1 fI fd ["self", fld] (spInit K fld)
  xf : XfC K C
  exm : PySem.W.exmOne K (.ref C) (.ref C) = some true
/-- one without -/
structure Err0 (x : Str) (C : Addr) : Prop where
  q : PySem.W.excIn K C [.type "ValueError", .type "Exception", .type "BaseException", .type "object"] "ValueError.__new__" = true
  g : mg x = some (.ref C)
  k : PySem.W.keepIn K (.ref C) = true
  exC : PySem.W.subIn K (.ref C) (.type "BaseException") = some true
  tyC : PySem.W.typeIn K (.ref C) = some (.type "type")
  exm : PySem.W.exmOne K (.ref C) (.ref C) = some true
end
/-- an error with its field lies behind H -/
def BadF (C : Addr) (fld : Str) (v : V) (H : Hp) (E : XK) : Prop := ∀ d H', Same H H' → H' d = some (.xd [(fld, v)]) → E (.ref C) (some d) H'
/-- an error without fields -/
def Bad0 (C : Addr) (H : Hp) (E : XK) : Prop := ∀ H', Same H H' → E (.ref C) none H'
theorem BadF.same {C : Addr} {fld : Str} {v : V} {H H' : Hp} {E : XK} (h : BadF C fld v H E) (s : Same H H') : BadF C fld v H' E := fun d H2 s2 => h d H2 (s.trans s2)
theorem Bad0.same {C : Addr} {H H' : Hp} {E : XK} (h : Bad0 C H E) (s : Same H H') : Bad0 C H' E := fun H2 s2 => h H2 (s.trans s2)
theorem mk_read {K : PySem.W.Frag} {C : Addr} {fld : Str} {v : V} {H1 : Hp} {Q : XK} (oex : OexC K C) (no : PySem.W.findIn K (.ref C) fld = some none) (h : BadF C fld v H1 Q) :
    [v].length ≤ 1000 ∧ ∀ a, H1 a = none → spInit K fld (.ref a :: ([v] ++ [])) (upd H1 a (exo a C none))
      (fun u H2 => u = .non ∧ ∃ (d : Addr) (fs : List (Str × V)), H2 a = some (exo a C (some d)) ∧ H2 d = some (exd d fs) ∧ H1 d = none ∧ Q (.ref C) (some d) (upd (del H2 a) d (.xd fs))) (fun _ _ _ => False) := by
  refine ⟨by show 1 ≤ 1000; omega, fun a ha => ⟨a, C, v, rfl, oex, no, upd_same, fun dx hdx hne => ⟨rfl, dx, [(fld, v)], upd_same, ?_, ?_, ?_⟩⟩⟩
  · rw [upd_ne hne, upd_same]
  · rw [upd_ne hne] at hdx
    exact hdx
  · rw [upd_ne hne] at hdx
    refine h dx _ (fun b o e => ?_) upd_same
    have h1 : b ≠ a := ne_of_none e ha
    have h2 : b ≠ dx := ne_of_none e hdx
    rw [upd_ne h2, del_ne h1, upd_ne h1, upd_ne h2, upd_ne h1]
    exact e
section
variable {X : Cx} {P : Program} {w : World} {K : PySem.W.Frag} {mg : Str → Option Value} {base : Heap}
/-- raise X(e) -/
theorem pmk_errI {x fld : Str} {C : Addr} {e : Expr} {ta : TA} {p pos : Pos} (T : ErrI X.prog X.w X.K X.mg X.base x fld C) (hr : Room 2 X.A) (hg : Gl X x) (ha : PA X [e] ta)
    (hdb : (x == ("__debug__" : Str)) = false := by decide) (he : starEach (e :: []) X.env = (false, eval e X.env) :: starEach [] X.env := by rfl) (hpl : (backTo pos (starEach [] X.env)).any (·.1) = false := by rfl) :
    PMk X (.Call (.Name x p) [e] [] pos) (tMkO C (spInit X.K fld) [] ta) := by
  obtain ⟨fI, fd, iC, tI, b, F⟩ := T.init
  exact pmk_oex T.oex iC tI F hr b .nil pass0 hg T.g ha hdb he hpl
theorem pmk_err0 {x : Str} {C : Addr} {p pos : Pos} (T : Err0 X.K X.mg x C) (hg : Gl X x) (hdb : (x == ("__debug__" : Str)) = false := by decide) :
    PMk X (.Call (.Name x p) [] [] pos) (fun _ H Q => Q (.ref C) none H) := pmk_own0 PySem.F.excBase_ValueError T.q T.g T.k (raises_own T.exC T.tyC) hg hdb
/-- THE RULE for a def that may raise -/
theorem Top.okX {x : Str} {st : Stmt} {N ps : List Str} {k : Nat} {sp : Sp} (T : Top K mg x st ps) (S : FnScope N ps (defScope st)) (len : ∀ vs H Q E, sp vs H Q E → vs.length = ps.length)
    (hbody : ∀ (f : Addr) (cdv : Value) (A : Around) (outer : List Env) (s : Shared) (H : Hp) (vs : List V) (Q : VK) (E : XK), Room k (A.deeper (envOfC x (defScope st) s.heap.objs.size f cdv)) → sp vs H Q E →
      ∃ t, PSs (cxOf (L2.CX P w) P w K mg base N x (defScope st) f cdv A outer s H E) (defBody st) t ∧ t { nx := fun _ H' => Q .non H', rt := Q } (start N vs) H) : Has P w K mg base (L2.CX P w) (k + 1) x ps sp := by
  obtain ⟨f, fd, hm, F, b⟩ := T
  exact ⟨f, fd, hm, F.kp, b, F.okX S len fun cdv A outer s H vs Q E hr h => hbody f cdv A outer s H vs Q E hr h⟩
/-- a call of a def that may raise, in a body that lets it out -/
theorem pe_hasX {k : Nat} {x : Str} {ps : List Str} {sp : Sp} {e : Expr} {es : List Expr} {t : TA} {p pos : Pos} {E : XK} (h : Has X.prog X.w X.K X.mg X.base (L2.CX X.prog X.w) k x ps sp) (hr : Room k X.A) (hg : Gl X x) (hx : Passes (L2.CX X.prog X.w) X E) (ha : PA X (e :: es) t)
    (hdb : (x == ("__debug__" : Str)) = false := by decide) (he : starEach (e :: es) X.env = (false, eval e X.env) :: starEach es X.env := by rfl) (hpl : (backTo pos (starEach es X.env)).any (·.1) = false := by rfl) :
    PE X (.Call (.Name x p) (e :: es) [] pos) (tCall sp [] E t) := by
  obtain ⟨f, fd, hm, hk, hb, F⟩ := h
  exact pe_call F hr hg hm hk hb .nil hx ha hdb he hpl
end
/-- no error is wished for: the same def as one that raises nothing -/
theorem pe_hasL {X : Cx} {k : Nat} {x : Str} {ps : List Str} {sp : Sp} {e : Expr} {es : List Expr} {t : TA} {p pos : Pos} (h : Has X.prog X.w X.K X.mg X.base (L2.CX X.prog X.w) k x ps sp) (hr : Room k X.A) (hg : Gl X x) (ha : PA X (e :: es) t)
    (hdb : (x == ("__debug__" : Str)) = false := by decide) (he : starEach (e :: es) X.env = (false, eval e X.env) :: starEach es X.env := by rfl) (hpl : (backTo pos (starEach es X.env)).any (·.1) = false := by rfl) :
    PE X (.Call (.Name x p) (e :: es) [] pos) (tCall sp [] E0 t) := pe_hasX h hr hg passL ha hdb he hpl
end Lt

set_option linter.all false
set_option Elab.async false
/-! permutations as lists of numbers; the turns that given ones make -/
namespace Lt
def IsP (n : Nat) (t : List Nat) : Prop := t.Perm (List.range n)
instance (n : Nat) (t : List Nat) : Decidable (IsP n t) := inferInstanceAs (Decidable (t.Perm (List.range n)))
theorem IsP.len {n : Nat} {t : List Nat} (h : IsP n t) : t.length = n := by
  have e := List.Perm.length_eq h
  rw [List.length_range] at e
  exact e
theorem IsP.nd {n : Nat} {t : List Nat} (h : IsP n t) : t.Nodup := (List.Perm.nodup_iff h).mpr List.nodup_range
theorem IsP.mem {n : Nat} {t : List Nat} (h : IsP n t) {i : Nat} : i ∈ t ↔ i < n := (List.Perm.mem_iff h).trans List.mem_range
theorem IsP.lt {n : Nat} {t : List Nat} (h : IsP n t) : ∀ i ∈ t, i < n := fun i hi => h.mem.mp hi
theorem IsP.still (n : Nat) : IsP n (List.range n) := List.Perm.refl _
def prod (x y : List Nat) : List Nat := x.map fun i => y.getD i 0
theorem prod_len (x y : List Nat) : (prod x y).length = x.length := List.length_map ..
theorem map_getD_range : ∀ (y : List Nat), (List.range y.length).map (fun i => y.getD i 0) = y := fun y => by
  apply List.ext_getElem?
  intro i
  rw [List.getElem?_map]
  by_cases h : i < y.length
  · rw [List.getElem?_range h, Option.map_some, List.getD_eq_getElem?_getD, List.getElem?_eq_getElem h, Option.getD_some]
  · rw [List.getElem?_eq_none (by rw [List.length_range]; omega), List.getElem?_eq_none (by omega), Option.map_none]
theorem IsP.prod {n : Nat} {x y : List Nat} (hx : IsP n x) (hy : IsP n y) : IsP n (prod x y) := by
  have h : (Lt.prod x y).Perm ((List.range n).map fun i => y.getD i 0) := List.Perm.map _ hx
  have e := map_getD_range y
  rw [hy.len] at e
  rw [e] at h
  exact h.trans hy
theorem prod_still_l {n : Nat} {x : List Nat} (hx : x.length = n) : prod (List.range n) x = x := by
  subst hx
  exact map_getD_range x
theorem getD_range {n i : Nat} (h : i < n) : (List.range n).getD i 0 = i := by
  rw [List.getD_eq_getElem?_getD, List.getElem?_range h, Option.getD_some]
theorem prod_still_r {n : Nat} {x : List Nat} (hx : ∀ i ∈ x, i < n) : prod x (List.range n) = x := by
  unfold prod
  refine (List.map_congr_left (g := id) fun i hi => ?_).trans (List.map_id x)
  exact getD_range (hx i hi)
theorem prod_assoc {x y z : List Nat} (hx : ∀ i ∈ x, i < y.length) : prod (prod x y) z = prod x (prod y z) := by
  unfold prod
  rw [List.map_map]
  refine List.map_congr_left fun i hi => ?_
  show z.getD (y.getD i 0) 0 = (y.map fun i => z.getD i 0).getD i 0
  rw [List.getD_eq_getElem?_getD (l := y.map _), List.getElem?_map, List.getD_eq_getElem?_getD (l := y), List.getElem?_eq_getElem (hx i hi)]
  rfl
def inv (t : List Nat) : List Nat := (List.range t.length).map fun p => t.idxOf p
theorem map_idxOf {t : List Nat} (h : t.Nodup) : t.map (fun p => t.idxOf p) = List.range t.length := by
  apply List.ext_getElem?
  intro i
  rw [List.getElem?_map]
  by_cases hi : i < t.length
  · rw [List.getElem?_range hi, List.getElem?_eq_getElem hi, Option.map_some, h.idxOf_getElem i hi]
  · rw [List.getElem?_eq_none (by omega), List.getElem?_eq_none (by rw [List.length_range]; omega), Option.map_none]
theorem IsP.inv {n : Nat} {t : List Nat} (h : IsP n t) : IsP n (inv t) := by
  have e := map_idxOf h.nd
  rw [h.len] at e
  have h2 : ((List.range n).map fun p => t.idxOf p).Perm (t.map fun p => t.idxOf p) := List.Perm.map _ (List.Perm.symm h)
  rw [e] at h2
  unfold IsP Lt.inv
  rw [h.len]
  exact h2
theorem prod_inv_r {n : Nat} {t : List Nat} (h : IsP n t) : prod t (inv t) = List.range n := by
  have e : prod t (inv t) = t.map fun p => t.idxOf p := by
    unfold prod
    refine List.map_congr_left fun p hp => ?_
    have hl : p < t.length := by rw [h.len]; exact h.lt p hp
    show ((List.range t.length).map fun p => t.idxOf p).getD p 0 = t.idxOf p
    rw [List.getD_eq_getElem?_getD, List.getElem?_map, List.getElem?_range hl]
    rfl
  rw [e, map_idxOf h.nd, h.len]
theorem prod_inv_l {n : Nat} {t : List Nat} (h : IsP n t) : prod (inv t) t = List.range n := by
  unfold prod inv
  rw [List.map_map, h.len]
  refine (List.map_congr_left (g := id) fun p hp => ?_).trans (List.map_id _)
  have hm : p ∈ t := h.mem.mpr (List.mem_range.mp hp)
  show t.getD (t.idxOf p) 0 = p
  rw [List.getD_eq_getElem?_getD, List.getElem?_eq_getElem (List.idxOf_lt_length_of_mem hm), Option.getD_some, List.getElem_idxOf]
/-! ### the turns that makers make, one behind another -/
abbrev W := List Nat × List Nat
/-- the words behind one turn with the makers gs, the first of which stands at place p -/
def grow (t w : List Nat) : List (List Nat) → Nat → List W → List W
  | [], _, L => L
  | g :: gs, p, L => grow t w gs (p + 1) (if prod t g ∈ L.map (·.1) then L else L ++ [(prod t g, w ++ [p])])
/-- the words when the first k have been gone through -/
def qq (gs : List (List Nat)) (n : Nat) : Nat → List W
  | 0 => [(List.range n, [])]
  | k + 1 => match (qq gs n k)[k]? with
    | none => qq gs n k
    | some (t, w) => grow t w gs 0 (qq gs n k)
theorem grow_pre (t w : List Nat) : ∀ (gs : List (List Nat)) (p : Nat) (L : List W), ∃ M, grow t w gs p L = L ++ M
  | [], _, L => ⟨[], (List.append_nil L).symm⟩
  | g :: gs, p, L => by
    show ∃ M, grow t w gs (p + 1) (if prod t g ∈ L.map (·.1) then L else L ++ [(prod t g, w ++ [p])]) = L ++ M
    split
    · exact grow_pre t w gs (p + 1) L
    · obtain ⟨M, e⟩ := grow_pre t w gs (p + 1) (L ++ [(prod t g, w ++ [p])])
      exact ⟨[(prod t g, w ++ [p])] ++ M, by rw [e, List.append_assoc]⟩
theorem qq_pre (gs : List (List Nat)) (n : Nat) : ∀ k, ∃ M, qq gs n (k + 1) = qq gs n k ++ M := fun k => by
  show ∃ M, (match (qq gs n k)[k]? with
    | none => qq gs n k
    | some (t, w) => grow t w gs 0 (qq gs n k)) = qq gs n k ++ M
  split
  · exact ⟨[], (List.append_nil _).symm⟩
  · exact grow_pre _ _ _ _ _
theorem qq_pre' (gs : List (List Nat)) (n k : Nat) : ∀ j, ∃ M, qq gs n (k + j) = qq gs n k ++ M
  | 0 => ⟨[], (List.append_nil _).symm⟩
  | j + 1 => by
    obtain ⟨M, e⟩ := qq_pre' gs n k j
    obtain ⟨M', e'⟩ := qq_pre gs n (k + j)
    exact ⟨M ++ M', by rw [← List.append_assoc, ← e, ← e']; rfl⟩
theorem qq_mono (gs : List (List Nat)) (n : Nat) {k m : Nat} (h : k ≤ m) : ∃ M, qq gs n m = qq gs n k ++ M := by
  obtain ⟨M, e⟩ := qq_pre' gs n k (m - k)
  rw [show k + (m - k) = m by omega] at e
  exact ⟨M, e⟩
/-- at the end nothing more comes -/
theorem qq_end (gs : List (List Nat)) (n : Nat) {k : Nat} (h : (qq gs n k).length ≤ k) : ∀ j, qq gs n (k + j) = qq gs n k
  | 0 => rfl
  | j + 1 => by
    have ih := qq_end gs n h j
    show (match (qq gs n (k + j))[k + j]? with
      | none => qq gs n (k + j)
      | some (t, w) => grow t w gs 0 (qq gs n (k + j))) = qq gs n k
    rw [ih, List.getElem?_eq_none (by omega)]
theorem qq_end' (gs : List (List Nat)) (n : Nat) {k m : Nat} (h : (qq gs n k).length ≤ k) (hm : k ≤ m) : qq gs n m = qq gs n k := by
  have e := qq_end gs n h (m - k)
  rw [show k + (m - k) = m by omega] at e
  exact e
theorem grow_keys (t w : List Nat) : ∀ (gs : List (List Nat)) (p : Nat) (L : List W) (x : List Nat), x ∈ (grow t w gs p L).map (·.1) ↔ x ∈ L.map (·.1) ∨ ∃ g ∈ gs, x = prod t g
  | [], _, L, x => by
    show x ∈ L.map (·.1) ↔ _
    simp
  | g :: gs, p, L, x => by
    show x ∈ (grow t w gs (p + 1) (if prod t g ∈ L.map (·.1) then L else L ++ [(prod t g, w ++ [p])])).map (·.1) ↔ _
    rw [grow_keys t w gs (p + 1)]
    split
    · rename_i h
      constructor
      · rintro (h1 | ⟨g', hg, e⟩)
        · exact .inl h1
        · exact .inr ⟨g', List.mem_cons_of_mem _ hg, e⟩
      · rintro (h1 | ⟨g', hg, e⟩)
        · exact .inl h1
        · rcases List.mem_cons.mp hg with z | hg
          · subst z
            rw [e]
            exact .inl h
          · exact .inr ⟨g', hg, e⟩
    · rw [List.map_append, List.mem_append]
      constructor
      · rintro ((h1 | h1) | ⟨g', hg, e⟩)
        · exact .inl h1
        · exact .inr ⟨g, List.mem_cons_self, List.mem_singleton.mp h1⟩
        · exact .inr ⟨g', List.mem_cons_of_mem _ hg, e⟩
      · rintro (h1 | ⟨g', hg, e⟩)
        · exact .inl (.inl h1)
        · rcases List.mem_cons.mp hg with z | hg
          · subst z
            exact .inl (.inr (List.mem_singleton.mpr e))
          · exact .inr ⟨g', hg, e⟩
theorem nodup_snoc {α : Type} {l : List α} {x : α} (h : l.Nodup) (hx : x ∉ l) : (l ++ [x]).Nodup :=
  List.nodup_append.mpr ⟨h, List.pairwise_singleton _ _, fun a ha b hb e => by
    rw [List.mem_singleton.mp hb] at e
    exact hx (e ▸ ha)⟩
theorem grow_nd (t w : List Nat) : ∀ (gs : List (List Nat)) (p : Nat) (L : List W), (L.map (·.1)).Nodup → ((grow t w gs p L).map (·.1)).Nodup
  | [], _, _, h => h
  | g :: gs, p, L, h => by
    refine grow_nd t w gs (p + 1) _ ?_
    split
    · exact h
    · rename_i hx
      rw [List.map_append]
      exact nodup_snoc h hx
theorem qq_nd (gs : List (List Nat)) (n : Nat) : ∀ k, ((qq gs n k).map (·.1)).Nodup
  | 0 => List.pairwise_singleton _ _
  | k + 1 => by
    show ((match (qq gs n k)[k]? with
      | none => qq gs n k
      | some (t, w) => grow t w gs 0 (qq gs n k)).map (fun x : W => x.1)).Nodup
    split
    · exact qq_nd gs n k
    · exact grow_nd _ _ _ _ _ (qq_nd gs n k)
/-- what the makers make -/
inductive Mk (gs : List (List Nat)) (n : Nat) : List Nat → Prop
  | still : Mk gs n (List.range n)
  | step {t g : List Nat} : Mk gs n t → g ∈ gs → Mk gs n (prod t g)
theorem Mk.isP {gs : List (List Nat)} {n : Nat} (hg : ∀ g ∈ gs, IsP n g) {t : List Nat} (h : Mk gs n t) : IsP n t := by
  induction h with
  | still => exact IsP.still n
  | step _ hm ih => exact ih.prod (hg _ hm)
theorem qq_mk (gs : List (List Nat)) (n : Nat) : ∀ k, ∀ t ∈ (qq gs n k).map (·.1), Mk gs n t
  | 0, t, h => by
    rw [List.mem_singleton.mp (show t ∈ [List.range n] from h)]
    exact .still
  | k + 1, t, h => by
    have ih := qq_mk gs n k
    have h' : t ∈ (match (qq gs n k)[k]? with
      | none => qq gs n k
      | some (t, w) => grow t w gs 0 (qq gs n k)).map (fun x : W => x.1) := h
    split at h'
    · exact ih t h'
    · rename_i t0 w0 e
      rcases (grow_keys t0 w0 gs 0 _ t).mp h' with z | ⟨g, hg, z⟩
      · exact ih t z
      · rw [z]
        exact .step (ih t0 (List.mem_map.mpr ⟨_, List.mem_of_getElem? e, rfl⟩)) hg
theorem qq_head (gs : List (List Nat)) (n k : Nat) : (List.range n, ([] : List Nat)) ∈ qq gs n k := by
  obtain ⟨M, e⟩ := qq_mono gs n (Nat.zero_le k)
  rw [e]
  exact List.mem_append.mpr (.inl (List.mem_singleton.mpr rfl))
/-- where the words are all gone through, they are all that is made -/
theorem qq_full {gs : List (List Nat)} {n k : Nat} (h : (qq gs n k).length ≤ k) : ∀ t, t ∈ (qq gs n k).map (·.1) ↔ Mk gs n t := fun t => by
  refine ⟨qq_mk gs n k t, fun m => ?_⟩
  induction m with
  | still => exact List.mem_map.mpr ⟨_, qq_head gs n k, rfl⟩
  | @step t g _ hg ih =>
    obtain ⟨⟨t', w'⟩, hm, e⟩ := List.mem_map.mp ih
    have e : t' = t := e
    subst e
    obtain ⟨i, hi, ei⟩ := List.getElem_of_mem hm
    -- position i was gone through at turn i
    have hk : i + 1 ≤ k := by omega
    obtain ⟨M, eM⟩ := qq_mono gs n hk
    obtain ⟨M0, eM0⟩ := qq_mono gs n (show i ≤ i + 1 by omega)
    by_cases hq : i < (qq gs n i).length
    · have g1 : (qq gs n i)[i]? = some (t', w') := by
        have z : (qq gs n k)[i]? = some (t', w') := by rw [List.getElem?_eq_getElem hi, ei]
        rw [eM, eM0, List.append_assoc, List.getElem?_append_left hq] at z
        exact z
      have g2 : qq gs n (i + 1) = grow t' w' gs 0 (qq gs n i) := by
        show (match (qq gs n i)[i]? with
          | none => qq gs n i
          | some (t, w) => grow t w gs 0 (qq gs n i)) = _
        rw [g1]
      rw [eM, List.map_append, List.mem_append]
      refine .inl ?_
      rw [g2]
      exact (grow_keys t' w' gs 0 _ _).mpr (.inr ⟨g, hg, rfl⟩)
    · have z := qq_end' gs n (show (qq gs n i).length ≤ i by omega) (show i ≤ k by omega)
      rw [z] at hi
      exact absurd hi hq
theorem nodup_len {α : Type} [DecidableEq α] : ∀ (l D : List α), l.Nodup → (∀ x ∈ l, x ∈ D) → l.length ≤ D.length
  | [], _, _, _ => Nat.zero_le _
  | x :: l, D, hn, hs => by
    obtain ⟨h1, h2⟩ := List.nodup_cons.mp hn
    have hx : x ∈ D := hs x List.mem_cons_self
    have ih := nodup_len l (D.erase x) h2 fun y hy => by
      have hne : y ≠ x := fun e => h1 (e ▸ hy)
      exact (List.mem_erase_of_ne hne).2 (hs y (List.mem_cons_of_mem _ hy))
    have e := List.length_erase_of_mem hx
    have hp : 0 < D.length := List.length_pos_of_mem hx
    show l.length + 1 ≤ D.length
    omega
/-- few turns are made: at most m -/
def Few (gs : List (List Nat)) (n m : Nat) : Prop := ∃ D : List (List Nat), D.length ≤ m ∧ ∀ t, Mk gs n t → t ∈ D
theorem Few.le {gs : List (List Nat)} {n m : Nat} (h : Few gs n m) {l : List (List Nat)} (hn : l.Nodup) (hl : ∀ t ∈ l, Mk gs n t) : l.length ≤ m := by
  obtain ⟨D, h1, h2⟩ := h
  exact Nat.le_trans (nodup_len l D hn fun t ht => h2 t (hl t ht)) h1
theorem Few.qq {gs : List (List Nat)} {n m : Nat} (h : Few gs n m) (k : Nat) : (qq gs n k).length ≤ m := by
  have z := h.le (qq_nd gs n k) (qq_mk gs n k)
  rw [List.length_map] at z
  exact z
end Lt

set_option Elab.async false
set_option linter.all false
set_option maxRecDepth 100000
set_option maxHeartbeats 4000000
namespace Lt
open PySem PySem.Spec PyProof.Rows L2
/-- the built-in names that the module leaves as they are -/
structure Bi (mg : Str → Option Value) : Prop where
  tuple : mg "tuple" = none
  list : mg "list" = none
  range : mg "range" = none
  len : mg "len" = none
  sorted : mg "sorted" = none
  enumerate : mg "enumerate" = none
  isinstance : mg "isinstance" = none
  all : mg "all" = none
  set : mg "set" = none
  int : mg "int" = none
  bool : mg "bool" = none
  str : mg "str" = none
/-! ### comprehensions -/
section
variable {K : PySem.W.Frag} {te : TE} {vs : List Nat} {σ : L2.St} {H1 : Hp} {D : Addr} {Qd : Hp → Prop} {β : Type} {j : Nat}
/-- what a comprehension's list holds after i turns -/
def Cm (H1 : Hp) (D : Addr) (R : Hp → V → β → Prop) (ys : List β) (i : Nat) (H : Hp) : Prop := Same H1 H ∧ ∃ zs, H D = some (.lst zs) ∧ Paired (R H) zs (ys.take i) ∧ zs.length ≤ i
theorem paired_mono {α γ : Type} {R R' : α → γ → Prop} (h : ∀ a b, R a b → R' a b) : ∀ {xs : List α} {ys : List γ}, Paired R xs ys → Paired R' xs ys
  | _, _, .nil => .nil
  | _, _, .cons r t => .cons (h _ _ r) (paired_mono h t)
theorem cm_turn {R : Hp → V → β → Prop} {ys : List β} {i : Nat} {H : Hp} {σ2 : L2.St} (mono : ∀ H H' v b, Tm H H' → R H v b → R H' v b) (hD : H1 D = none) (p : Cm H1 D R ys i H) (hi : i < 100000) {b : β} (hb : ys[i]? = some b)
    (he : ∀ H, Same H1 H → ∀ Q : VK, (∀ v H', Same H H' → R H' v b → Q v H') → te σ2 H Q) :
    te σ2 H fun y H4 => ∃ acc, H4 D = some (.lst acc) ∧ acc.length < sizeLine ∧ Cm H1 D R ys (i + 1) (upd H4 D (.lst (acc ++ [y]))) := by
  obtain ⟨sm, zs, hz, pr, hl⟩ := p
  refine he H sm _ fun v H4 s4 r => ?_
  have h4 := s4 _ _ hz
  have t4 : Tm H4 (upd H4 D (.lst (zs ++ [v]))) := Tm.lst h4
  refine ⟨zs, h4, Nat.lt_of_le_of_lt hl (Nat.lt_of_lt_of_le hi (by decide)), same_mut (sm.trans s4) hD, zs ++ [v], upd_same, ?_, by rw [List.length_append]; show zs.length + 1 ≤ i + 1; omega⟩
  rw [List.take_add_one, hb]
  exact Paired.app (paired_mono (fun a b q => mono _ _ _ _ ((Tm.of s4).trans t4) q) pr) (Paired.one (mono _ _ _ _ t4 r))
theorem lc_tupM {a : Addr} {xs : List V} (R : Hp → V → β → Prop) (ys : List β) (mono : ∀ H H' v b, Tm H H' → R H v b → R H' v b) (hx : SqT K H1 a xs) (hxK : ∀ H, Same H1 H → SqT K H a xs) (hz : xs.length ≤ 100000) (hy : ys.length = xs.length) (hD : H1 D = none)
    (hw : ∀ x, wipe ((wipe σ vs).set j (some x)) vs = wipe σ vs)
    (he : ∀ (i : Nat) (x : V) (b : β), xs[i]? = some x → ys[i]? = some b → ∀ H, Same H1 H → ∀ Q : VK, (∀ v H', Same H H' → R H' v b → Q v H') → te ((wipe σ vs).set j (some x)) H Q)
    (hd : ∀ H zs, Same H1 H → H D = some (.lst zs) → Paired (R H) zs ys → Qd H) :
    ∃ W : Nat → Nat → Hp → Prop, (∃ m, W 0 m (upd H1 D (.lst []))) ∧ ∀ i m H, W i m H →
      ((Itt K a).stop i H ∧ Qd H) ∨ ((Itt K a).go i H ∧ ∃ Nx : Hp → Prop, (∀ H', Nx H' → ∃ m', m' < m ∧ W (i + 1) m' H') ∧ ∀ x H', (Itt K a).yld i H x H' → gName j x (wipe σ vs) H' fun σ2 H2 => wipe σ2 vs = wipe σ vs ∧ tYes σ2 H2 fun b H3 =>
        if b = true then te σ2 H3 fun y H4 => ∃ acc, H4 D = some (.lst acc) ∧ acc.length < sizeLine ∧ Nx (upd H4 D (.lst (acc ++ [y]))) else Nx H3) :=
  lc_tup (xs := xs) (Cm H1 D R ys) ⟨same_new hD, [], upd_same, .nil, Nat.le_refl _⟩ (fun i H _ p => hxK H p.1)
    (fun i x H hi p => ⟨hw x, iteT (B := Cm H1 D R ys (i + 1) H) (by
      have hl := (List.getElem?_eq_some_iff.mp hi).1
      have hb : ys[i]? = some (ys[i]'(by omega)) := List.getElem?_eq_getElem (by omega)
      exact cm_turn mono hD p (by omega) hb (he i x _ hi hb))⟩)
    (fun H p => by
      obtain ⟨sm, zs, h1, pr, _⟩ := p
      rw [← hy, List.take_length] at pr
      exact hd H zs sm h1 pr)
theorem lc_rangeM {n : Nat} (R : Hp → V → β → Prop) (ys : List β) (mono : ∀ H H' v b, Tm H H' → R H v b → R H' v b) (hz : n ≤ 100000) (hy : ys.length = n) (hD : H1 D = none)
    (hw : ∀ x, wipe ((wipe σ vs).set j (some x)) vs = wipe σ vs)
    (he : ∀ (i : Nat) (b : β), i < n → ys[i]? = some b → ∀ H, Same H1 H → ∀ Q : VK, (∀ v H', Same H H' → R H' v b → Q v H') → te ((wipe σ vs).set j (some (.int ((0 : Int) + (i : Nat))))) H Q)
    (hd : ∀ H zs, Same H1 H → H D = some (.lst zs) → Paired (R H) zs ys → Qd H) :
    ∃ W : Nat → Nat → Hp → Prop, (∃ m, W 0 m (upd H1 D (.lst []))) ∧ ∀ i m H, W i m H →
      ((Itr 0 n).stop i H ∧ Qd H) ∨ ((Itr 0 n).go i H ∧ ∃ Nx : Hp → Prop, (∀ H', Nx H' → ∃ m', m' < m ∧ W (i + 1) m' H') ∧ ∀ x H', (Itr 0 n).yld i H x H' → gName j x (wipe σ vs) H' fun σ2 H2 => wipe σ2 vs = wipe σ vs ∧ tYes σ2 H2 fun b H3 =>
        if b = true then te σ2 H3 fun y H4 => ∃ acc, H4 D = some (.lst acc) ∧ acc.length < sizeLine ∧ Nx (upd H4 D (.lst (acc ++ [y]))) else Nx H3) :=
  lc_range (lo := 0) (n := n) (Cm H1 D R ys) ⟨same_new hD, [], upd_same, .nil, Nat.le_refl _⟩
    (fun i H hi p => ⟨hw _, iteT (B := Cm H1 D R ys (i + 1) H) (by
      have hb : ys[i]? = some (ys[i]'(by omega)) := List.getElem?_eq_getElem (by omega)
      exact cm_turn mono hD p (by omega) hb (he i _ hi hb))⟩)
    (fun H p => by
      obtain ⟨sm, zs, h1, pr, _⟩ := p
      rw [← hy, List.take_length] at pr
      exact hd H zs sm h1 pr)
end
/-- a new tuple of numbers -/
theorem tn_of {H : Hp} {zs : List V} {p : Addr} {t : List Nat} (h : H p = some (.tup zs)) (e : zs = nIs t) : TK H (.ref p) t := ⟨p, rfl, by rw [h, e]⟩
def RN (_ : Hp) (v : V) (n : Nat) : Prop := v = nI n
theorem RN.all {H : Hp} : ∀ {zs : List V} {t : List Nat}, Paired (RN H) zs t → zs = nIs t
  | _, _, .nil => rfl
  | _, _, .cons r t => by rw [(show _ = nI _ from r), RN.all t]; rfl
end Lt

set_option Elab.async false
set_option linter.all false
set_option maxRecDepth 100000
set_option maxHeartbeats 4000000
namespace Lt
open PySem PySem.Spec PyProof.Rows L2
section
variable {P : Program} {w : World} {K : PySem.W.Frag} {mg : Str → Option Value} {base : Heap}
/-! ### product_of -/
def spProd : Sp := fun vs H Q _ => ∃ (a b : V) (x y : List Nat), vs = [a, b] ∧ TN H a x ∧ TN H b y ∧ (∀ i ∈ x, i < y.length) ∧ x.length ≤ 1000 ∧ ∀ v H', Same H H' → TK H' v (prod x y) → Q v H'
theorem sc_product_of : FnScope ["one", "other", "place"] ["one", "other"] (defScope s_product_of) := ⟨rfl, rfl, rfl, by decide +kernel, rfl, by decide +kernel, by decide +kernel⟩
theorem has_product_of (T : Top K mg "product_of" s_product_of ["one", "other"]) (B : Bi mg) : Has P w K mg base CX0 1 "product_of" ["one", "other"] spProd := by
  refine T.ok sc_product_of (fun vs H Q E h => ?_) (fun f cdv A outer s H vs Q E hr h => ?_)
  · obtain ⟨a, b, x, y, rfl, _⟩ := h
    rfl
  · obtain ⟨a, b, x, y, rfl, ha, hb, hxy, hx, q⟩ := h
    refine ⟨_, pss_one (ps_ret (pe_tupleOf (by rfl) B.tuple (pe_lc (own := [("place", 2)]) (g := gName 2) (te := tOp (rIxT K) (tVar 1) (tVar 2)) (by rfl) sc_product_of.nd (pi_tup (pv 0)) (blkOk_by (own := [("place", 2)]) (N := ["one", "other", "place"]) (sc := defScope s_product_of) (by decide +kernel))
      (fun _ _ _ _ _ => pg_name (i := 2) sc_product_of.nd rfl (Or.inl rfl)) (fun _ _ _ _ _ => pts_nil) (fun _ _ _ _ _ => pe_ix ix_tup (pv 1) (pv 2) (fun _ _ => rfl))))), ?_⟩
    obtain ⟨pa, rfl, ea⟩ := ha
    obtain ⟨pb, rfl, eb⟩ := hb
    refine ⟨_, rfl, pa, rfl, ⟨_, ea.sq⟩, fun D hD => lc_tupM RN (prod x y) (fun _ _ _ _ _ r => r) (ea.sq) (fun H' sm => (ea.sm sm).sq) (by rw [nIs_len]; omega) (by rw [prod_len, nIs_len]) hD (fun x => rfl) (fun i v n hi hn H' sm Q' q' => ?_) (fun H' zs sm hz pr => ?_)⟩
    · rw [nIs_get] at hi
      obtain ⟨m, hm, rfl⟩ := Option.map_eq_some_iff.mp hi
      have hlt := hxy m (List.mem_of_getElem? hm)
      have e : n = y.getD m 0 := by
        have z : (prod x y)[i]? = some (y.getD m 0) := by
          unfold prod
          rw [List.getElem?_map, hm]
          rfl
        exact Option.some.inj (hn.symm.trans z)
      refine ⟨_, rfl, _, rfl, pb, _, _, nI n, rfl, rfl, (eb.sm sm).sq, atI_nat ?_, q' _ _ (Same.refl _) rfl⟩
      rw [nIs_get, e, List.getD_eq_getElem?_getD, List.getElem?_eq_getElem hlt]
      rfl
    · refine .inl ⟨D, zs, rfl, SqL.of hz, fun p hp => q _ _ (sm.trans (same_new hp)) (tn_of upd_same (RN.all pr))⟩
/-! ### still_of -/
def spStill : Sp := fun vs H Q _ => ∃ (n : Nat), vs = [nI n] ∧ n ≤ 1000 ∧ ∀ v H', Same H H' → TK H' v (List.range n) → Q v H'
theorem sc_still_of : FnScope ["size"] ["size"] (defScope s_still_of) := ⟨rfl, rfl, rfl, by decide +kernel, rfl, by decide +kernel, by decide +kernel⟩
theorem rgV_nat (n : Nat) : rgV 0 (n : Int) = nIs (List.range n) := by
  unfold rgV nIs
  have e : ((n : Int) - 0).toNat = n := by omega
  rw [e]
  refine List.map_congr_left fun i _ => ?_
  show V.int (0 + (i : Int)) = V.int (i : Int)
  rw [Int.zero_add]
theorem has_still_of (T : Top K mg "still_of" s_still_of ["size"]) (B : Bi mg) : Has P w K mg base CX0 1 "still_of" ["size"] spStill := by
  refine T.ok sc_still_of (fun vs H Q E h => ?_) (fun f cdv A outer s H vs Q E hr h => ?_)
  · obtain ⟨n, rfl, _⟩ := h
    rfl
  · obtain ⟨n, rfl, hn, q⟩ := h
    refine ⟨_, pss_one (ps_ret (pe_tupRg (by rfl) (by rfl) B.tuple (prg_1 (by rfl) B.range (pv 0)))), ?_⟩
    refine ⟨_, rfl, _, rfl, .of_le (by omega) (by omega) (by omega) (by omega), fun p hp => q _ _ (same_new hp) (tn_of upd_same (rgV_nat n))⟩
end
end Lt

set_option Elab.async false
set_option linter.all false
set_option maxRecDepth 100000
set_option maxHeartbeats 4000000
namespace Lt
open PySem PySem.Spec PyProof.Rows L2
/-! ### any plain value -/
mutual
inductive Rp (H : Hp) : V → PyData → Prop
  | non : Rp H .non .none
  | bl (b : Bool) : Rp H (.bl b) (.bool b)
  | int (i : Int) : Rp H (.int i) (.int i)
  | str (x : Str) : Rp H (.str x) (.str x)
  | lst {a : Addr} {xs : List V} {ds : List PyData} : H a = some (.lst xs) → RpAll H xs ds → Rp H (.ref a) (.list ds)
  | tup {a : Addr} {xs : List V} {ds : List PyData} : RT H a xs → RpAll H xs ds → Rp H (.ref a) (.tuple ds)
inductive RpAll (H : Hp) : List V → List PyData → Prop
  | nil : RpAll H [] []
  | cons {v : V} {vs : List V} {d : PyData} {ds : List PyData} : Rp H v d → RpAll H vs ds → RpAll H (v :: vs) (d :: ds)
end
mutual
theorem Rp.same {H H' : Hp} (e : Same H H') : ∀ (d : PyData) (v : V), Rp H v d → Rp H' v d
  | .none, _, .non => .non
  | .bool _, _, .bl b => .bl b
  | .int _, _, .int i => .int i
  | .str _, _, .str i => .str i
  | .list ds, _, .lst h a => .lst (e _ _ h) (RpAll.same e ds _ a)
  | .tuple ds, _, .tup h a => .tup (h.sm e) (RpAll.same e ds _ a)
theorem RpAll.same {H H' : Hp} (e : Same H H') : ∀ (ds : List PyData) (vs : List V), RpAll H vs ds → RpAll H' vs ds
  | [], _, .nil => .nil
  | d :: ds, _, .cons r t => .cons (Rp.same e d _ r) (RpAll.same e ds _ t)
end
mutual
theorem Rp.dp {K : PySem.W.Frag} {H : Hp} : ∀ (d : PyData) (v : V), Rp H v d → Dp K H v d
  | .none, _, .non => .non
  | .bool _, _, .bl b => .bl b
  | .int _, _, .int i => .int i
  | .str _, _, .str i => .str i
  | .list ds, _, .lst h a => .lst (SqL.of h) (RpAll.dp ds _ a)
  | .tuple ds, _, .tup h a => .tup h.sq (RpAll.dp ds _ a)
theorem RpAll.dp {K : PySem.W.Frag} {H : Hp} : ∀ (ds : List PyData) (vs : List V), RpAll H vs ds → DpAll K H vs ds
  | [], _, .nil => .nil
  | d :: ds, _, .cons r t => .cons (Rp.dp d _ r) (RpAll.dp ds _ t)
end
theorem RpAll.get {H : Hp} : ∀ {ds : List PyData} {vs : List V} {i : Nat} {v : V}, RpAll H vs ds → vs[i]? = some v → ∃ d, ds[i]? = some d ∧ Rp H v d
  | _, _, _, _, .nil, e => by simp at e
  | _, _, 0, _, .cons r _, e => by
    have e := Option.some.inj e
    subst e
    exact ⟨_, rfl, r⟩
  | _, _, i + 1, v, .cons _ t, e => by
    obtain ⟨d, h1, h2⟩ := RpAll.get (i := i) (v := v) t (by simpa using e)
    exact ⟨d, by simpa using h1, h2⟩
theorem RpAll.len {H : Hp} : ∀ {ds : List PyData} {vs : List V}, RpAll H vs ds → vs.length = ds.length
  | _, _, .nil => rfl
  | _, _, .cons _ t => by rw [List.length_cons, List.length_cons, RpAll.len t]
theorem rp_nats {H : Hp} : ∀ t : List Nat, RpAll H (nIs t) (t.map dN)
  | [] => .nil
  | n :: t => .cons (.int _) (rp_nats t)
theorem TN.rp {H : Hp} {v : V} {t : List Nat} (h : TN H v t) : Rp H v (dT t) := by
  obtain ⟨a, rfl, ha⟩ := h
  exact .tup ha (rp_nats t)
theorem TNs.rp {H : Hp} : ∀ {xs : List V} {ts : List (List Nat)}, Paired (TN H) xs ts → RpAll H xs (ts.map dT)
  | _, _, .nil => .nil
  | _, _, .cons r t => .cons r.rp (TNs.rp t)
theorem TT.rp {H : Hp} {v : V} {ts : List (List Nat)} (h : TT H v ts) : Rp H v (.tuple (ts.map dT)) := by
  obtain ⟨a, xs, rfl, ha, p⟩ := h
  exact .tup (.inl ha) (TNs.rp p)
def tyN : PyData → String
  | .none => "NoneType"
  | .bool _ => "bool"
  | .int _ => "int"
  | .str _ => "str"
  | .list _ => "list"
  | .tuple _ => "tuple"
  | .dict _ => "dict"
theorem rp_ty {K : PySem.W.Frag} {H : Hp} {v : V} {d : PyData} (h : Rp H v d) : TyX K H v (.type (tyN d)) := by
  cases h with
  | non => exact .base .non
  | bl b => exact .base (.bl b)
  | int b => exact .base (.int b)
  | str b => exact .base (.str b)
  | lst h _ => exact .base (.lst h)
  | tup h _ =>
    rcases h with h | ⟨o, h⟩
    · exact .base (.tup h)
    · exact .fTuple h
def isIntB : PyData → Bool
  | .int _ => true
  | .bool _ => true
  | _ => false
def isBl : PyData → Bool
  | .bool _ => true
  | _ => false
def isTup : PyData → Bool
  | .tuple _ => true
  | _ => false
def isLst : PyData → Bool
  | .list _ => true
  | _ => false
def isStr : PyData → Bool
  | .str _ => true
  | _ => false
def isNum : PyData → Bool
  | .int _ => true
  | _ => false
theorem kit_int : ∀ d : PyData, kitB (tyN d) "int" = some (isIntB d)
  | .none => (by decide +kernel : kitB "NoneType" "int" = some false)
  | .bool _ => (by decide +kernel : kitB "bool" "int" = some true)
  | .int _ => (by decide +kernel : kitB "int" "int" = some true)
  | .str _ => (by decide +kernel : kitB "str" "int" = some false)
  | .list _ => (by decide +kernel : kitB "list" "int" = some false)
  | .tuple _ => (by decide +kernel : kitB "tuple" "int" = some false)
  | .dict _ => (by decide +kernel : kitB "dict" "int" = some false)
theorem kit_bool : ∀ d : PyData, kitB (tyN d) "bool" = some (isBl d)
  | .none => (by decide +kernel : kitB "NoneType" "bool" = some false)
  | .bool _ => (by decide +kernel : kitB "bool" "bool" = some true)
  | .int _ => (by decide +kernel : kitB "int" "bool" = some false)
  | .str _ => (by decide +kernel : kitB "str" "bool" = some false)
  | .list _ => (by decide +kernel : kitB "list" "bool" = some false)
  | .tuple _ => (by decide +kernel : kitB "tuple" "bool" = some false)
  | .dict _ => (by decide +kernel : kitB "dict" "bool" = some false)
theorem kit_tup : ∀ d : PyData, kitB (tyN d) "tuple" = some (isTup d)
  | .none => (by decide +kernel : kitB "NoneType" "tuple" = some false)
  | .bool _ => (by decide +kernel : kitB "bool" "tuple" = some false)
  | .int _ => (by decide +kernel : kitB "int" "tuple" = some false)
  | .str _ => (by decide +kernel : kitB "str" "tuple" = some false)
  | .list _ => (by decide +kernel : kitB "list" "tuple" = some false)
  | .tuple _ => (by decide +kernel : kitB "tuple" "tuple" = some true)
  | .dict _ => (by decide +kernel : kitB "dict" "tuple" = some false)
theorem kit_lst : ∀ d : PyData, kitB (tyN d) "list" = some (isLst d)
  | .none => (by decide +kernel : kitB "NoneType" "list" = some false)
  | .bool _ => (by decide +kernel : kitB "bool" "list" = some false)
  | .int _ => (by decide +kernel : kitB "int" "list" = some false)
  | .str _ => (by decide +kernel : kitB "str" "list" = some false)
  | .list _ => (by decide +kernel : kitB "list" "list" = some true)
  | .tuple _ => (by decide +kernel : kitB "tuple" "list" = some false)
  | .dict _ => (by decide +kernel : kitB "dict" "list" = some false)
theorem kit_str : ∀ d : PyData, kitB (tyN d) "str" = some (isStr d)
  | .none => (by decide +kernel : kitB "NoneType" "str" = some false)
  | .bool _ => (by decide +kernel : kitB "bool" "str" = some false)
  | .int _ => (by decide +kernel : kitB "int" "str" = some false)
  | .str _ => (by decide +kernel : kitB "str" "str" = some true)
  | .list _ => (by decide +kernel : kitB "list" "str" = some false)
  | .tuple _ => (by decide +kernel : kitB "tuple" "str" = some false)
  | .dict _ => (by decide +kernel : kitB "dict" "str" = some false)
theorem rr_ty (n : String) : RelV (.ty n) (.type n) := rfl
section
variable {P : Program} {w : World} {K : PySem.W.Frag} {mg : Str → Option Value} {base : Heap}
/-! ### is_number -/
def spNum : Sp := fun vs H Q _ => ∃ (v : V) (d : PyData), vs = [v] ∧ Rp H v d ∧ Q (.bl (isNum d)) H
theorem sc_is_number : FnScope ["value"] ["value"] (defScope s_is_number) := ⟨rfl, rfl, rfl, by decide +kernel, rfl, by decide +kernel, by decide +kernel⟩
theorem has_is_number (T : Top K mg "is_number" s_is_number ["value"]) (B : Bi mg) : Has P w K mg base CX0 1 "is_number" ["value"] spNum := by
  refine T.ok sc_is_number (fun vs H Q E h => ?_) (fun f cdv A outer s H vs Q E hr h => ?_)
  · obtain ⟨v, d, rfl, _⟩ := h
    rfl
  · obtain ⟨v, d, rfl, hd, q⟩ := h
    refine ⟨_, pss_one (ps_ret (pe_and (pe_callB call_isi (by rfl) B.isinstance PyProof.Rows.boot_isinstance (pa_cons (pv 0) (pa_cons (pe_bltn (by rfl) B.int PyProof.Rows.boot_int (rr_ty "int")) pa_nil)))
      (pe_one (pe_not (pe_callB call_isi (by rfl) B.isinstance PyProof.Rows.boot_isinstance (pa_cons (pv 0) (pa_cons (pe_bltn (by rfl) B.bool PyProof.Rows.boot_bool (rr_ty "bool")) pa_nil))))))), ?_⟩
    refine ⟨_, rfl, v, .ty "int", _, _, isIntB d, rfl, .ty _, rp_ty hd, kit_ty (kit_int d), isIntB d, rfl, ite2 (fun h => ?_) (fun h => ?_)⟩
    · refine ⟨_, rfl, v, .ty "bool", _, _, isBl d, rfl, .ty _, rp_ty hd, kit_ty (kit_bool d), isBl d, rfl, ?_⟩
      have e : (!isBl d) = isNum d := by cases d <;> first | rfl | cases h
      show Q (.bl (!isBl d)) H
      rw [e]
      exact q
    · have e : false = isNum d := by cases d <;> first | rfl | exact absurd rfl h
      show Q (.bl false) H
      rw [e]
      exact q
end
end Lt

set_option Elab.async false
set_option linter.all false
set_option maxRecDepth 100000
set_option maxHeartbeats 4000000
namespace Lt
open PySem PySem.Spec PyProof.Rows L2
section
variable {P : Program} {w : World} {K : PySem.W.Frag} {mg : Str → Option Value} {base : Heap}
/-! ### are_numbers -/
def isNums : PyData → Bool
  | .tuple ds => ds.all isNum
  | _ => false
def spNums : Sp := fun vs H Q _ => ∃ (v : V) (d : PyData), vs = [v] ∧ Rp H v d ∧ (∀ ds, d = .tuple ds → ds.length ≤ 1000) ∧ ∀ H', Same H H' → Q (.bl (isNums d)) H'
theorem sc_are_numbers : FnScope ["value", "part"] ["value"] (defScope s_are_numbers) := ⟨rfl, rfl, rfl, by decide +kernel, rfl, by decide +kernel, by decide +kernel⟩
theorem bls_of : ∀ {zs : List V} {bs : List Bool}, Paired (fun v b => v = V.bl b) zs bs → zs = bs.map V.bl
  | _, _, .nil => rfl
  | _, _, .cons r t => by rw [r, bls_of t]; rfl
theorem has_are_numbers (T : Top K mg "are_numbers" s_are_numbers ["value"]) (B : Bi mg) (hN : Has P w K mg base CX0 1 "is_number" ["value"] spNum) : Has P w K mg base CX0 2 "are_numbers" ["value"] spNums := by
  refine T.ok sc_are_numbers (fun vs H Q E h => ?_) (fun f cdv A outer s H vs Q E hr h => ?_)
  · obtain ⟨v, d, rfl, _⟩ := h
    rfl
  · obtain ⟨v, d, rfl, hd, hl, q⟩ := h
    refine ⟨_, pss_one (ps_ret (pe_and (pe_callB call_isi (by rfl) B.isinstance PyProof.Rows.boot_isinstance (pa_cons (pv 0) (pa_cons (pe_bltn (by rfl) B.tuple PyProof.Rows.boot_tuple (rr_ty "tuple")) pa_nil)))
      (pe_one (pe_callB (cr_all (by rfl)) (by rfl) B.all PyProof.Rows.boot_all (pa_cons (pe_lc (own := [("part", 1)]) (g := gName 1) (te := tCall spNum [] E0 (tCons (tVar 1) tNil)) (by rfl) sc_are_numbers.nd (pi_tup (pv 0)) (blkOk_by (own := [("part", 1)]) (N := ["value", "part"]) (sc := defScope s_are_numbers) (by decide +kernel))
        (fun _ _ _ _ _ => pg_name (i := 1) sc_are_numbers.nd rfl (Or.inl rfl)) (fun _ _ _ _ _ => pts_nil) (fun _ _ _ _ _ => pe_has hN hr (by rfl) (pa_cons (pv 1) pa_nil))) pa_nil))))), ?_⟩
    refine ⟨_, rfl, v, .ty "tuple", _, _, isTup d, rfl, .ty _, rp_ty hd, kit_ty (kit_tup d), isTup d, rfl, ite2 (fun h => ?_) (fun h => ?_)⟩
    · cases hd with
      | @tup a xs ds ha hx =>
        have hlen := hl ds rfl
        have hxl := hx.len
        refine ⟨_, rfl, a, rfl, ⟨_, ha.sq⟩, fun D hD => lc_tupM (fun _ v b => v = V.bl b) (ds.map isNum) (fun _ _ _ _ _ r => r) (ha.sq) (fun H' sm => (ha.sm sm).sq) (by omega) (by rw [List.length_map, hxl]) hD (fun x => rfl) (fun i v n hi hn H' sm Q' q' => ?_) (fun H' zs sm hz pr => ?_)⟩
        · obtain ⟨d, e1, e2⟩ := hx.get hi
          rw [List.getElem?_map, e1] at hn
          have hn : isNum d = n := Option.some.inj hn
          exact ⟨_, rfl, v, d, rfl, Rp.same sm d _ e2, q' _ _ (Same.refl _) (by rw [hn])⟩
        · refine ⟨D, ds.map isNum, rfl, SqL.of (by rw [hz, bls_of pr]), ?_⟩
          have e : (ds.map isNum).all id = isNums (.tuple ds) := by rw [List.all_map]; rfl
          rw [e]
          exact q _ sm
      | non => cases h
      | bl => cases h
      | int => cases h
      | str => cases h
      | lst => cases h
    · have e : false = isNums d := by cases d <;> first | rfl | exact absurd rfl h
      show Q (.bl false) H
      rw [e]
      exact q _ (Same.refl _)
/-! ### is_permutation -/
def numOf : PyData → Int
  | .int i => i
  | _ => 0
def numsOf : PyData → List Int
  | .tuple ds => ds.map numOf
  | _ => []
def rangeI (n : Nat) : List Int := (List.range n).map Int.ofNat
def isPermD (d : PyData) (n : Nat) : Bool := isNums d && decide ((numsOf d).Perm (rangeI n))
def spPerm : Sp := fun vs H Q _ => ∃ (v : V) (d : PyData) (n : Nat), vs = [v, nI n] ∧ Rp H v d ∧ (∀ ds, d = .tuple ds → ds.length < 64) ∧ n < 64 ∧ ∀ H', Same H H' → Q (.bl (isPermD d n)) H'
theorem sc_is_permutation : FnScope ["value", "size"] ["value", "size"] (defScope s_is_permutation) := ⟨rfl, rfl, rfl, by decide +kernel, rfl, by decide +kernel, by decide +kernel⟩
theorem nums_vals {H : Hp} : ∀ {ds : List PyData} {xs : List V}, RpAll H xs ds → ds.all isNum = true → xs = (ds.map numOf).map V.int
  | _, _, .nil, _ => rfl
  | d :: ds, _, .cons r t, h => by
    rw [List.all_cons, Bool.and_eq_true] at h
    cases r with
    | int i => rw [nums_vals t h.2]; rfl
    | non => cases h.1
    | bl => cases h.1
    | str => cases h.1
    | lst => cases h.1
    | tup => cases h.1
theorem rgV_int (n : Nat) : rgV 0 (n : Int) = (rangeI n).map V.int := by
  unfold rgV rangeI
  have e : ((n : Int) - 0).toNat = n := by omega
  rw [e, List.map_map]
  refine List.map_congr_left fun i _ => ?_
  show V.int (0 + (i : Int)) = V.int (i : Int)
  rw [Int.zero_add]
theorem rangeI_sorted (n : Nat) : (rangeI n).Pairwise (· ≤ ·) := by
  unfold rangeI
  rw [List.pairwise_map]
  exact List.Pairwise.imp (fun {a b} h => Int.ofNat_le.mpr (Nat.le_of_lt h)) List.pairwise_lt_range
theorem dp_ints {K : PySem.W.Frag} {H : Hp} : ∀ t : List Int, DpAll K H (t.map V.int) (t.map PyData.int)
  | [] => .nil
  | n :: t => .cons (.int _) (dp_ints t)
theorem depth_ints : ∀ t : List Int, PyData.depthAll (t.map PyData.int) = 0
  | [] => rfl
  | n :: t => by
    show max (PyData.depth (.int n)) (PyData.depthAll (t.map PyData.int)) = 0
    rw [depth_ints t]
    rfl
theorem can_ints : ∀ t : List Int, PyData.canLayAll0 (t.map PyData.int) = true
  | [] => rfl
  | n :: t => by
    show (PyData.canLay0 (.int n) && PyData.canLayAll0 (t.map PyData.int)) = true
    rw [can_ints t]
    rfl
theorem sh_ints (t : List Int) : SeqAt.shaped (.list (t.map PyData.int)) = true := by
  show (PyData.canLayAll0 (t.map PyData.int) && decide (PyData.depthAll (t.map PyData.int) + 1 ≤ 64)) = true
  rw [can_ints, depth_ints]
  rfl
theorem eqv_ints (s t : List Int) : PyData.eqv (.list (s.map PyData.int)) (.list (t.map PyData.int)) = decide (s = t) := by
  show PyData.eqvAll (s.map PyData.int) (t.map PyData.int) = _
  refine eqvAll_map (fun x y => ?_) s t
  show (x == y) = decide (x = y)
  by_cases e : x = y
  · subst e; simp
  · rw [decide_eq_false e]
    exact beq_eq_false_iff_ne.mpr e
theorem has_is_permutation (T : Top K mg "is_permutation" s_is_permutation ["value", "size"]) (B : Bi mg) (hN : Has P w K mg base CX0 2 "are_numbers" ["value"] spNums) : Has P w K mg base CX0 3 "is_permutation" ["value", "size"] spPerm := by
  refine T.ok sc_is_permutation (fun vs H Q E h => ?_) (fun f cdv A outer s H vs Q E hr h => ?_)
  · obtain ⟨v, d, n, rfl, _⟩ := h
    rfl
  · obtain ⟨v, d, n, rfl, hd, hl, hn, q⟩ := h
    refine ⟨_, pss_one (ps_ret (pe_and (pe_has hN hr (by rfl) (pa_cons (pv 0) pa_nil))
      (pe_one (pe_cmpR (op_eqD hr.units) (pe_callB cr_sortIT (by rfl) B.sorted PyProof.Rows.boot_sorted (pa_cons (pv 0) pa_nil)) (pe_listRg (by rfl) (by rfl) B.list (prg_1 (by rfl) B.range (pv 1))) (nomark _))))), ?_⟩
    refine ⟨_, rfl, v, d, rfl, hd, (fun ds e => by have := hl ds e; omega), fun H1 s1 => ⟨isNums d, rfl, ite2 (fun h => ?_) (fun h => ?_)⟩⟩
    · cases hd with
      | @tup a xs ds ha hx =>
        have h : ds.all isNum = true := h
        have ex := nums_vals hx h
        have ha1 := ha.sm s1
        rw [ex] at ha1
        have hlen := hl ds rfl
        refine ⟨_, rfl, a, ds.map numOf, rfl, ha1.sq, by rw [List.length_map]; exact hlen, fun ns' p pm so hp => ?_⟩
        refine ⟨_, rfl, n, rfl, .of_le (by omega) (by omega) (by omega) (by omega), fun p2 hp2 => ?_⟩
        have e1 : upd (upd H1 p (.lst (ns'.map V.int))) p2 (.lst (rgV 0 n)) p = some (.lst (ns'.map V.int)) := by
          rw [upd_ne (fun z => by rw [← z, upd_same] at hp2; cases hp2), upd_same]
        refine ⟨.list (ns'.map PyData.int), .list ((rangeI n).map PyData.int), .lst (SqL.of e1) (dp_ints _), .lst (SqL.of (by rw [upd_same, rgV_int])) (dp_ints _), sh_ints _, sh_ints _, ?_⟩
        rw [eqv_ints]
        have e : decide (ns' = rangeI n) = isPermD (.tuple ds) n := by
          have hb : isNums (.tuple ds) = true := h
          unfold isPermD
          rw [hb, Bool.true_and]
          refine decide_eq_decide.mpr ⟨fun e => ?_, fun e => ?_⟩
          · rw [← e]
            exact pm.symm
          · exact List.Perm.eq_of_pairwise (fun x y _ _ h1 h2 => Int.le_antisymm h1 h2) so (rangeI_sorted n) (pm.trans e)
        rw [e]
        exact q _ ((s1.trans (same_new hp)).trans (same_new hp2))
      | non => cases h
      | bl => cases h
      | int => cases h
      | str => cases h
      | lst => cases h
    · have e : false = isPermD d n := by
        unfold isPermD
        have z : isNums d = false := by simpa using h
        rw [z]
        rfl
      show Q (.bl false) H1
      rw [e]
      exact q _ s1
end
end Lt

set_option Elab.async false
set_option linter.all false
set_option maxRecDepth 100000
set_option maxHeartbeats 4000000
namespace Lt
open PySem PySem.Spec PyProof.Rows L2
theorem for_enumT {K : PySem.W.Frag} {a : Addr} {xs : List V} {g : TG} {tb : TS} {D : Ends} {σ : L2.St} {H : Hp} (Pv : Nat → L2.St → Hp → Prop) (h0 : Pv 0 σ H) (hl : ∀ i σ H, i ≤ xs.length → Pv i σ H → SqT K H a xs)
    (hs : ∀ (i : Nat) (x : V) σ H T, xs[i]? = some x → Pv i σ H → H T = none → g (.ref T) σ (upd H T (.tup [nI i, x])) fun σ2 H2 => tb { D with nx := Pv (i + 1), ct := Pv (i + 1), bk := D.nx } σ2 H2) (hd : ∀ σ H, Pv xs.length σ H → D.nx σ H) :
    ∃ W : Nat → Nat → L2.St → Hp → Prop, (∃ m, W 0 m σ H) ∧ ∀ i m σ H, W i m σ H →
      ((Itet K a).stop i H ∧ D.nx σ H) ∨ ((Itet K a).go i H ∧ ∃ N : L2.St → Hp → Prop, (∀ σ' H', N σ' H' → ∃ m', m' < m ∧ W (i + 1) m' σ' H') ∧ ∀ x H', (Itet K a).yld i H x H' → g x σ H' fun σ2 H2 => tb { D with nx := N, ct := N, bk := D.nx } σ2 H2) := by
  refine ⟨fun i m σ H => m = xs.length - i ∧ i ≤ xs.length ∧ Pv i σ H, ⟨xs.length, by simp, Nat.zero_le _, h0⟩, ?_⟩
  rintro i m σ H ⟨rfl, hi, p⟩
  have q := hl i σ H hi p
  by_cases hlt : i < xs.length
  · refine .inr ⟨⟨xs, xs[i], q, by simp [hlt]⟩, Pv (i + 1), fun σ' H' p' => ⟨xs.length - (i + 1), by omega, rfl, hlt, p'⟩, fun x H' y => ?_⟩
    obtain ⟨T, z, rfl, hT, rfl, hz⟩ := y
    exact hs i z σ H T (hz xs q) p hT
  · have e : i = xs.length := by omega
    subst e
    exact .inl ⟨⟨xs, q, rfl⟩, hd σ H p⟩
section
variable {P : Program} {w : World} {K : PySem.W.Frag} {mg : Str → Option Value} {base : Heap}
/-! ### back_of -/
theorem rep_zero (n : Nat) : (List.replicate n [V.int 0]).flatten = nIs (List.replicate n 0) := by
  induction n with
  | zero => rfl
  | succ n ih => rw [List.replicate_succ, List.flatten_cons, ih]; rfl
theorem nIs_set (t : List Nat) (i n : Nat) : (nIs t).set i (nI n) = nIs (t.set i n) := by
  unfold nIs
  rw [List.map_set]
end
end Lt

set_option Elab.async false
set_option linter.all false
set_option maxRecDepth 100000
set_option maxHeartbeats 4000000
namespace Lt
open PySem PySem.Spec PyProof.Rows L2
/-! ### dicts from turns to words -/
def keyN (t : List Nat) : List Key := t.map fun n : Nat => (Sum.inl (Int.ofNat n) : Key)
theorem keyN_inj {s t : List Nat} (h : keyN s = keyN t) : s = t := by
  unfold keyN at h
  exact (List.map_inj_right (fun x y e => by injection e with e; exact Int.ofNat.inj e)).mp h
def DE (H : Hp) (kv : List Key × V) (tw : List Nat × List Nat) : Prop := kv.1 = keyN tw.1 ∧ TN H kv.2 tw.2
def DW (H : Hp) (d : Addr) (L : List (List Nat × List Nat)) : Prop := ∃ kvs, H d = some (.dT kvs) ∧ Paired (DE H) kvs L
theorem DEs.tm {H H' : Hp} (e : Tm H H') : ∀ {kvs : List (List Key × V)} {L : List (List Nat × List Nat)}, Paired (DE H) kvs L → Paired (DE H') kvs L
  | _, _, .nil => .nil
  | _, _, .cons r t => .cons ⟨r.1, r.2.tm e⟩ (DEs.tm e t)
theorem DW.tm {H H' : Hp} {d : Addr} {L : List (List Nat × List Nat)} (h : DW H d L) (e : Tm H H') (ed : H' d = H d) : DW H' d L := let ⟨kvs, h1, h2⟩ := h; ⟨kvs, ed.trans h1, DEs.tm e h2⟩
theorem DW.same {H H' : Hp} {d : Addr} {L : List (List Nat × List Nat)} (h : DW H d L) (e : Same H H') : DW H' d L := let ⟨kvs, h1, h2⟩ := h; ⟨kvs, e _ _ h1, DEs.tm (.of e) h2⟩
theorem dw_none {H : Hp} {t : List Nat} : ∀ {kvs : List (List Key × V)} {L : List (List Nat × List Nat)}, Paired (DE H) kvs L → t ∉ L.map (·.1) → valV kvs (keyN t) = none
  | _, _, .nil, _ => rfl
  | p :: ps, q :: qs, .cons r s, h => by
    have hne : ¬ p.1 = keyN t := fun e => h (by
      rw [List.map_cons]
      rw [r.1] at e
      rw [keyN_inj e]
      exact List.mem_cons_self)
    rw [valV_neg hne]
    exact dw_none s fun m => h (List.mem_cons_of_mem _ m)
theorem dw_some {H : Hp} {t w : List Nat} : ∀ {kvs : List (List Key × V)} {L : List (List Nat × List Nat)}, Paired (DE H) kvs L → (L.map (·.1)).Nodup → (t, w) ∈ L → ∃ v, valV kvs (keyN t) = some v ∧ TN H v w
  | _, _, .nil, _, h => by cases h
  | p :: ps, q :: qs, .cons r s, hn, h => by
    rw [List.map_cons] at hn
    obtain ⟨h1, h2⟩ := List.nodup_cons.mp hn
    rcases List.mem_cons.mp h with e | h
    · subst e
      exact ⟨p.2, valV_pos r.1, r.2⟩
    · have hne : ¬ p.1 = keyN t := fun e => h1 (by
        rw [r.1] at e
        rw [keyN_inj e]
        exact List.mem_map.mpr ⟨_, h, rfl⟩)
      rw [valV_neg hne]
      exact dw_some s h2 h
theorem dw_isSome {H : Hp} {t : List Nat} {kvs : List (List Key × V)} {L : List (List Nat × List Nat)} (p : Paired (DE H) kvs L) (hn : (L.map (·.1)).Nodup) : (valV kvs (keyN t)).isSome = decide (t ∈ L.map (·.1)) := by
  by_cases h : t ∈ L.map (·.1)
  · obtain ⟨⟨t', w⟩, hm, e⟩ := List.mem_map.mp h
    have e : t' = t := e
    subst e
    obtain ⟨v, hv, _⟩ := dw_some p hn hm
    rw [hv, decide_eq_true h]
    rfl
  · rw [dw_none p h, decide_eq_false h]
    rfl
theorem TK.key {H : Hp} {v : V} {t : List Nat} (h : TK H v t) : ∃ b, v = .ref b ∧ H b = some (.tup ((keyN t).map kV)) := by
  obtain ⟨b, e, hb⟩ := h
  exact ⟨b, e, by rw [hb, nIs_key]; rfl⟩
theorem TN.key {H : Hp} {v : V} {t : List Nat} (h : TN H v t) : ∃ b, v = .ref b ∧ RT H b ((keyN t).map kV) := by
  obtain ⟨b, e, hb⟩ := h
  refine ⟨b, e, ?_⟩
  have z : nIs t = (keyN t).map kV := by rw [nIs_key]; rfl
  rw [← z]
  exact hb
theorem LT.tm {H H' : Hp} {a : Addr} {ts : List (List Nat)} (h : LT H a ts) (e : Tm H H') (ea : H' a = H a) : LT H' a ts := let ⟨xs, h1, h2⟩ := h; ⟨xs, ea.trans h1, TNs.tm e h2⟩
/-! ### d[k], k in d: the key to be read -/
def tDGetR (td ty : TE) : TE := fun σ H Q => td σ H fun x H1 => ty σ H1 fun y H2 => ∃ a v kvs k b, x = .ref a ∧ y = .ref b ∧ Rd H2 a (.dT kvs) ∧ RT H2 b (k.map kV) ∧ valV kvs k = some v ∧ Q v H2
theorem key_rd {P : Program} {w : World} {H : Hp} {h : Heap} {ks : List Key} {a : Addr} (ok : HOk P w H h) (e : RT H a (ks.map kV)) : (tupleKind (mixKind P w)).is h ks a := by
  have z : ObjOk P w H h a (.tup (ks.map kV)) := Rd.ok e ok
  obtain ⟨_, its, r, o, h1, h2, n, h3⟩ := z
  exact ⟨o, its.toArray, n, h1, h2, h3, by simpa using items_are r⟩
section
variable {X : Cx} {o i : Expr} {td ty : TE} {pos : Pos}
theorem pe_dgetR (hu : X.A.units + 1 < cLine) (ho : PE X o td) (hi : PE X i ty) (hs : NoSl i) : PE X (.Subscript o i pos) (tDGetR td ty) := by
  refine ⟨fun pins s σ H Q I h => ?_⟩
  refine subD_of PySem.F.slot_dict_getitem.lookup hs (thn (ho.run pins s σ H _ I h) fun u s1 ⟨x, H1, I1, rx, q1⟩ => thn (hi.run pins s1 σ H1 _ I1 q1) fun iv s2 ⟨y, H2, I2, ry, a, v, kvs, k, b, ex, ey, hd, hb, hv, q2⟩ => ?_)
  subst ex ey
  obtain rfl : u = Value.ref a := rx
  obtain rfl : iv = Value.ref b := ry
  obtain ⟨z, hds, xs, rel, dd⟩ := dt_rd I2.hok hd
  obtain ⟨w', hw, rw'⟩ := RelO.some_of (v := v) (o := (atKey xs k).map (·.2)) (by rw [← hv]; exact rel.val k)
  obtain ⟨p, hp, hp2⟩ := Option.map_eq_some_iff.mp hw
  have ht : s2.TypeIs (.ref a) "dict" := by
    obtain ⟨ob, _, _, h1, h2, _⟩ := dd
    exact ⟨ob, h1, h2.1⟩
  refine ⟨ht, wpAny_getItem_heap (tupleKind_room_in1 hu) (key_rd I2.hok hb) dd hp ?_⟩
  rw [hp2]
  exact ⟨v, H2, I2.tok _, rw', q2⟩
end
/-! ### the mirror's turns, maker by maker -/
theorem grow_app (t w : List Nat) : ∀ (xs ys : List (List Nat)) (p : Nat) (L : List (List Nat × List Nat)), grow t w (xs ++ ys) p L = grow t w ys (p + xs.length) (grow t w xs p L)
  | [], _, _, _ => rfl
  | x :: xs, ys, p, L => by
    show grow t w (xs ++ ys) (p + 1) _ = grow t w ys (p + (xs.length + 1)) (grow t w xs (p + 1) _)
    rw [grow_app t w xs ys (p + 1)]
    congr 1
    omega
theorem grow_next {t w : List Nat} {gs : List (List Nat)} {i : Nat} {g : List Nat} (h : gs[i]? = some g) (L : List (List Nat × List Nat)) :
    grow t w (gs.take (i + 1)) 0 L = if prod t g ∈ (grow t w (gs.take i) 0 L).map (·.1) then grow t w (gs.take i) 0 L else grow t w (gs.take i) 0 L ++ [(prod t g, w ++ [i])] := by
  have hl : i < gs.length := (List.getElem?_eq_some_iff.mp h).1
  have e : gs.take (i + 1) = gs.take i ++ [g] := by rw [List.take_add_one, h]; rfl
  rw [e, grow_app, List.length_take, Nat.min_eq_left (Nat.le_of_lt hl), Nat.zero_add]
  rfl
theorem grow_len (t w : List Nat) : ∀ (gs : List (List Nat)) (p : Nat) (L : List (List Nat × List Nat)), (grow t w gs p L).length ≤ L.length + gs.length
  | [], _, L => Nat.le_refl _
  | g :: gs, p, L => by
    have ih := grow_len t w gs (p + 1) (if prod t g ∈ L.map (·.1) then L else L ++ [(prod t g, w ++ [p])])
    show (grow t w gs (p + 1) _).length ≤ L.length + (gs.length + 1)
    split at ih
    · rename_i h
      rw [if_pos h]
      omega
    · rename_i h
      rw [if_neg h]
      rw [List.length_append] at ih
      have e : [(prod t g, w ++ [p])].length = 1 := rfl
      omega
theorem qq_len_le (gs : List (List Nat)) (n k : Nat) : ∀ i, (qq gs n (k + i)).length ≤ (qq gs n k).length + i * gs.length
  | 0 => by rw [Nat.zero_mul]; exact Nat.le_refl _
  | i + 1 => by
    have ih := qq_len_le gs n k i
    have e : (i + 1) * gs.length = i * gs.length + gs.length := Nat.succ_mul _ _
    show (match (qq gs n (k + i))[k + i]? with
      | none => qq gs n (k + i)
      | some (t, w) => grow t w gs 0 (qq gs n (k + i))).length ≤ _
    split
    · omega
    · rename_i t w _
      have := grow_len t w gs 0 (qq gs n (k + i))
      omega
/-- words[turn] + (place,) -/
theorem catA_tn {K : PySem.W.Frag} {H : Hp} {pw p : Addr} {w : List Nat} {j : Nat} {Q : VK} (hw : RT H pw (nIs w)) (hp : H p = some (.tup [nI j])) (hl : w.length ≤ 1000000) (q : ∀ v H', Same H H' → TN H' v (w ++ [j]) → Q v H') : rCatA K (.ref pw) (.ref p) H Q := by
  refine ⟨pw, p, nIs w, [nI j], rfl, rfl, hw.sq, SqT.of hp, ?_, fun e => ?_, fun _ e => (by cases e), fun _ _ p2 hp2 => ?_⟩
  · rw [nIs_len, sizeLine_eq]
    show w.length + 1 ≤ _
    omega
  · have e : w = [] := by
      cases w with
      | nil => rfl
      | cons a w => cases e
    subst e
    exact q _ _ (Same.refl _) ⟨p, rfl, .inl hp⟩
  · refine q _ _ (same_new hp2) ⟨p2, rfl, .inl ?_⟩
    rw [upd_same]
    unfold nIs
    rw [List.map_append]
    rfl
theorem grow_w (t w : List Nat) (m : Nat) : ∀ (gs : List (List Nat)) (p : Nat) (L : List (List Nat × List Nat)), w.length ≤ m → (∀ x ∈ L, x.2.length ≤ m + 1) → ∀ x ∈ grow t w gs p L, x.2.length ≤ m + 1
  | [], _, _, _, h, x, hx => h x hx
  | g :: gs, p, L, hw, h, x, hx => by
    refine grow_w t w m gs (p + 1) _ hw (fun y hy => ?_) x hx
    split at hy
    · exact h y hy
    · rcases List.mem_append.mp hy with z | z
      · exact h y z
      · rw [List.mem_singleton.mp z, List.length_append]
        show w.length + 1 ≤ m + 1
        omega
theorem qq_w (gs : List (List Nat)) (n : Nat) : ∀ k, ∀ x ∈ qq gs n k, x.2.length ≤ k
  | 0, x, h => by
    rw [List.mem_singleton.mp (show x ∈ [(List.range n, ([] : List Nat))] from h)]
    exact Nat.le_refl 0
  | k + 1, x, h => by
    have ih := qq_w gs n k
    have h' : x ∈ (match (qq gs n k)[k]? with
      | none => qq gs n k
      | some (t, w) => grow t w gs 0 (qq gs n k)) := h
    split at h'
    · exact Nat.le_succ_of_le (ih x h')
    · rename_i t w e
      exact grow_w t w k gs 0 _ (ih _ (List.mem_of_getElem? e)) (fun y hy => Nat.le_succ_of_le (ih y hy)) x h'
section
variable {P : Program} {w : World} {K : PySem.W.Frag} {mg : Str → Option Value} {base : Heap}
/-! ### bracket_of -/
theorem pr_call {H : Hp} {a b : V} {x y : List Nat} {n : Nat} {Q : VK} (ha : TN H a x) (hb : TN H b y) (hx : IsP n x) (hy : IsP n y) (hn : n ≤ 1000) (q : ∀ v H', Same H H' → TK H' v (prod x y) → Q v H') : spProd [a, b] H Q E0 :=
  ⟨a, b, x, y, rfl, ha, hb, fun i hi => by rw [hy.len]; exact hx.lt i hi, by rw [hx.len]; exact hn, q⟩
/-! ### words_of -/
def Cn (mg : Str → Option Value) (x : Str) (i : Int) : Prop := ∃ t, mg x = some (.int i t)
def Wd (gs : List (List Nat)) (n : Nat) (L : List (List Nat × List Nat)) : Prop := ∃ a, L = qq gs n a ∧ a ≤ L.length ∧ (L.length = a ∨ 240 < L.length)
def spWords : Sp := fun vs H Q _ => ∃ (ms : V) (gs : List (List Nat)) (n : Nat), vs = [ms, nI n] ∧ TT H ms gs ∧ (∀ g ∈ gs, IsP n g) ∧ n ≤ 1000 ∧ gs.length ≤ 1000 ∧
  ∀ d H' L, Same H H' → H d = none → DW H' d L → Wd gs n L → Q (.ref d) H'
theorem sc_words_of : FnScope ["makers", "size", "still", "words", "level", "longer", "turn", "place", "maker", "led"] ["makers", "size"] (defScope s_words_of) := ⟨rfl, rfl, rfl, by decide +kernel, rfl, by decide +kernel, by decide +kernel⟩
/-- the state at the while: behind a positions -/
structure WS (H0 : Hp) (ms st : V) (n : Nat) (gs : List (List Nat)) (d : Addr) (a : Nat) (σ : L2.St) (H : Hp) : Prop where
  sl : ∃ lv x5 x6 x7 x8 x9, σ = [some ms, some (nI n), some st, some (.ref d), some (.ref lv), x5, x6, x7, x8, x9] ∧ LT H lv (((qq gs n a).map (·.1)).drop a)
  sm : Same H0 H
  dw : DW H d (qq gs n a)
  le : a ≤ (qq gs n a).length
  le2 : a ≤ 240
theorem qq_step {gs : List (List Nat)} {n a i : Nat} {M : List (List Nat × List Nat)} (e : qq gs n (a + i) = qq gs n a ++ M) {t w : List Nat} (h : (qq gs n a)[a + i]? = some (t, w)) : qq gs n (a + i + 1) = grow t w gs 0 (qq gs n (a + i)) := by
  have z : (qq gs n (a + i))[a + i]? = some (t, w) := by
    rw [e, List.getElem?_append_left (List.getElem?_eq_some_iff.mp h).1]
    exact h
  show (match (qq gs n (a + i))[a + i]? with
    | none => qq gs n (a + i)
    | some (t, w) => grow t w gs 0 (qq gs n (a + i))) = _
  rw [z]
theorem has_words_of (T : Top K mg "words_of" s_words_of ["makers", "size"]) (B : Bi mg) (C : Cn mg "MOST_TURNS" 240) (hS : Has P w K mg base CX0 1 "still_of" ["size"] spStill) (hP : Has P w K mg base CX0 1 "product_of" ["one", "other"] spProd) :
    Has P w K mg base CX0 2 "words_of" ["makers", "size"] spWords := by
  refine T.ok sc_words_of (fun vs H Q E h => ?_) (fun f cdv A outer s H vs Q E hr h => ?_)
  · obtain ⟨ms, gs, n, rfl, _⟩ := h
    rfl
  · obtain ⟨ms, gs, n, rfl, hms, hg, hn, hgl, q⟩ := h
    obtain ⟨tk, hC⟩ := C
    have hu := hu_of hr
    refine ⟨_, pss_cons (ps_set (i := 2) sc_words_of.nd rfl (Or.inl rfl) (pe_has hS hr (by rfl) (pa_cons (pv 1) pa_nil)))
      (pss_cons (ps_set (i := 3) sc_words_of.nd rfl (Or.inl rfl) (pe_dispT hu (pv 2) (pe_tup pa_nil)))
      (pss_cons (ps_set (i := 4) sc_words_of.nd rfl (Or.inl rfl) (pe_lst (pa_cons (pv 2) pa_nil)))
      (pss_cons (ps_while PassesOwn.never (PW.pt (pw_and (pt_truth (pv 4) (by intro _; rfl)) (pw_and1 (pt_cmpR op_le (pe_callB call_len_dT (by rfl) B.len PySem.boot_len (pa_cons (pv 3) pa_nil)) (pe_glob (v := .int 240) rfl hC ⟨_, rfl⟩) (nomark _)))))
        (pss_cons (ps_set (i := 5) sc_words_of.nd rfl (Or.inl rfl) (pe_lst pa_nil))
        (pss_cons (ps_for PassesOwn.never rfl (pi_list (pv 4)) (pg_name (i := 6) sc_words_of.nd rfl (Or.inl rfl))
          (pss_one (ps_for PassesOwn.never rfl (pi_enumT (by rfl) B.enumerate (pa_cons (pv 0) pa_nil)) (pg_tup rfl (pgs_cons (pg_name (i := 7) sc_words_of.nd rfl (Or.inl rfl)) (pgs_cons (pg_name (i := 8) sc_words_of.nd rfl (Or.inl rfl)) pgs_nil)))
            (pss_cons (ps_set (i := 9) sc_words_of.nd rfl (Or.inl rfl) (pe_has hP hr (by rfl) (pa_cons (pv 6) (pa_cons (pv 8) pa_nil))))
            (pss_one (ps_if (pt_cmp (pc_dnotin hu (pv 9) (pv 3)))
              (pss_cons (ps_dput hu (pv 3) (pv 9) (pe_op op_catA (pe_dgetR hu (pv 3) (pv 6) (fun _ _ => rfl)) (pe_tup (pa_cons (pv 7) pa_nil))) rfl)
              (pss_one (ps_expr (pe_bm PySem.F.plainAttrs_list PySem.F.slot_list_append PySem.F.type_list_append mt_append (pv 5) (pa_cons (pv 9) pa_nil)))))
              pss_nil))))))
        (pss_one (ps_set (i := 4) sc_words_of.nd rfl (Or.inl rfl) (pv 5))))))
      (pss_one (ps_ret (pv 3)))))), ?_⟩
    refine ⟨_, rfl, n, rfl, hn, fun st H1 s1 hst => ?_⟩
    refine fun d hd => ⟨_, rfl, ⟨Nat.zero_le _, fun p hp => ?_⟩⟩
    have hpd : p ≠ d := fun z => by rw [z, upd_same] at hp; cases hp
    have s2 : Same H1 (upd (upd H1 d (.dT [])) p (.tup [])) := (same_new hd).trans (same_new hp)
    obtain ⟨b, ebv, hb⟩ := (hst.tm (.of s2)).key
    subst ebv
    refine ⟨b, keyN (List.range n), rfl, by rw [upd_ne hpd.symm, upd_same], hb, ?_⟩
    refine ⟨_, rfl, by show 1 ≤ sizeLine; decide, fun lv hlv => ?_⟩
    have hd0 : H d = none := s1.free hd
    have s3 : Same H1 (upd (upd (upd H1 d (.dT [])) p (.tup [])) d (.dT [(keyN (List.range n), .ref p)])) := same_mut s2 hd
    have s4 : Same H1 (upd (upd (upd (upd H1 d (.dT [])) p (.tup [])) d (.dT [(keyN (List.range n), .ref p)])) lv (.lst [.ref b])) := s3.trans (same_new hlv)
    have hdl : d ≠ lv := fun z => by rw [← z, upd_same] at hlv; cases hlv
    have hpl : p ≠ lv := fun z => by rw [← z, upd_ne hpd, upd_same] at hlv; cases hlv
    have hst' : TN (upd (upd (upd (upd H1 d (.dT [])) p (.tup [])) d (.dT [(keyN (List.range n), .ref p)])) lv (.lst [.ref b])) (.ref b) (List.range n) := (hst.tm (.of s4)).tn
    refine ⟨fun m σ H' => ∃ a, m = 240 - a ∧ WS H ms (.ref b) n gs d a σ H', ⟨240, 0, rfl, ⟨⟨lv, none, none, none, none, none, rfl, [.ref b], upd_same, .cons hst' .nil⟩, s1.trans s4, ⟨[(keyN (List.range n), .ref p)], by rw [upd_ne hdl, upd_same], .cons ⟨rfl, p, rfl, .inl ?_⟩ .nil⟩, Nat.zero_le _, Nat.zero_le _⟩⟩, ?_⟩
    · rw [upd_ne hpl, upd_ne hpd, upd_same]
      rfl
    rintro m σ H' ⟨a, rfl, ⟨⟨lv, x5, x6, x7, x8, x9, rfl, xs, hlv', hxs⟩, sm, dw, le, le2⟩⟩
    have ret : (qq gs n a).length = a ∨ 240 < (qq gs n a).length → Q (.ref d) H' := fun h => q d H' _ sm hd0 dw ⟨a, rfl, le, h⟩
    have hxl : xs.length = (qq gs n a).length - a := by
      rw [Paired.length hxs, List.length_drop, List.length_map]
    refine ⟨_, rfl, !xs.isEmpty, .inl ⟨xs, SqL.of hlv', rfl⟩, ?_⟩
    refine ite2 (fun h => ?_) (fun h => ?_)
    rotate_left
    · refine iteF ⟨_, rfl, ret (.inl ?_)⟩
      cases xs with
      | nil => simp at hxl; omega
      | cons x xs => exact absurd rfl h
    obtain ⟨kvs, hkv, pkv⟩ := dw
    have hkl : kvs.length = (qq gs n a).length := Paired.length pkv
    refine ⟨_, rfl, d, kvs, rfl, hkv, _, _, rfl, rfl, _, rfl, ite2 (fun h2 => ?_) (fun h2 => ?_)⟩
    rotate_left
    · have h2 : ¬ ((kvs.length : Int) ≤ 240) := fun z => h2 (decide_eq_true z)
      exact ⟨_, rfl, ret (.inr (by omega))⟩
    have h2 : (kvs.length : Int) ≤ 240 := of_decide_eq_true h2
    have hpos : a < (qq gs n a).length := by
      cases xs with
      | nil => simp at h
      | cons x xs => rw [List.length_cons] at hxl; omega
    refine ⟨fun σ2 H2 => WS H ms (.ref b) n gs d (qq gs n a).length σ2 H2, fun σ2 H2 hw => ⟨240 - (qq gs n a).length, by omega, _, rfl, hw⟩, ?_⟩
    -- longer = []
    refine ⟨Nat.zero_le _, fun lg hlg => ?_⟩
    have hlg0 : H lg = none := sm.free hlg
    have sl := same_new (o := .lst []) hlg
    obtain ⟨pm, mxs, rfl, hpm, hmx⟩ := hms
    have hlvg : lv ≠ lg := ne_of_none hlv' hlg
    have hdg : d ≠ lg := ne_of_none hkv hlg
    have hlv0 : ∀ H2 : Hp, Same H' H2 → H2 lv = some (.lst xs) := fun H2 s => s _ _ hlv'
    refine ⟨_, rfl, lv, rfl, ⟨_, SqL.of (sl _ _ hlv')⟩, for_list (K := K) (a := lv) (xs := xs)
      (fun i σ2 H2 => ∃ y6 y7 y8 y9 M, σ2 = [some (.ref pm), some (nI n), some (.ref b), some (.ref d), some (.ref lv), some (.ref lg), y6, y7, y8, y9] ∧ Same H H2 ∧ qq gs n (a + i) = qq gs n a ++ M ∧ DW H2 d (qq gs n (a + i)) ∧ LT H2 lg (M.map (·.1)) ∧ H2 lv = some (.lst xs) ∧ Paired (TN H2) xs (((qq gs n a).map (·.1)).drop a))
      ⟨x6, x7, x8, x9, [], rfl, sm.trans sl, by rw [List.append_nil]; rfl, DW.same ⟨kvs, hkv, pkv⟩ sl, ⟨[], upd_same, .nil⟩, sl _ _ hlv', TNs.tm (.of sl) hxs⟩
      (fun i σ2 H2 _ ⟨_, _, _, _, _, _, _, _, _, _, h, _⟩ => SqL.of h) ?_ ?_⟩
    · rintro i x σ2 H2 hi ⟨y6, y7, y8, y9, M, rfl, sm2, eM, dw2, lt2, hlv2, hx2⟩
      obtain ⟨t, ht, htn⟩ := Paired.getL hx2 hi
      rw [List.getElem?_drop, List.getElem?_map] at ht
      obtain ⟨⟨t', w'⟩, hq, et⟩ := Option.map_eq_some_iff.mp ht
      have et : t' = t := et
      subst et
      have hstep := qq_step eM hq
      have htP : IsP n t' := Mk.isP hg (qq_mk gs n a t' (List.mem_map.mpr ⟨_, List.mem_of_getElem? hq, rfl⟩))
      refine ⟨_, rfl, pm, _, rfl, SqT.of (sm2 _ _ hpm), for_enumT (K := K) (xs := mxs)
        (fun j σ3 H3 => ∃ z7 z8 z9 M', σ3 = [some (.ref pm), some (nI n), some (.ref b), some (.ref d), some (.ref lv), some (.ref lg), some x, z7, z8, z9] ∧ Same H H3 ∧ grow t' w' (gs.take j) 0 (qq gs n (a + i)) = qq gs n a ++ M' ∧ DW H3 d (qq gs n a ++ M') ∧ LT H3 lg (M'.map (·.1)) ∧ H3 lv = some (.lst xs) ∧ Paired (TN H3) xs (((qq gs n a).map (·.1)).drop a))
        ⟨y7, y8, y9, M, rfl, sm2, eM, by rw [← eM]; exact dw2, lt2, hlv2, hx2⟩ (fun j σ3 H3 _ ⟨_, _, _, _, _, s, _⟩ => SqT.of (s _ _ hpm)) ?_ ?_⟩
      · rintro j y σ3 H3 T hj ⟨z7, z8, z9, M', rfl, sm3, eM', dw3, ⟨gz, hgz, pgz⟩, hlv3, hx3⟩ hT
        obtain ⟨g, hgj, hyg⟩ := Paired.getL hmx hj
        have hgP := hg g (List.mem_of_getElem? hgj)
        have sT := same_new (o := .tup [nI j, y]) hT
        refine ⟨T, _, rfl, SqT.of upd_same, rfl, nI j, _, rfl, y, _, rfl, rfl, ?_⟩
        obtain ⟨t2, ht2, htn3⟩ := Paired.getL hx3 hi
        rw [List.getElem?_drop, List.getElem?_map, hq] at ht2
        have ht2 : t' = t2 := Option.some.inj ht2
        subst ht2
        refine ⟨_, rfl, _, rfl, pr_call (htn3.tm (.of sT)) (hyg.tm (.of (sm3.trans sT))) htP hgP hn fun v H4 s4 hv => ?_⟩
        have s34 : Same H3 H4 := sT.trans s4
        have hvP := htP.prod hgP
        obtain ⟨b1, rfl, hb1⟩ := hv.key
        obtain ⟨kv4, hk4, pk4⟩ := dw3.same s34
        have hgz4 := s34 _ _ hgz
        have pgz4 := TNs.tm (.of s34) pgz
        have hlv4 := s34 _ _ hlv3
        have hx4 := TNs.tm (.of s34) hx3
        have hnd : ((qq gs n a ++ M').map (·.1)).Nodup := by rw [← eM']; exact grow_nd _ _ _ _ _ (qq_nd gs n (a + i))
        have hnx := grow_next (t := t') (w := w') hgj (qq gs n (a + i))
        rw [eM'] at hnx
        have sm4 : Same H H4 := sm3.trans s34
        refine ⟨_, rfl, _, rfl, d, _, rfl, DGet.t hk4 hb1, _, rfl, ?_⟩
        rw [dw_isSome pk4 hnd]
        by_cases hin : prod t' g ∈ (qq gs n a ++ M').map (·.1)
        · rw [if_pos hin] at hnx
          rw [decide_eq_true hin]
          exact iteF ⟨_, _, _, M', rfl, sm4, hnx, ⟨kv4, hk4, pk4⟩, ⟨gz, hgz4, pgz4⟩, hlv4, hx4⟩
        · rw [if_neg hin] at hnx
          rw [decide_eq_false hin]
          refine iteT ?_
          have hmem : (t', w') ∈ qq gs n a ++ M' := List.mem_append.mpr (.inl (List.mem_of_getElem? hq))
          obtain ⟨wv, hwv, hwn⟩ := dw_some pk4 hnd hmem
          obtain ⟨b2, rfl, hb2⟩ := (htn3.tm (.of s34)).key
          obtain ⟨pw, rfl, hpw⟩ := hwn
          have hwl : w'.length ≤ 240 := Nat.le_trans (qq_w gs n a _ (List.mem_of_getElem? hq)) le2
          refine ⟨_, rfl, _, rfl, d, .ref pw, kv4, _, _, rfl, rfl, .inl hk4, hb2, hwv, _, rfl, by show 1 ≤ sizeLine; decide, fun p hp => ?_⟩
          have s5 := same_new (o := .tup [nI j]) hp
          refine catA_tn (hpw.sm s5) upd_same (by omega) fun v5 H5 s6 hv5 => ?_
          have s45 := s5.trans s6
          have hk5 := s45 _ _ hk4
          have hkl4 : kv4.length = (grow t' w' (gs.take j) 0 (qq gs n (a + i))).length := by rw [Paired.length pk4, ← eM']
          have hsz : kv4.length ≤ 1000000 := by
            have h0 := grow_len t' w' (gs.take j) 0 (qq gs n (a + i))
            have h1 := qq_len_le gs n a i
            have h3 : i ≤ 240 := by
              have := (List.getElem?_eq_some_iff.mp hq).1
              omega
            have h4 : i * gs.length ≤ 240 * 1000 := Nat.mul_le_mul h3 hgl
            rw [List.length_take] at h0
            omega
          refine ⟨_, rfl, _, rfl, d, _, rfl, DPut.t hk5 (s45 _ _ hb1) (by rw [sizeLine_eq]; omega), ?_⟩
          rw [putK_new v5 (dw_none pk4 hin)]
          have t6 : Tm H5 (upd H5 d (.dT (kv4 ++ [(keyN (prod t' g), v5)]))) := Tm.dT hk5
          have hg6 : (upd H5 d (.dT (kv4 ++ [(keyN (prod t' g), v5)]))) lg = some (.lst gz) := by
            rw [upd_ne (ne_of hgz4 hk4 (fun z => nomatch z))]
            exact s45 _ _ hgz4
          have hgzl : gz.length ≤ kv4.length := by
            rw [Paired.length pgz, Paired.length pk4, List.length_map, List.length_append]
            omega
          refine ⟨_, rfl, .inl ⟨rfl, _, SqL.of hg6⟩, _, rfl, lg, _, _, rfl, rfl, hg6, by rw [sizeLine_eq]; omega, ?_⟩
          have t7 := Tm.lst (o := .lst (gz ++ [.ref b1])) hg6
          have tt := (Tm.of s45).trans (t6.trans t7)
          refine ⟨_, _, _, M' ++ [(prod t' g, w' ++ [j])], rfl, ?_, ?_, ⟨kv4 ++ [(keyN (prod t' g), v5)], ?_, ?_⟩, ⟨gz ++ [.ref b1], upd_same, ?_⟩, ?_, TNs.tm tt hx4⟩
          · exact same_mut (same_mut (sm4.trans s45) hd0) hlg0
          · rw [hnx, List.append_assoc]
          · rw [upd_ne hdg, upd_same]
          · rw [← List.append_assoc]
            exact Paired.app (DEs.tm tt pk4) (Paired.one ⟨rfl, hv5.tm (t6.trans t7)⟩)
          · rw [List.map_append]
            exact Paired.app (TNs.tm tt pgz4) (Paired.one (hv.tn.tm tt))
          · rw [upd_ne hlvg, upd_ne (ne_of hlv4 hk4 (fun z => nomatch z))]
            exact s45 _ _ hlv4
      · rintro σ3 H3 ⟨z7, z8, z9, M', rfl, sm3, eM', dw3, lt3, hlv3, hx3⟩
        have e : gs.take mxs.length = gs := by rw [Paired.length hmx, List.take_length]
        rw [e] at eM'
        refine ⟨_, _, _, _, M', rfl, sm3, ?_, ?_, lt3, hlv3, hx3⟩
        · show qq gs n (a + i + 1) = _
          rw [hstep, eM']
        · show DW H3 d (qq gs n (a + i + 1))
          rw [hstep, eM']
          exact dw3
    · rintro σ2 H2 ⟨y6, y7, y8, y9, M, rfl, sm2, eM, dw2, lt2, hlv2, hx2⟩
      have e : a + xs.length = (qq gs n a).length := by omega
      rw [e] at eM dw2
      refine ⟨_, rfl, ⟨⟨lg, _, _, _, _, _, rfl, ?_⟩, sm2, dw2, ?_, by omega⟩⟩
      · rw [eM, List.map_append, List.drop_append_of_le_length (by rw [List.length_map]; exact Nat.le_refl _), List.drop_of_length_le (by rw [List.length_map]; exact Nat.le_refl _), List.nil_append]
        exact lt2
      · rw [eM, List.length_append]
        omega
end
end Lt

set_option linter.all false
set_option Elab.async false
/-! powers of a turn; the whole of the turns -/
namespace Lt
def pw (n : Nat) (t : List Nat) : Nat → List Nat
  | 0 => List.range n
  | k + 1 => prod (pw n t k) t
theorem Mk.prod {gs : List (List Nat)} {n : Nat} (hg : ∀ g ∈ gs, IsP n g) {a b : List Nat} (ha : Mk gs n a) (hb : Mk gs n b) : Mk gs n (prod a b) := by
  induction hb with
  | still => rw [prod_still_r (ha.isP hg).lt]; exact ha
  | @step t g ht hm ih =>
    rw [← prod_assoc (x := a) fun i hi => by rw [(ht.isP hg).len]; exact (ha.isP hg).lt i hi]
    exact .step ih hm
/-- all the words, the lock being small -/
@[irreducible] def LL (gs : List (List Nat)) (n : Nat) : List W := qq gs n 300
theorem LL_eq (gs : List (List Nat)) (n : Nat) : LL gs n = qq gs n 300 := by unfold LL; rfl
theorem LL_of {gs : List (List Nat)} {n m a : Nat} (hf : Few gs n m) (hm : m ≤ 240) (h : (qq gs n a).length = a) : qq gs n a = LL gs n := by
  have := hf.qq a
  rw [LL_eq]
  exact (qq_end' gs n (by omega) (by omega)).symm
theorem LL_mem {gs : List (List Nat)} {n m : Nat} (hf : Few gs n m) (hm : m ≤ 240) (t : List Nat) : t ∈ (LL gs n).map (·.1) ↔ Mk gs n t := by
  rw [LL_eq]
  exact qq_full (Nat.le_trans (hf.qq 300) (by omega)) t
end Lt

set_option Elab.async false
set_option linter.all false
set_option maxRecDepth 100000
set_option maxHeartbeats 4000000
namespace Lt
open PySem PySem.Spec PyProof.Rows L2
/-! ### what is a lock -/
def lenOf : PyData → Nat
  | .tuple ds => ds.length
  | _ => 0
def firstBad : List PyData → Nat → Nat → Option Nat
  | [], _, _ => none
  | d :: ds, n, i => if isPermD d n = true then firstBad ds n (i + 1) else some i
def lockBad : PyData → Option (Option Nat)
  | .tuple ds => if 1 ≤ ds.length ∧ ds.length ≤ 4 then (if isTup (ds.headD .none) = true ∧ 2 ≤ lenOf (ds.headD .none) ∧ lenOf (ds.headD .none) ≤ 9 then (firstBad ds (lenOf (ds.headD .none)) 0).map some else some (some 0)) else some none
  | _ => some none
def plV : Option Nat → V
  | none => .non
  | some i => nI i
def Sml (d : PyData) : Prop := ∀ ds, d = .tuple ds → ds.length ≤ 1000 ∧ ∀ e ∈ ds, ∀ es, e = .tuple es → es.length < 64
section
variable {P : Program} {w : World} {K : PySem.W.Frag} {mg : Str → Option Value} {base : Heap} {CL CM CT : Addr}
/-! ### check_lock -/
def spCheck (CL : Addr) : Sp := fun vs H Q E => ∃ (v : V) (d : PyData), vs = [v] ∧ Rp H v d ∧ Sml d ∧ (lockBad d = none → ∀ H', Same H H' → Q .non H') ∧ ∀ pl, lockBad d = some pl → BadF CL "place" (plV pl) H E
theorem sc_check_lock : FnScope ["lock", "place", "given"] ["lock"] (defScope s_check_lock) := ⟨rfl, rfl, rfl, by decide +kernel, rfl, by decide +kernel, by decide +kernel⟩
theorem has_check_lock (T : Top K mg "check_lock" s_check_lock ["lock"]) (B : Bi mg) (X1 : ErrI P w K mg base "BadLock" "place" CL) (C1 : Cn mg "MOST_GIVEN" 4) (C2 : Cn mg "FEWEST_PLACES" 2) (C3 : Cn mg "MOST_PLACES" 9)
    (hP : Has P w K mg base CX0 3 "is_permutation" ["value", "size"] spPerm) : Has P w K mg base (L2.CX P w) 4 "check_lock" ["lock"] (spCheck CL) := by
  refine T.okX sc_check_lock (fun vs H Q E h => ?_) (fun f cdv A outer s H vs Q E hr h => ?_)
  · obtain ⟨v, d, rfl, _⟩ := h
    rfl
  · obtain ⟨v, d, rfl, hd, hs, qg, qb⟩ := h
    obtain ⟨t1, e1⟩ := C1
    obtain ⟨t2, e2⟩ := C2
    obtain ⟨t3, e3⟩ := C3
    have hr2 : Room 2 _ := hr.mono (by decide)
    refine ⟨_, pss_cons (ps_if (PW.pt (pw_or (pt_not (pt_val (pe_callB call_isi (by rfl) B.isinstance PyProof.Rows.boot_isinstance (pa_cons (pv 0) (pa_cons (pe_bltn (by rfl) B.tuple PyProof.Rows.boot_tuple (rr_ty "tuple")) pa_nil)))))
          (pw_or1 (pt_not (pt_chain op_le op_le pe_int (pe_callB call_len_seq (by rfl) B.len PySem.boot_len (pa_cons (pv 0) pa_nil)) (pe_glob (v := .int 4) rfl e1 ⟨_, rfl⟩))))))
        (pss_one (ps_raise rfl (takes_of rfl rfl rfl rfl) (pmk_errI X1 hr2 (by rfl) (pa_cons pe_non pa_nil)))) pss_nil)
      (pss_cons (ps_if (PW.pt (pw_or (pt_not (pt_val (pe_callB call_isi (by rfl) B.isinstance PyProof.Rows.boot_isinstance (pa_cons (pe_ix ix_tup (pv 0) pe_int (fun _ _ => rfl)) (pa_cons (pe_bltn (by rfl) B.tuple PyProof.Rows.boot_tuple (rr_ty "tuple")) pa_nil)))))
          (pw_or1 (pt_not (pt_chain op_le op_le (pe_glob (v := .int 2) rfl e2 ⟨_, rfl⟩) (pe_callB call_len_seq (by rfl) B.len PySem.boot_len (pa_cons (pe_ix ix_tup (pv 0) pe_int (fun _ _ => rfl)) pa_nil)) (pe_glob (v := .int 9) rfl e3 ⟨_, rfl⟩))))))
        (pss_one (ps_raise rfl (takes_of rfl rfl rfl rfl) (pmk_errI X1 hr2 (by rfl) (pa_cons pe_int pa_nil)))) pss_nil)
      (pss_one (ps_for (passes_of rfl) rfl (pi_enumT (by rfl) B.enumerate (pa_cons (pv 0) pa_nil)) (pg_tup rfl (pgs_cons (pg_name (i := 1) sc_check_lock.nd rfl (Or.inl rfl)) (pgs_cons (pg_name (i := 2) sc_check_lock.nd rfl (Or.inl rfl)) pgs_nil)))
        (pss_one (ps_if (pt_not (pt_val (pe_has hP hr (by rfl) (pa_cons (pv 2) (pa_cons (pe_callB call_len_seq (by rfl) B.len PySem.boot_len (pa_cons (pe_ix ix_tup (pv 0) pe_int (fun _ _ => rfl)) pa_nil)) pa_nil)))))
          (pss_one (ps_raise rfl (takes_of rfl rfl rfl rfl) (pmk_errI X1 hr2 (by rfl) (pa_cons (pv 1) pa_nil)))) pss_nil))))), ?_⟩
    have bad : ∀ {pl : Option Nat} {H' : Hp}, lockBad d = some pl → Same H H' → BadF CL "place" (plV pl) H' E := fun e s => (qb _ e).same s
    by_cases hT : isTup d = true
    rotate_left
    · have e : lockBad d = some none := by cases d <;> first | rfl | exact absurd rfl hT
      have hF : isTup d = false := by simpa using hT
      refine ⟨_, rfl, v, .ty "tuple", _, _, isTup d, rfl, .ty _, rp_ty hd, kit_ty (kit_tup d), isTup d, rfl, ?_⟩
      rw [hF]
      exact mk_read X1.oex X1.no (bad e (Same.refl _))
    cases hd with
    | non => cases hT
    | bl => cases hT
    | int => cases hT
    | str => cases hT
    | lst => cases hT
    | @tup a xs ds ha hx =>
      have hxl := hx.len
      obtain ⟨hs1, hs2⟩ := hs ds rfl
      refine ⟨_, rfl, .ref a, .ty "tuple", _, _, true, rfl, .ty _, rp_ty (.tup ha hx), kit_ty (kit_tup (.tuple ds)), true, rfl, iteF ?_⟩
      have none_of : ¬ (1 ≤ ds.length ∧ ds.length ≤ 4) → lockBad (.tuple ds) = some none := fun h => by
        show (if 1 ≤ ds.length ∧ ds.length ≤ 4 then _ else _) = _
        rw [if_neg h]
      refine ⟨_, rfl, a, xs, rfl, .inr (ha.sq), 1, (xs.length : Int), rfl, rfl, _, rfl, ite2 (fun h1 => ⟨_, _, rfl, rfl, _, rfl, ite2 (fun h2 => ?_) (fun h2 => ?_)⟩) (fun h1 => ⟨_, rfl, ?_⟩)⟩
      · have h2 : ¬ ((xs.length : Int) ≤ 4) := fun z => by rw [decide_eq_true z] at h2; cases h2
        exact mk_read X1.oex X1.no (bad (none_of (by omega)) (Same.refl _))
      rotate_left
      · have h1 : ¬ ((1 : Int) ≤ (xs.length : Int)) := fun z => h1 (decide_eq_true z)
        exact mk_read X1.oex X1.no (bad (none_of (by omega)) (Same.refl _))
      have h2 : (xs.length : Int) ≤ 4 := by
        by_cases z : (xs.length : Int) ≤ 4
        · exact z
        · rw [decide_eq_false z] at h2
          exact absurd rfl h2
      have h1 : (1 : Int) ≤ (xs.length : Int) := of_decide_eq_true h1
      have hlen : 1 ≤ ds.length ∧ ds.length ≤ 4 := ⟨by omega, by omega⟩
      -- the first given turn
      cases hx with
      | nil => exact absurd hlen.1 (by decide)
      | @cons x xr dd dr r0 rr =>
      have hx : RpAll H (x :: xr) (dd :: dr) := .cons r0 rr
      have eLB : lockBad (.tuple (dd :: dr)) = if isTup dd = true ∧ 2 ≤ lenOf dd ∧ lenOf dd ≤ 9 then (firstBad (dd :: dr) (lenOf dd) 0).map some else some (some 0) := by
        show (if 1 ≤ (dd :: dr).length ∧ (dd :: dr).length ≤ 4 then _ else _) = _
        rw [if_pos hlen]
        rfl
      have zero_of : ¬ (isTup dd = true ∧ 2 ≤ lenOf dd ∧ lenOf dd ≤ 9) → lockBad (.tuple (dd :: dr)) = some (some 0) := fun h => by rw [eLB, if_neg h]
      have at0 : atI (x :: xr) 0 = some x := atI_nat (j := 0) rfl
      refine ⟨_, rfl, a, _, 0, x, rfl, rfl, ha.sq, at0, x, .ty "tuple", _, _, isTup dd, rfl, .ty _, rp_ty r0, kit_ty (kit_tup dd), isTup dd, rfl, ?_⟩
      by_cases hT2 : isTup dd = true
      rotate_left
      · have hF : isTup dd = false := by simpa using hT2
        rw [hF]
        exact mk_read (v := .int 0) X1.oex X1.no (bad (zero_of fun z => hT2 z.1) (Same.refl _))
      rw [hT2]
      refine iteF ?_
      cases r0 with
      | non => cases hT2
      | bl => cases hT2
      | int => cases hT2
      | str => cases hT2
      | lst => cases hT2
      | @tup b ys es hb hy =>
      have hyl := hy.len
      refine ⟨_, rfl, a, _, 0, .ref b, rfl, rfl, ha.sq, at0, b, ys, rfl, .inr (hb.sq), 2, (ys.length : Int), rfl, rfl, _, rfl, ite2 (fun h3 => ⟨_, _, rfl, rfl, _, rfl, ite2 (fun h4 => ?_) (fun h4 => ?_)⟩) (fun h3 => ⟨_, rfl, ?_⟩)⟩
      · have h4 : ¬ ((ys.length : Int) ≤ 9) := fun z => by rw [decide_eq_true z] at h4; cases h4
        exact mk_read (v := .int 0) X1.oex X1.no (bad (zero_of fun z => h4 (by have := z.2.2; show (ys.length : Int) ≤ 9; rw [hyl]; exact Int.ofNat_le.mpr this)) (Same.refl _))
      rotate_left
      · have h3 : ¬ ((2 : Int) ≤ (ys.length : Int)) := fun z => h3 (decide_eq_true z)
        exact mk_read (v := .int 0) X1.oex X1.no (bad (zero_of fun z => h3 (by have := z.2.1; show (2 : Int) ≤ (ys.length : Int); rw [hyl]; exact Int.ofNat_le.mpr this)) (Same.refl _))
      have h4 : (ys.length : Int) ≤ 9 := by
        by_cases z : (ys.length : Int) ≤ 9
        · exact z
        · rw [decide_eq_false z] at h4
          exact absurd rfl h4
      have h3 : (2 : Int) ≤ (ys.length : Int) := of_decide_eq_true h3
      rw [if_pos ⟨rfl, by show 2 ≤ es.length; omega, by show es.length ≤ 9; omega⟩] at eLB
      have eLB : lockBad (.tuple (.tuple es :: dr)) = (firstBad (.tuple es :: dr) es.length 0).map some := eLB
      refine ⟨_, rfl, a, _, rfl, ha.sq, for_enumT (K := K) (xs := .ref b :: xr) (fun i σ H' => ∃ y z, σ = [some (.ref a), y, z] ∧ Same H H' ∧ firstBad (.tuple es :: dr) es.length 0 = firstBad ((.tuple es :: dr).drop i) es.length i)
        ⟨none, none, rfl, Same.refl _, rfl⟩ (fun i σ H' _ ⟨_, _, _, s, _⟩ => (ha.sm s).sq) ?_ ?_⟩
      · rintro i u σ H' T hi ⟨y, z, rfl, sm, hfb⟩ hTn
        obtain ⟨du, hdu, hru⟩ := hx.get hi
        have sT := same_new (o := .tup [nI i, u]) hTn
        have sm' := sm.trans sT
        have hdrop : (PyData.tuple es :: dr).drop i = du :: (PyData.tuple es :: dr).drop (i + 1) := by
          obtain ⟨hl, e⟩ := List.getElem?_eq_some_iff.mp hdu
          rw [List.drop_eq_getElem_cons hl, e]
        rw [hdrop] at hfb
        refine ⟨T, _, rfl, SqT.of upd_same, rfl, nI i, _, rfl, u, _, rfl, rfl, ?_⟩
        refine ⟨_, rfl, _, rfl, a, _, 0, .ref b, rfl, rfl, (ha.sm sm').sq, at0, b, ys, rfl, .inr ((hb.sm sm').sq), u, du, es.length, by rw [hyl]; rfl, Rp.same sm' _ _ hru, fun es' e => ?_, by omega, fun H2 s2 => ?_⟩
        · exact hs2 du (List.mem_of_getElem? hdu) es' e
        refine ⟨isPermD du es.length, rfl, ?_⟩
        by_cases hp : isPermD du es.length = true
        · rw [hp]
          refine iteF ⟨_, _, rfl, sm'.trans s2, ?_⟩
          rw [hfb]
          show (if isPermD du es.length = true then _ else _) = _
          rw [if_pos hp]
        · have hF : isPermD du es.length = false := by simpa using hp
          rw [hF]
          refine iteT ⟨_, rfl, mk_read X1.oex X1.no (bad (pl := some i) ?_ (sm'.trans s2))⟩
          rw [eLB, hfb]
          rw [show firstBad (du :: List.drop (i + 1) (PyData.tuple es :: dr)) es.length i = some i from if_neg hp]
          rfl
      · rintro σ H' ⟨y, z, rfl, sm, hfb⟩
        refine qg ?_ H' sm
        rw [eLB, hfb, List.drop_of_length_le (by rw [hxl]; exact Nat.le_refl _)]
        rfl
end
end Lt

set_option Elab.async false
set_option linter.all false
set_option maxRecDepth 100000
set_option maxHeartbeats 4000000
namespace Lt
open PySem PySem.Spec PyProof.Rows L2
def GL (ls : List (List Nat)) (n : Nat) : Prop := 1 ≤ ls.length ∧ ls.length ≤ 4 ∧ 2 ≤ n ∧ n ≤ 9 ∧ ∀ g ∈ ls, IsP n g
/-- the argument lock: no lock, too great a one, or a lock of which k -/
def LockIn (CL CM : Addr) (v : V) (H : Hp) (E : XK) (k : List (List Nat) → Nat → Prop) : Prop := ∃ d, Rp H v d ∧ Sml d ∧ (∀ pl, lockBad d = some pl → BadF CL "place" (plV pl) H E) ∧
  (lockBad d = none → ∃ ls n, TT H v ls ∧ GL ls n ∧ (∀ L, Wd ls n L → 240 < L.length → BadF CM "most" (.int 240) H E) ∧ k ls n)
theorem LockIn.imp {CL CM : Addr} {v : V} {H : Hp} {E : XK} {k k' : List (List Nat) → Nat → Prop} (h : LockIn CL CM v H E k) (i : ∀ ls n, TT H v ls → GL ls n → k ls n → k' ls n) : LockIn CL CM v H E k' := by
  obtain ⟨d, h1, h2, h3, h4⟩ := h
  refine ⟨d, h1, h2, h3, fun e => ?_⟩
  obtain ⟨ls, n, a, b, c, q⟩ := h4 e
  exact ⟨ls, n, a, b, c, i ls n a b q⟩
theorem numsOf_dT (t : List Nat) : numsOf (dT t) = t.map Int.ofNat := by
  show (t.map dN).map numOf = _
  rw [List.map_map]
  rfl
theorem isNums_dT (t : List Nat) : isNums (dT t) = true := by
  show (t.map dN).all isNum = true
  rw [List.all_map]
  exact List.all_eq_true.mpr fun _ _ => rfl
theorem ofNat_inj : ∀ x y : Nat, Int.ofNat x = Int.ofNat y → x = y := fun _ _ e => Int.ofNat.inj e
theorem perm_ofNat {a b : List Nat} (h : (a.map Int.ofNat).Perm (b.map Int.ofNat)) : a.Perm b := by
  have z := h.map Int.toNat
  rw [List.map_map, List.map_map] at z
  have e : ∀ l : List Nat, l.map (Int.toNat ∘ Int.ofNat) = l := fun l => (List.map_congr_left (g := id) fun _ _ => rfl).trans (List.map_id l)
  rw [e, e] at z
  exact z
theorem isPermD_dT (t : List Nat) (n : Nat) : isPermD (dT t) n = decide (IsP n t) := by
  unfold isPermD
  rw [isNums_dT, Bool.true_and, numsOf_dT]
  exact decide_eq_decide.mpr ⟨fun h => perm_ofNat h, fun h => List.Perm.map _ h⟩
theorem firstBad_good {n : Nat} : ∀ (ls : List (List Nat)) (i : Nat), (∀ g ∈ ls, IsP n g) → firstBad (ls.map dT) n i = none
  | [], _, _ => rfl
  | g :: ls, i, h => by
    show (if isPermD (dT g) n = true then firstBad (ls.map dT) n (i + 1) else some i) = none
    rw [isPermD_dT, decide_eq_true (h g List.mem_cons_self), if_pos rfl]
    exact firstBad_good ls (i + 1) fun x hx => h x (List.mem_cons_of_mem _ hx)
theorem lockBad_good {ls : List (List Nat)} {n : Nat} (h : GL ls n) : lockBad (.tuple (ls.map dT)) = none := by
  obtain ⟨h1, h2, h3, h4, h5⟩ := h
  cases ls with
  | nil => exact absurd h1 (by decide)
  | cons g ls =>
    have hg := (h5 g List.mem_cons_self).len
    show (if 1 ≤ ((g :: ls).map dT).length ∧ ((g :: ls).map dT).length ≤ 4 then (if isTup (dT g) = true ∧ 2 ≤ lenOf (dT g) ∧ lenOf (dT g) ≤ 9 then (firstBad ((g :: ls).map dT) (lenOf (dT g)) 0).map some else some (some 0)) else some none) = none
    have e : lenOf (dT g) = n := by
      show (g.map dN).length = n
      rw [List.length_map, hg]
    rw [if_pos ⟨by rw [List.length_map]; exact h1, by rw [List.length_map]; exact h2⟩, e, if_pos ⟨rfl, h3, h4⟩, firstBad_good _ _ h5]
    rfl
theorem sml_good {ls : List (List Nat)} {n : Nat} (h : GL ls n) : Sml (.tuple (ls.map dT)) := by
  obtain ⟨h1, h2, h3, h4, h5⟩ := h
  intro ds e
  injection e with e
  subst e
  refine ⟨by rw [List.length_map]; omega, fun x hx es ee => ?_⟩
  obtain ⟨g, hg, rfl⟩ := List.mem_map.mp hx
  injection ee with ee
  subst ee
  rw [List.length_map, (h5 g hg).len]
  omega
theorem Few.wd {ls : List (List Nat)} {n m : Nat} (h : Few ls n m) (hm : m ≤ 240) {L : List (List Nat × List Nat)} (hL : Wd ls n L) : ∃ a, L = Lt.qq ls n a ∧ L.length = a ∧ L.length ≤ m := by
  obtain ⟨a, rfl, h1, h2⟩ := hL
  have h3 := h.qq a
  exact ⟨a, rfl, by omega, h3⟩
theorem lockIn_good {CL CM : Addr} {v : V} {H : Hp} {E : XK} {k : List (List Nat) → Nat → Prop} {ls : List (List Nat)} {n m : Nat} (ht : TT H v ls) (hg : GL ls n) (hf : Few ls n m) (hm : m ≤ 240) (q : k ls n) : LockIn CL CM v H E k :=
  ⟨_, ht.rp, sml_good hg, fun pl e => (by rw [lockBad_good hg] at e; cases e), fun _ => ⟨ls, n, ht, hg, fun L hL h => by
    obtain ⟨a, _, _, z⟩ := hf.wd hm hL
    omega, q⟩⟩
theorem TT.head {H : Hp} {v : V} {ls : List (List Nat)} {n : Nat} (h : TT H v ls) (hg : GL ls n) : ∃ a xs b, v = .ref a ∧ H a = some (.tup xs) ∧ Paired (TN H) xs ls ∧ atI xs 0 = some (.ref b) ∧ ∃ t, RT H b (nIs t) ∧ t.length = n := by
  obtain ⟨a, xs, rfl, ha, p⟩ := h
  cases p with
  | nil => exact absurd hg.1 (by decide)
  | @cons x t xr tr r rr =>
    obtain ⟨b, rfl, hb⟩ := r
    exact ⟨a, _, b, rfl, ha, .cons ⟨b, rfl, hb⟩ rr, atI_nat (j := 0) rfl, t, hb, (hg.2.2.2.2 t List.mem_cons_self).len⟩
section
variable {P : Program} {w : World} {K : PySem.W.Frag} {mg : Str → Option Value} {base : Heap} {CL CM CT : Addr}
/-! ### made_words -/
def spMade (CL CM : Addr) : Sp := fun vs H Q E => ∃ v, vs = [v] ∧ LockIn CL CM v H E (fun ls n => ∀ d H' L, Same H H' → H d = none → DW H' d L → Wd ls n L → L.length ≤ 240 → Q (.ref d) H')
theorem sc_made_words : FnScope ["lock", "made"] ["lock"] (defScope s_made_words) := ⟨rfl, rfl, rfl, by decide +kernel, rfl, by decide +kernel, by decide +kernel⟩
theorem has_made_words (T : Top K mg "made_words" s_made_words ["lock"]) (B : Bi mg) (X2 : ErrI P w K mg base "TooMany" "most" CM) (C1 : Cn mg "MOST_TURNS" 240)
    (hC : Has P w K mg base (L2.CX P w) 4 "check_lock" ["lock"] (spCheck CL)) (hW : Has P w K mg base CX0 2 "words_of" ["makers", "size"] spWords) : Has P w K mg base (L2.CX P w) 5 "made_words" ["lock"] (spMade CL CM) := by
  refine T.okX sc_made_words (fun vs H Q E h => ?_) (fun f cdv A outer s H vs Q E hr h => ?_)
  · obtain ⟨v, rfl, _⟩ := h
    rfl
  · obtain ⟨v, rfl, d, hd, hs, hb, hg⟩ := h
    obtain ⟨t1, e1⟩ := C1
    have hr2 : Room 2 _ := hr.mono (by decide)
    refine ⟨_, pss_cons (ps_expr (pe_hasX (E := E) hC hr (by rfl) (passes_call (takes_of rfl rfl rfl rfl) (fun _ _ _ _ h => h)) (pa_cons (pv 0) pa_nil)))
      (pss_cons (ps_set (i := 1) sc_made_words.nd rfl (Or.inl rfl) (pe_has hW hr2 (by rfl) (pa_cons (pv 0) (pa_cons (pe_callB call_len_seq (by rfl) B.len PySem.boot_len (pa_cons (pe_ix ix_tup (pv 0) pe_int (fun _ _ => rfl)) pa_nil)) pa_nil))))
      (pss_cons (ps_if (pt_cmpR op_gt (pe_callB call_len_dT (by rfl) B.len PySem.boot_len (pa_cons (pv 1) pa_nil)) (pe_glob (v := .int 240) rfl e1 ⟨_, rfl⟩) (nomark _))
        (pss_one (ps_raise rfl (takes_of rfl rfl rfl rfl) (pmk_errI X2 hr2 (by rfl) (pa_cons (pe_glob (v := .int 240) rfl e1 ⟨_, rfl⟩) pa_nil)))) pss_nil)
      (pss_one (ps_ret (pv 1))))), ?_⟩
    refine ⟨_, rfl, v, d, rfl, hd, hs, fun eg H1 s1 => ?_, hb⟩
    obtain ⟨ls, n, ht, hgl, hM, q⟩ := hg eg
    have ht1 := ht.tm (.of s1)
    obtain ⟨a, xs, b, rfl, ha, hp, h0, t, hbt, htl⟩ := ht1.head hgl
    refine ⟨_, rfl, _, rfl, a, xs, 0, .ref b, rfl, rfl, SqT.of ha, h0, b, _, rfl, .inr (hbt.sq), .ref a, ls, n, by rw [nIs_len, htl]; rfl, ht1, hgl.2.2.2.2, by have := hgl.2.2.2.1; omega, by have := hgl.2.1; omega, fun dd H2 L s2 hdd hdw hwd => ?_⟩
    obtain ⟨kvs, hk, pk⟩ := hdw
    have s12 := s1.trans s2
    refine ⟨_, rfl, dd, kvs, rfl, hk, _, _, rfl, rfl, _, rfl, ite2 (fun h => ?_) (fun h => ?_)⟩
    · have h : (240 : Int) < (kvs.length : Int) := of_decide_eq_true h
      have hl : kvs.length = L.length := Paired.length pk
      exact mk_read X2.oex X2.no ((hM L hwd (by omega)).same s12)
    · have h : ¬ ((240 : Int) < (kvs.length : Int)) := fun z => h (decide_eq_true z)
      have hl : kvs.length = L.length := Paired.length pk
      exact ⟨_, rfl, q dd H2 L s12 (s1.free hdd) ⟨kvs, hk, pk⟩ hwd (by omega)⟩
/-! ### is_turn, are_turns, check_turn -/
abbrev numL (L : List (List Nat × List Nat)) : List (List Int) := L.map fun x : List Nat × List Nat => x.1.map Int.ofNat
def isTurnD (L : List (List Nat × List Nat)) (d : PyData) : Bool := isNums d && decide (numsOf d ∈ numL L)
theorem isTurnD_dT (L : List (List Nat × List Nat)) (t : List Nat) : isTurnD L (dT t) = decide (t ∈ L.map (·.1)) := by
  unfold isTurnD
  rw [isNums_dT, Bool.true_and, numsOf_dT]
  refine decide_eq_decide.mpr ⟨fun h => ?_, fun h => ?_⟩
  · obtain ⟨x, hx, e⟩ := List.mem_map.mp h
    rw [← (List.map_inj_right ofNat_inj).mp e]
    exact List.mem_map.mpr ⟨x, hx, rfl⟩
  · obtain ⟨x, hx, e⟩ := List.mem_map.mp h
    exact List.mem_map.mpr ⟨x, hx, by rw [e]⟩
end
end Lt


set_option Elab.async false
set_option linter.all false
set_option maxRecDepth 100000
set_option maxHeartbeats 4000000
namespace Lt
open PySem PySem.Spec PyProof.Rows L2
section
variable {P : Program} {w : World} {K : PySem.W.Frag} {mg : Str → Option Value} {base : Heap} {CL CM CT : Addr}
end
end Lt

set_option Elab.async false
set_option linter.all false
set_option maxRecDepth 100000
set_option maxHeartbeats 1000000
namespace Lt
open PySem PySem.Spec PyProof.Rows L2
section
variable {P : Program} {w : World} {K : PySem.W.Frag} {mg : Str → Option Value} {base : Heap} {CT : Addr}
end
end Lt

set_option Elab.async false
set_option linter.all false
set_option maxRecDepth 100000
set_option maxHeartbeats 1000000
/-! is_step, are_bits -/
namespace Lt
open PySem PySem.Spec PyProof.Rows L2
section
variable {P : Program} {w : World} {K : PySem.W.Frag} {mg : Str → Option Value} {base : Heap}
/-! ### are_bits -/
end
end Lt

set_option Elab.async false
set_option linter.all false
set_option maxRecDepth 100000
set_option maxHeartbeats 1000000
/-! class Dial -/
namespace Lt
open PySem PySem.Spec PyProof.Rows L2
def dF (m l : Addr) : List (Str × V) := [("_made", .ref m), ("_stood", .ref l)]
/-- a dial at p of the class at C: m its turns, l what it stood at -/
structure DialAt (H : Hp) (C p m l : Addr) (ls : List (List Nat)) (n : Nat) (past : List (List Nat)) : Prop where
  ins : ∃ dx, H p = some (.ins C dx (dF m l))
  made : DW H m (LL ls n)
  stood : ∃ xs, H l = some (.lst xs) ∧ Paired (TN H) xs past
  ok : ∀ t ∈ past, IsP n t
  ne : past ≠ []
theorem DialAt.same {H H' : Hp} {C p m l : Addr} {ls : List (List Nat)} {n : Nat} {past : List (List Nat)} (h : DialAt H C p m l ls n past) (s : Same H H') : DialAt H' C p m l ls n past :=
  ⟨let ⟨dx, e⟩ := h.ins; ⟨dx, s _ _ e⟩, h.made.same s, let ⟨xs, e, q⟩ := h.stood; ⟨xs, s _ _ e, TNs.tm (.of s) q⟩, h.ok, h.ne⟩
/-- its list has changed -/
theorem DialAt.put {H : Hp} {C p m l : Addr} {ls : List (List Nat)} {n : Nat} {past past' : List (List Nat)} {xs : List V} (h : DialAt H C p m l ls n past) (hx : Paired (TN H) xs past') (ok : ∀ t ∈ past', IsP n t) (ne : past' ≠ []) : DialAt (upd H l (.lst xs)) C p m l ls n past' := by
  obtain ⟨⟨dx, e⟩, hm, ⟨ys, hl, _⟩, _, _⟩ := h
  have tm : Tm H (upd H l (.lst xs)) := Tm.lst hl
  refine ⟨⟨dx, (upd_ne (ne_of e hl (fun z => nomatch z))).trans e⟩, ?_, ⟨xs, upd_same, TNs.tm tm hx⟩, ok, ne⟩
  obtain ⟨kvs, h1, h2⟩ := id hm
  exact hm.tm tm (upd_ne (ne_of h1 hl (fun z => nomatch z)))
abbrev mDial (i : Nat) : Stmt := inClass s_Dial i
section
variable (P : Program) (w : World) (K : PySem.W.Frag) (mg : Str → Option Value) (base : Heap)
/-- the method m of the class at C keeps the promise sp -/
def HasM (CX : CXT) (k : Nat) (C : Addr) (m : Str) (ps : List Str) (sp : Sp) : Prop :=
  ∃ (f : Addr) (fd : FuncData), Meth K C m f ∧ Binds K fd ps [] ∧ FnOk P w K mg base CX k f fd ps sp
/-- a property of it -/
def HasP (CX : CXT) (k : Nat) (C : Addr) (m : Str) (sp : Sp) : Prop :=
  ∃ (p f : Addr) (fd : FuncData), PropOf K C m p f ∧ Binds K fd ["self"] [] ∧ FnOk P w K mg base CX k f fd ["self"] sp
/-- its __init__ -/
def HasI (CX : CXT) (k : Nat) (C : Addr) (x : Str) (ps : List Str) (sp : Sp) : Prop :=
  ∃ (f : Addr) (fd : FuncData), mg x = some (.ref C) ∧ L2.Mk K C f ∧ Binds K fd ps [] ∧ FnOk P w K mg base CX k f fd ps sp
structure MethF (C : Addr) (m q : Str) (st : Stmt) (ps : List Str) : Prop where
  f : ∃ (f : Addr) (fd : FuncData), Meth K C m f ∧ Binds K fd ps [] ∧ Fun K m q st f fd
structure PropF (C : Addr) (m q : Str) (st : Stmt) : Prop where
  f : ∃ (p f : Addr) (fd : FuncData), PropOf K C m p f ∧ Binds K fd ["self"] [] ∧ Fun K m q st f fd
structure InitF (C : Addr) (x : Str) (st : Stmt) (ps : List Str) : Prop where
  f : ∃ (f : Addr) (fd : FuncData), mg x = some (.ref C) ∧ L2.Mk K C f ∧ Binds K fd ps [] ∧ Fun K "__init__" (x ++ ".__init__") st f fd
end
section
variable {P : Program} {w : World} {K : PySem.W.Frag} {mg : Str → Option Value} {base : Heap}
theorem MethF.ok {C : Addr} {m q : Str} {st : Stmt} {N ps : List Str} {k : Nat} {sp : Sp} (T : MethF K C m q st ps) (S : FnScope N ps (defScope st)) (len : ∀ vs H Q E, sp vs H Q E → vs.length = ps.length)
    (hbody : ∀ (f : Addr) (cdv : Value) (A : Around) (outer : List Env) (s : Shared) (H : Hp) (vs : List V) (Q : VK) (E : XK), Room k (A.deeper (envOfC q (defScope st) s.heap.objs.size f cdv)) → sp vs H Q E →
      ∃ t, PSs (cxOf CX0 P w K mg base N q (defScope st) f cdv A outer s H E).nox (defBody st) t ∧ t { nx := fun _ H' => Q .non H', rt := Q } (start N vs) H) : HasM P w K mg base CX0 (k + 1) C m ps sp := by
  obtain ⟨f, fd, hm, b, F⟩ := T.f
  exact ⟨f, fd, hm, b, F.ok S len fun cdv A outer s H vs Q E hr h => hbody f cdv A outer s H vs Q E hr h⟩
theorem MethF.okX {C : Addr} {m q : Str} {st : Stmt} {N ps : List Str} {k : Nat} {sp : Sp} (T : MethF K C m q st ps) (S : FnScope N ps (defScope st)) (len : ∀ vs H Q E, sp vs H Q E → vs.length = ps.length)
    (hbody : ∀ (f : Addr) (cdv : Value) (A : Around) (outer : List Env) (s : Shared) (H : Hp) (vs : List V) (Q : VK) (E : XK), Room k (A.deeper (envOfC q (defScope st) s.heap.objs.size f cdv)) → sp vs H Q E →
      ∃ t, PSs (cxOf (L2.CX P w) P w K mg base N q (defScope st) f cdv A outer s H E) (defBody st) t ∧ t { nx := fun _ H' => Q .non H', rt := Q } (start N vs) H) : HasM P w K mg base (L2.CX P w) (k + 1) C m ps sp := by
  obtain ⟨f, fd, hm, b, F⟩ := T.f
  exact ⟨f, fd, hm, b, F.okX S len fun cdv A outer s H vs Q E hr h => hbody f cdv A outer s H vs Q E hr h⟩
theorem PropF.ok {C : Addr} {m q : Str} {st : Stmt} {N : List Str} {k : Nat} {sp : Sp} (T : PropF K C m q st) (S : FnScope N ["self"] (defScope st)) (len : ∀ vs H Q E, sp vs H Q E → vs.length = 1)
    (hbody : ∀ (f : Addr) (cdv : Value) (A : Around) (outer : List Env) (s : Shared) (H : Hp) (vs : List V) (Q : VK) (E : XK), Room k (A.deeper (envOfC q (defScope st) s.heap.objs.size f cdv)) → sp vs H Q E →
      ∃ t, PSs (cxOf CX0 P w K mg base N q (defScope st) f cdv A outer s H E).nox (defBody st) t ∧ t { nx := fun _ H' => Q .non H', rt := Q } (start N vs) H) : HasP P w K mg base CX0 (k + 1) C m sp := by
  obtain ⟨p, f, fd, hm, b, F⟩ := T.f
  exact ⟨p, f, fd, hm, b, F.ok S len fun cdv A outer s H vs Q E hr h => hbody f cdv A outer s H vs Q E hr h⟩
theorem InitF.okX {C : Addr} {x : Str} {st : Stmt} {N ps : List Str} {k : Nat} {sp : Sp} (T : InitF K mg C x st ps) (S : FnScope N ps (defScope st)) (len : ∀ vs H Q E, sp vs H Q E → vs.length = ps.length)
    (hbody : ∀ (f : Addr) (cdv : Value) (A : Around) (outer : List Env) (s : Shared) (H : Hp) (vs : List V) (Q : VK) (E : XK), Room k (A.deeper (envOfC (x ++ ".__init__") (defScope st) s.heap.objs.size f cdv)) → sp vs H Q E →
      ∃ t, PSs (cxOf (L2.CX P w) P w K mg base N (x ++ ".__init__") (defScope st) f cdv A outer s H E) (defBody st) t ∧ t { nx := fun _ H' => Q .non H', rt := Q } (start N vs) H) : HasI P w K mg base (L2.CX P w) (k + 1) C x ps sp := by
  obtain ⟨f, fd, hg, hm, b, F⟩ := T.f
  exact ⟨f, fd, hg, hm, b, F.okX S len fun cdv A outer s H vs Q E hr h => hbody f cdv A outer s H vs Q E hr h⟩
end
section
variable {X : Cx} {CX : CXT}
/-- calls of these, with what they raise -/
theorem pe_hasM {k : Nat} {C : Addr} {m : Str} {ps : List Str} {sp : Sp} {o e : Expr} {es : List Expr} {ta : TE} {t : TA} {ap pos : Pos} {E : XK} {pl : Sem Bool} (h : HasM X.prog X.w X.K X.mg X.base CX k C m ps sp) (c : Cls X.K C) (hr : Room k X.A) (hx : Passes CX X E) (ho : PE X o ta) (ha : PA X (e :: es) t)
    (he : starEach (e :: es) X.env = (false, eval e X.env) :: starEach es X.env := by rfl) (hpl : (backTo pos (starEach es X.env)).any (·.1) = false := by rfl)
    (ht : eval (.Call (.Attribute o m ap) (e :: es) [] pos) X.env = (do let ov ← eval o X.env; standAt ap.atName; let (f, first) ← holding [ov] (getMethod ov m pl); callWith pos f first (backTo pos (starEach (e :: es) X.env)) (backToKw pos (keywordEach [] X.env))) := by rfl) :
    PE X (.Call (.Attribute o m ap) (e :: es) [] pos) (tMeth C m sp [] E ta t) := by
  obtain ⟨f, fd, hm, hb, F⟩ := h
  exact pe_meth ho c hm F hr hb .nil hx ha he hpl ht
theorem pe_hasM0 {k : Nat} {C : Addr} {m : Str} {ps : List Str} {sp : Sp} {o : Expr} {ta : TE} {ap pos : Pos} {E : XK} {pl : Sem Bool} (h : HasM X.prog X.w X.K X.mg X.base CX k C m ps sp) (c : Cls X.K C) (hr : Room k X.A) (hx : Passes CX X E) (ho : PE X o ta)
    (ht : eval (.Call (.Attribute o m ap) [] [] pos) X.env = (do let ov ← eval o X.env; standAt ap.atName; let (f, first) ← holding [ov] (getMethod ov m pl); callWith pos f first (backTo pos (starEach [] X.env)) (backToKw pos (keywordEach [] X.env))) := by rfl) :
    PE X (.Call (.Attribute o m ap) [] [] pos) (tMeth C m sp [] E ta tNil) := by
  obtain ⟨f, fd, hm, hb, F⟩ := h
  exact pe_meth0 ho c hm F hr hb .nil hx ht
theorem pe_hasP {k : Nat} {C : Addr} {m : Str} {sp : Sp} {o : Expr} {ta : TE} {pos : Pos} {E : XK} (h : HasP X.prog X.w X.K X.mg X.base CX k C m sp) (c : Cls X.K C) (hr : Room (k + 1) X.A) (hx : Passes CX X.nox E) (ho : PE X o ta)
    (hab : attributeBase o m X.env (eval o X.env) = eval o X.env := by rfl) : PE X (.Attribute o m pos) (tProp C sp [] E ta) := by
  obtain ⟨p, f, fd, hm, hb, F⟩ := h
  exact pe_prop ho c hm F hr hb .nil hx hab
theorem pe_hasI {k : Nat} {C : Addr} {x : Str} {ps : List Str} {sp : Sp} {e : Expr} {es : List Expr} {t : TA} {p pos : Pos} {E : XK} (h : HasI X.prog X.w X.K X.mg X.base CX k C x ps sp) (hr : Room (k + 1) X.A) (hg : Gl X x) (hx : Passes CX X E) (ha : PA X (e :: es) t)
    (hdb : (x == ("__debug__" : Str)) = false := by decide) (he : starEach (e :: es) X.env = (false, eval e X.env) :: starEach es X.env := by rfl) (hpl : (backTo pos (starEach es X.env)).any (·.1) = false := by rfl) : PE X (.Call (.Name x p) (e :: es) [] pos) (tMake C sp [] E t) := by
  obtain ⟨f, fd, hm, hk, hb, F⟩ := h
  exact pe_make hk F hr hg hm hb .nil hx ha hdb he hpl
end
end Lt

set_option Elab.async false
set_option linter.all false
set_option maxRecDepth 100000
set_option maxHeartbeats 1000000
namespace Lt
open PySem PySem.Spec PyProof.Rows L2
/-! ### the row of draws -/
/-- all but the object at r is as it was -/
def StepR (r : Addr) (H H' : Hp) : Prop := ∀ a o, a ≠ r → H a = some o → H' a = some o
theorem StepR.refl (r : Addr) (H : Hp) : StepR r H H := fun _ _ _ h => h
theorem StepR.trans {r : Addr} {H H1 H2 : Hp} (a : StepR r H H1) (b : StepR r H1 H2) : StepR r H H2 := fun c o hc h => b c o hc (a c o hc h)
theorem StepR.of {r : Addr} {H H' : Hp} (e : Same H H') : StepR r H H' := fun a o _ h => e a o h
theorem StepR.put (r : Addr) (H : Hp) (o : HO) : StepR r H (upd H r o) := fun a u h e => by rw [upd_ne h]; exact e
structure Row4 (K : PySem.W.Frag) (H : Hp) (r sc : Addr) (ns : List Int) (a b c : Int) : Prop where
  at_ : H r = some (.lst [.ref sc, .int a, .int b, .int c])
  sc : SqL K H sc (ns.map V.int)
  a0 : 0 ≤ a
  b0 : 0 ≤ b
  b1 : b < 2147483647
def RowAt (K : PySem.W.Frag) (H : Hp) (r sc : Addr) (ns : List Int) : Prop := ∃ a b c, Row4 K H r sc ns a b c
theorem StepR.tm {K : PySem.W.Frag} {r sc : Addr} {ns : List Int} {H H' : Hp} (s : StepR r H H') (h : RowAt K H r sc ns) : Tm H H' := by
  obtain ⟨x, b, c, R⟩ := h
  exact ⟨fun a xs e => s a _ (ne_of e R.at_ (fun z => nomatch z)) e, fun a o xs e => s a _ (ne_of e R.at_ (fun z => nomatch z)) e⟩
theorem sq_upd {K : PySem.W.Frag} {H : Hp} {r sc x : Addr} {o : HO} {ns : List Int} {ys : List V} (hr : H r = some (.lst (.ref x :: ys))) (h : SqL K H sc (ns.map V.int)) : SqL K (upd H r o) sc (ns.map V.int) := by
  have key : ∀ u, H sc = some u → u = .lst (ns.map V.int) ∨ (∃ ob, u = .frz ob (.lst (ns.map V.int))) → upd H r o sc = some u := fun u hu hc => by
    refine (upd_ne (ne_of hu hr fun z => ?_)).trans hu
    rcases hc with e | ⟨ob, e⟩
    · rw [e] at z
      injection z with z
      cases ns with
      | nil => cases z
      | cons n ns => cases z
    · rw [e] at z
      cases z
  rcases h with (h | ⟨ob, h⟩) | h
  · exact .inl (.inl (key _ h (.inl rfl)))
  · exact .inl (.inr ⟨ob, key _ h (.inr ⟨ob, rfl⟩)⟩)
  · exact .inr h
theorem Row4.put {K : PySem.W.Frag} {H : Hp} {r sc : Addr} {ns : List Int} {a b c a' b' c' : Int} (h : Row4 K H r sc ns a b c) (h1 : 0 ≤ a') (h2 : 0 ≤ b') (h3 : b' < 2147483647) : Row4 K (upd H r (.lst [.ref sc, .int a', .int b', .int c'])) r sc ns a' b' c' :=
  ⟨upd_same, sq_upd h.at_ h.sc, h1, h2, h3⟩
theorem RowAt.step {K : PySem.W.Frag} {H H' : Hp} {r sc : Addr} {ns : List Int} (h : RowAt K H r sc ns) (s : Same H H') : RowAt K H' r sc ns := by
  obtain ⟨a, b, c, R⟩ := h
  exact ⟨a, b, c, s _ _ R.at_, Same.seq s R.sc, R.a0, R.b0, R.b1⟩
theorem RowAt.sq {K : PySem.W.Frag} {H : Hp} {r sc : Addr} {ns : List Int} (h : RowAt K H r sc ns) : SqL K H sc (ns.map V.int) := let ⟨_, _, _, R⟩ := h; R.sc
theorem RowAt.ne {K : PySem.W.Frag} {H : Hp} {r sc l : Addr} {ns : List Int} (h : RowAt K H r sc ns) (hl : H l = none) : r ≠ l := let ⟨_, _, _, R⟩ := h; ne_of_none R.at_ hl
/-- an object that was not there at H0, where the row stood, may change -/
theorem RowAt.mut {K : PySem.W.Frag} {H0 H : Hp} {r sc l : Addr} {o : HO} {ns : List Int} (h0 : RowAt K H0 r sc ns) (hl : H0 l = none) (h : RowAt K H r sc ns) : RowAt K (upd H l o) r sc ns := by
  have hr := h0.ne hl
  have s0 := h0.sq
  obtain ⟨a, b, c, R⟩ := h
  refine ⟨a, b, c, (upd_ne hr).trans R.at_, ?_, R.a0, R.b0, R.b1⟩
  rcases s0 with (s0 | ⟨ob, s0⟩) | s0
  · have hne : sc ≠ l := ne_of_none s0 hl
    rcases R.sc with (z | ⟨ob, z⟩) | z
    · exact .inl (.inl ((upd_ne hne).trans z))
    · exact .inl (.inr ⟨ob, (upd_ne hne).trans z⟩)
    · exact .inr z
  · have hne : sc ≠ l := ne_of_none s0 hl
    rcases R.sc with (z | ⟨ob, z⟩) | z
    · exact .inl (.inl ((upd_ne hne).trans z))
    · exact .inl (.inr ⟨ob, (upd_ne hne).trans z⟩)
    · exact .inr z
  · exact .inr s0
theorem StepR.mut {r l : Addr} {H0 H : Hp} {o : HO} (s : StepR r H0 H) (hl : H0 l = none) : StepR r H0 (upd H l o) := fun a u ha e => by
  rw [upd_ne (ne_of_none e hl)]
  exact s a u ha e
theorem StepR.free {r l : Addr} {H0 H : Hp} (s : StepR r H0 H) (hr : r ≠ l) (hl : H l = none) : H0 l = none := by
  cases e : H0 l with
  | none => rfl
  | some o =>
    rw [s l o (Ne.symm hr) e] at hl
    cases hl
section
variable {P : Program} {w : World} {K : PySem.W.Frag} {mg : Str → Option Value} {base : Heap}
def spTaken (K : PySem.W.Frag) : Sp := fun vs H Q _ => ∃ (r sc : Addr) (ns : List Int) (m : Nat), vs = [.ref r, nI m] ∧ RowAt K H r sc ns ∧ 1 ≤ m ∧ m ≤ 1000 ∧ ∀ x H', x < m → StepR r H H' → RowAt K H' r sc ns → Q (nI x) H'
theorem sc_law_taken : FnScope ["row", "many", "found", "cell"] ["row", "many"] (defScope s_law_taken) := ⟨rfl, rfl, rfl, by decide +kernel, rfl, by decide +kernel, by decide +kernel⟩
theorem fmod_nat {i : Int} {m : Nat} (h : 1 ≤ m) : ∃ x : Nat, x < m ∧ Int.fmod i (m : Int) = (x : Int) := by
  have h0 : (0 : Int) < (m : Int) := by omega
  rw [Int.fmod_eq_emod_of_nonneg i (Int.le_of_lt h0)]
  have h1 := Int.emod_nonneg i (show (m : Int) ≠ 0 by omega)
  have h2 := Int.emod_lt_of_pos i h0
  exact ⟨(i % m).toNat, by omega, by omega⟩
theorem has_law_taken (T : Top K mg "_law_taken" s_law_taken ["row", "many"]) (B : Bi mg) : Has P w K mg base CX0 1 "_law_taken" ["row", "many"] (spTaken K) := by
  refine T.ok sc_law_taken (fun vs H Q E h => ?_) (fun f cdv A outer s H vs Q E hr h => ?_)
  · obtain ⟨r, sc, ns, m, rfl, _⟩ := h
    rfl
  · obtain ⟨r, sc, ns, m, rfl, ⟨a, b, c, R⟩, hm1, hm2, q⟩ := h
    refine ⟨_, pss_cons (ps_if (pt_cmpR op_gt (pe_ix ix_list (pv 0) pe_int (fun _ _ => rfl)) pe_int (nomark _))
        (pss_cons (ps_set (i := 2) sc_law_taken.nd rfl (Or.inl rfl) (pe_op op_modN (pe_callTy call_int1 (by rfl) B.int PyProof.Rows.boot_int (pa_cons (pe_ix ix_list (pv 0) pe_int (fun _ _ => rfl)) pa_nil)) (pv 1)))
        (pss_cons (ps_asg (pe_op op_fdivN (pe_ix ix_list (pv 0) pe_int (fun _ _ => rfl)) (pv 1)) (pg_sub (pv 0) pe_int set_list))
        (pss_one (ps_ret (pv 2))))) pss_nil)
      (pss_cons (ps_asg (pe_op op_add (pe_ix ix_list (pv 0) pe_int (fun _ _ => rfl)) pe_int) (pg_sub (pv 0) pe_int set_list))
      (pss_cons (ps_if (pt_cmpR op_gt (pe_ix ix_list (pv 0) pe_int (fun _ _ => rfl)) (pe_callB call_len_seq (by rfl) B.len PySem.boot_len (pa_cons (pe_ix ix_list (pv 0) pe_int (fun _ _ => rfl)) pa_nil)) (nomark _))
        (pss_cons (ps_asg (pe_op op_modN (pe_callTy call_int1 (by rfl) B.int PyProof.Rows.boot_int (pa_cons (pe_op op_add (pe_op op_mul (pe_ix ix_list (pv 0) pe_int (fun _ _ => rfl)) pe_int) pe_int) pa_nil)) pe_int) (pg_sub (pv 0) pe_int set_list))
        (pss_one (ps_ret (pe_op op_modN (pe_callTy call_int1 (by rfl) B.int PyProof.Rows.boot_int (pa_cons (pe_op op_fdivN (pe_ix ix_list (pv 0) pe_int (fun _ _ => rfl)) pe_int) pa_nil)) (pv 1))))) pss_nil)
      (pss_cons (ps_set (i := 3) sc_law_taken.nd rfl (Or.inl rfl) (pe_ix ix_list (pe_ix ix_list (pv 0) pe_int (fun _ _ => rfl)) (pe_op op_sub (pe_ix ix_list (pv 0) pe_int (fun _ _ => rfl)) pe_int) (fun _ _ => rfl)))
      (pss_cons (ps_asg (pe_op op_modN (pe_callTy call_int1 (by rfl) B.int PyProof.Rows.boot_int (pa_cons (pe_op op_add (pe_op op_add (pe_op op_mul (pe_ix ix_list (pv 0) pe_int (fun _ _ => rfl)) pe_int) (pv 3)) pe_int) pa_nil)) pe_int) (pg_sub (pv 0) pe_int set_list))
      (pss_cons (ps_if (pt_cmpR op_ge (pv 3) (pe_op op_pow pe_int pe_int) (nomark _))
        (pss_one (ps_asg (pe_op op_fdivN (pv 3) (pv 1)) (pg_sub (pv 0) pe_int set_list))) pss_nil)
      (pss_one (ps_ret (pe_op op_modN (pe_callTy call_int1 (by rfl) B.int PyProof.Rows.boot_int (pa_cons (pv 3) pa_nil)) (pv 1))))))))), ?_⟩
    have hm0 : (m : Int) ≠ 0 := by omega
    have hmb : ((m : Int)).natAbs < 1073741824 := by omega
    have rd : ∀ {H a b c}, Row4 K H r sc ns a b c → SqL K H r [.ref sc, .int a, .int b, .int c] := fun R => SqL.of R.at_
    have a00 := R.a0
    have b00 := R.b0
    have b11 := R.b1
    have fin : ∀ i H', StepR r H H' → RowAt K H' r sc ns → Q (.int (Int.fmod i m)) H' := fun i H' st ra => by
      obtain ⟨x, hx, ex⟩ := fmod_nat (i := i) hm1
      rw [ex]
      exact q x H' hx st ra
    refine ⟨_, rfl, r, _, 3, .int c, rfl, rfl, rd R, rfl, c, 0, rfl, rfl, _, rfl, ite2 (fun hc => ?_) (fun hc => ?_)⟩
    · refine ⟨_, rfl, r, _, 3, .int c, rfl, rfl, rd R, rfl, .inl ⟨_, rfl, _, rfl, c, m, rfl, rfl, hm0, ?_⟩⟩
      refine ⟨_, rfl, r, _, 3, .int c, rfl, rfl, rd R, rfl, _, rfl, c, m, rfl, rfl, ⟨hm0, hmb⟩, _, rfl, r, _, 3, 3, rfl, rfl, R.at_, rfl, ?_⟩
      exact ⟨_, rfl, fin c _ (StepR.put _ _ _) ⟨a, b, _, R.put a00 b00 b11⟩⟩
    · have R1 := R.put (a' := a + 1) (b' := b) (c' := c) (by omega) b00 b11
      refine ⟨_, rfl, r, _, 1, .int a, rfl, rfl, rd R, rfl, a, 1, rfl, rfl, _, rfl, r, _, 1, 1, rfl, rfl, R.at_, rfl, ?_⟩
      refine ⟨_, rfl, r, _, 1, .int (a + 1), rfl, rfl, rd R1, rfl, _, rfl, r, _, 0, .ref sc, rfl, rfl, rd R1, rfl, sc, ns.map V.int, rfl, .inl R1.sc, a + 1, _, rfl, rfl, _, rfl, ite2 (fun h2 => ?_) (fun h2 => ?_)⟩
      · obtain ⟨y, hy, ey⟩ := fmod_nat (i := b * 48271 + 11) (m := 2147483647) (by decide)
        have ey' : Int.fmod (b * 48271 + 11) 2147483647 = (y : Int) := ey
        have R2 := R1.put (a' := a + 1) (b' := Int.fmod (b * 48271 + 11) 2147483647) (c' := c) (by omega) (by omega) (by omega)
        refine ⟨_, rfl, r, _, 2, .int b, rfl, rfl, rd R1, rfl, b, 48271, rfl, rfl, .inl ⟨by omega, by omega⟩, b * 48271, 11, rfl, rfl, .inl ⟨_, rfl, b * 48271 + 11, 2147483647, rfl, rfl, (show (2147483647 : Int) ≠ 0 by decide), _, rfl, r, _, 2, 2, rfl, rfl, R1.at_, rfl, ?_⟩⟩
        refine ⟨_, rfl, r, _, 2, .int _, rfl, rfl, rd R2, rfl, _, 7, rfl, rfl, ⟨by decide, by decide⟩, .inl ⟨_, rfl, _, rfl, _, m, rfl, rfl, hm0, ?_⟩⟩
        exact fin _ _ ((StepR.put _ _ _).trans (StepR.put _ _ _)) ⟨_, _, _, R2⟩
      · have h2 : ¬ (((ns.map V.int).length : Int) < a + 1) := fun z => h2 (decide_eq_true z)
        rw [List.length_map] at h2
        have hlt : a.toNat < ns.length := by omega
        have hat : atI (ns.map V.int) (a + 1 - 1) = some (.int ns[a.toNat]) := by
          have e : a + 1 - 1 = ((a.toNat : Nat) : Int) := by omega
          rw [e]
          refine atI_nat ?_
          rw [List.getElem?_map, List.getElem?_eq_getElem hlt]
          rfl
        generalize ns[a.toNat] = z at hat
        refine ⟨_, rfl, r, _, 0, .ref sc, rfl, rfl, rd R1, rfl, _, rfl, r, _, 1, .int (a + 1), rfl, rfl, rd R1, rfl, a + 1, 1, rfl, rfl, sc, _, a + 1 - 1, .int z, rfl, rfl, R1.sc, hat, ?_⟩
        obtain ⟨y, hy, ey⟩ := fmod_nat (i := b * 48271 + z + 11) (m := 2147483647) (by decide)
        have ey' : Int.fmod (b * 48271 + z + 11) 2147483647 = (y : Int) := ey
        have R2 := R1.put (a' := a + 1) (b' := Int.fmod (b * 48271 + z + 11) 2147483647) (c' := c) (by omega) (by omega) (by omega)
        refine ⟨_, rfl, r, _, 2, .int b, rfl, rfl, rd R1, rfl, b, 48271, rfl, rfl, .inl ⟨by omega, by omega⟩, _, rfl, b * 48271, z, rfl, rfl, b * 48271 + z, 11, rfl, rfl, .inl ⟨_, rfl, b * 48271 + z + 11, 2147483647, rfl, rfl, (show (2147483647 : Int) ≠ 0 by decide), _, rfl, r, _, 2, 2, rfl, rfl, R1.at_, rfl, ?_⟩⟩
        refine ⟨_, rfl, 10, 18, rfl, rfl, ⟨by decide, by decide, by decide⟩, z, _, rfl, rfl, _, rfl, ite2 (fun h3 => ?_) (fun h3 => ?_)⟩
        · refine ⟨_, rfl, _, rfl, z, m, rfl, rfl, ⟨hm0, hmb⟩, _, rfl, r, _, 3, 3, rfl, rfl, R2.at_, rfl, ?_⟩
          refine ⟨_, rfl, .inl ⟨_, rfl, _, rfl, _, m, rfl, rfl, hm0, ?_⟩⟩
          exact fin _ _ (((StepR.put _ _ _).trans (StepR.put _ _ _)).trans (StepR.put _ _ _)) ⟨_, _, _, R2.put (by omega) (by omega) (by omega)⟩
        · refine ⟨_, rfl, .inl ⟨_, rfl, _, rfl, _, m, rfl, rfl, hm0, ?_⟩⟩
          exact fin _ _ ((StepR.put _ _ _).trans (StepR.put _ _ _)) ⟨_, _, _, R2⟩
end
end Lt

set_option Elab.async false
set_option linter.all false
set_option maxRecDepth 100000
set_option maxHeartbeats 2000000
/-! lambdas in a body: made (with defaults or without), held by a name, called -/
namespace LmX
open PySem PySem.Spec PyProof.Rows L2 LamX NdefX
/-- the words of a lambda; the body stands beside -/
abbrev lmFd (F : NF) (e : Expr) (dV doc pm ctv : Value) : FuncData := PySem.W.kdv_fn F.name F.qual F.params (.expr e) F.scope F.cl dV doc pm (.ref F.c) ctv
def LmO (f : Addr) (F : NF) (e : Expr) (dV : Value) : HO :=
  .ext fun h => ∃ (od : Option Addr) (sl : Array (Option Value)) (doc pm ctv : Value), h.get? f = some (⟨.type "function", od, .func (lmFd F e dV doc pm ctv), sl⟩ : Obj)
theorem lmO_at {P : Program} {w : World} {H : Hp} {h : Heap} {f : Addr} {F : NF} {e : Expr} {dV : Value} (ok : HOk P w H h) (x : H f = some (LmO f F e dV)) :
    ∃ (od : Option Addr) (sl : Array (Option Value)) (doc pm ctv : Value), h.get? f = some (⟨.type "function", od, .func (lmFd F e dV doc pm ctv), sl⟩ : Obj) := (ok f _ x).1
abbrev lmF (q : Str) (params : Arguments) (scope : Scope) (cells : List (Str × Addr)) (c : Addr) : NF := ⟨"<lambda>", q, params, [], scope, cloFrom cells scope.names [], c⟩
section
variable {X : Cx} {pins : List (Addr × Obj)} {σ : L2.St} {H : Hp} {s : Shared}
theorem lm_laid {F : NF} {e : Expr} {dV doc pm ctv : Value} {t' : Nat} (I : Inv X pins σ H s) :
    Inv X pins σ (upd H s.heap.objs.size (LmO s.heap.objs.size F e dV)) { s with heap := s.heap.push { cls := .type "function", data := .func (lmFd F e dV doc pm ctv) }, toks := t' } := by
  have g : (s.heap.push ({ cls := .type "function", data := .func (lmFd F e dV doc pm ctv) } : Obj)).get? s.heap.objs.size = some { cls := .type "function", data := .func (lmFd F e dV doc pm ctv) } := Heap.get?_push_size _ rfl
  exact I.laid (fun _ _ q => Heap.get?_push_of_some _ q) (Nat.le_refl _) ⟨⟨none, #[], doc, pm, ctv, g⟩, ⟨_, g⟩, fun _ _ ⟨od, sl, d, p, t, z⟩ k => ⟨od, sl, d, p, t, k _ z⟩⟩
theorem lm_tail {T : List (Addr × Str)} {c P : Addr} {params : Arguments} {body : Expr} {scope : Scope} {pos : Pos} {dV : Value} {E Q : Value → Shared → Prop} (I : Inv X pins σ H s) (B : TabB X.base X.mg c P) (hc : X.env.code = .ref c)
    (hm : (P, X.env.qual ++ "<lambda>") ∈ T) (hu : ∀ p ∈ T, p.1 = P → p.2 = X.env.qual ++ "<lambda>") (hT : Tabs T H) (hf : ∀ y ∈ scope.names, y.2 = .free → ∃ c, X.env.cells.lookup y.1 = some c)
    (h : ∀ (f c' : Addr) (H1 : Hp) (s' : Shared), Inv X pins σ H1 s' → ExtN H H1 → Tabs T H1 → H f = none → H1 f = some (LmO f (lmF (X.env.qual ++ "<lambda>") params scope X.env.cells c') body dV) → H1 c' = some (CodeO c' (X.env.qual ++ "<lambda>")) → Q (.ref f) s') :
    wpAny (model X.prog X.w) X.A (makeTail "<lambda>" (X.env.qual ++ "<lambda>") params (.expr body) scope X.env dV .none none pos pos.line) Q E s := by
  obtain ⟨ps, tP, tr, am⟩ := hT _ hm
  have bmP := B.bm.keeps I.bk
  have gP : s.heap.get? P = some { cls := .none, data := .fields ps } := I.hok P _ tP
  rcases hk : codeAmong pos ps.toList with _ | cv
  · refine PySem.W.kdv_makeTail (closure_ok hf) I.ok.glob (I.mod.glob.keeps I.bk) hc (B.code.keeps I.bk) gP tr hk B.gP bmP fun c' ctv doc h' tk kx kge klt ⟨c2, oc, vs, t, e2, o2, d2, v2⟩ kt => ?_
    cases e2
    have frC : H c' = none := I.hok.fresh kge
    have J := inv_table (t' := tk) (more := #[rawInt pos.line, rawInt pos.col, .ref c']) I tP (fun b o nb q => kx b o nb q) kt kge ⟨oc, vs, t, o2, d2, v2⟩
    have ext : ExtN H (upd (upd H P (.tbl (ps ++ #[rawInt pos.line, rawInt pos.col, .ref c']))) c' (CodeO c' (X.env.qual ++ "<lambda>"))) := fun b o q nt => by
      have nP : b ≠ P := fun z => nt ps (Option.some.inj ((q.symm.trans (z ▸ rfl)).trans tP))
      exact (upd_ne (ne_of_none q frC)).trans ((upd_ne nP).trans q)
    have tabs : Tabs T (upd (upd H P (.tbl (ps ++ #[rawInt pos.line, rawInt pos.col, .ref c']))) c' (CodeO c' (X.env.qual ++ "<lambda>"))) := fun p hp => by
      have lst : (ps ++ #[rawInt pos.line, rawInt pos.col, .ref c']).toList = ps.toList ++ [rawInt pos.line, rawInt pos.col, .ref c'] := Array.toList_append ..
      rcases Classical.em (p.1 = P) with hb | hb
      · rw [hu p hp hb, hb]
        refine ⟨_, (upd_ne (ne_of_none tP frC)).trans upd_same, lst ▸ PySem.TriplesOk_snoc _ _ _ _ tr, fun p' cw hw => ?_⟩
        rcases among_app _ tr (lst ▸ hw) with z | z
        · exact (am p' cw z).imp fun c0 q => ⟨q.1, ext _ _ q.2 codeO_ne⟩
        · exact ⟨c', z, upd_same⟩
      · obtain ⟨qs, a1, a2, a3⟩ := hT p hp
        exact ⟨qs, (upd_ne (ne_of_none a1 frC)).trans ((upd_ne hb).trans a1), a2, fun p' cw hw => (a3 p' cw hw).imp fun c0 q => ⟨q.1, ext _ _ q.2 codeO_ne⟩⟩
    have new := J.hok.fresh (Nat.le_refl _)
    refine h h'.objs.size c' _ _ (lm_laid (F := lmF (X.env.qual ++ "<lambda>") params scope X.env.cells c') (t' := tk) J) (fun b o q nt => ?_) (tabs.ext fun b o q => ?_) (I.hok.fresh (Nat.le_trans kge (Nat.le_of_lt klt))) upd_same ?_
    · exact (upd_ne (ne_of_none (ext b o q nt) new)).trans (ext b o q nt)
    · exact (upd_ne (ne_of_none q new)).trans q
    · exact (upd_ne (Nat.ne_of_lt klt)).trans upd_same
  · obtain ⟨c', e, hco⟩ := am pos cv hk
    subst e
    refine PySem.W.kdv_makeTailHit (closure_ok hf) I.ok.glob (I.mod.glob.keeps I.bk) hc (B.code.keeps I.bk) gP tr hk bmP fun ctv doc h' tk kx ksz => ?_
    have J : Inv X pins σ H { s with heap := h', toks := tk } := I.kept kx
    have new : H h'.objs.size = none := J.hok.fresh (Nat.le_refl _)
    have st : ∀ b o, H b = some o → upd H h'.objs.size (LmO h'.objs.size (lmF (X.env.qual ++ "<lambda>") params scope X.env.cells c') body dV) b = some o := fun b o q => (upd_ne (ne_of_none q new)).trans q
    exact h h'.objs.size c' _ _ (lm_laid (F := lmF (X.env.qual ++ "<lambda>") params scope X.env.cells c') (t' := tk) J) (fun b o q _ => st b o q) (hT.ext st) new upd_same (st _ _ hco)
end
/-- lambda: body -/
def tLm0 (T : List (Addr × Str)) (mk : Addr → NF) (e : Expr) : TE := fun _ H Q => Tabs T H ∧ ∀ (f c' : Addr) (H1 : Hp), ExtN H H1 → Tabs T H1 → H f = none → H1 f = some (LmO f (mk c') e .none) → H1 c' = some (CodeO c' (mk c').qual) → Q (.ref f) H1
/-- lambda x=d: body -/
def tLm1 (T : List (Addr × Str)) (mk : Addr → NF) (e : Expr) (td : TE) : TE := fun σ H Q => td σ H fun v H0 => Tabs T H0 ∧ ∀ (p f c' : Addr) (H1 : Hp), ExtN H0 H1 → Tabs T H1 → H0 f = none → H1 f = some (LmO f (mk c') e (.ref p)) → H1 p = some (.tup [v]) → H1 c' = some (CodeO c' (mk c').qual) → Q (.ref f) H1
section
variable {X : Cx} {T : List (Addr × Str)} {c P : Addr} {params : Arguments} {body : Expr} {scope : Scope} {pos : Pos}
theorem lm_has (ok : X.Ok) (hf : ∀ y ∈ scope.names, y.2 = .free → X.env.scope.names.lookup y.1 = some .cell ∨ X.env.scope.names.lookup y.1 = some .free) : ∀ y ∈ scope.names, y.2 = .free → ∃ c, X.env.cells.lookup y.1 = some c :=
  fun y hy e => (hf y hy e).elim (fun z => ok.has _ (.inl z)) fun z => ok.has _ (.inr z)
theorem pe_lm0 (B : TabB X.base X.mg c P) (hc : X.env.code = .ref c) (hm : (P, X.env.qual ++ "<lambda>") ∈ T) (hu : ∀ p ∈ T, p.1 = P → p.2 = X.env.qual ++ "<lambda>")
    (hf : ∀ y ∈ scope.names, y.2 = .free → X.env.scope.names.lookup y.1 = some .cell ∨ X.env.scope.names.lookup y.1 = some .free) (hd : defaultsOf params X.env = ([], [])) :
    PE X (.Lambda params body scope pos) (tLm0 T (lmF (X.env.qual ++ "<lambda>") params scope X.env.cells) body) := by
  refine ⟨fun pins s σ H Q I h => PySem.W.kla_eval hd ?_⟩
  rw [makeFunction_eq]
  simp only [List.zip_nil_right, List.filterMap_nil, List.isEmpty_nil, if_true, pure_bind]
  exact lm_tail I B hc hm hu h.1 (lm_has I.ok hf) fun f c' H1 s' J k1 k2 k3 k4 k5 => ⟨V.ref f, H1, J, rfl, h.2 f c' H1 k1 k2 k3 k4 k5⟩
theorem pe_lm1 {d : Expr} {td : TE} (B : TabB X.base X.mg c P) (hc : X.env.code = .ref c) (hm : (P, X.env.qual ++ "<lambda>") ∈ T) (hu : ∀ p ∈ T, p.1 = P → p.2 = X.env.qual ++ "<lambda>")
    (hf : ∀ y ∈ scope.names, y.2 = .free → X.env.scope.names.lookup y.1 = some .cell ∨ X.env.scope.names.lookup y.1 = some .free) (hd : params.defaults = [d]) (hk : params.kw_defaults = []) (pd : PE X d td) :
    PE X (.Lambda params body scope pos) (tLm1 T (lmF (X.env.qual ++ "<lambda>") params scope X.env.cells) body td) := by
  refine ⟨fun pins s σ H Q I h => PySem.W.kdv_lam (by rw [hd]; rfl) hk ?_⟩
  rw [hd]
  refine PySem.W.kdv_all1 (thn (pd.run pins s σ H _ I h) fun u s1 ⟨v, H0, J, r, hT, q⟩ => PySem.W.kdv_all0 ?_)
  rw [makeFunction_eq]
  simp only [List.zip_nil_right, List.filterMap_nil, List.isEmpty_nil, List.isEmpty_cons, if_true, Bool.false_eq_true, if_false, pure_bind]
  refine wpAny_bind (wpAny_newTextTuple ?_)
  have fr : H0 s1.heap.objs.size = none := J.hok.fresh (Nat.le_refl _)
  have J2 := J.laid (t' := s1.toks) (h' := s1.heap.push { cls := .type "tuple", data := .seq [u].toArray }) (fun _ _ q => Heap.get?_push_of_some _ q) (Nat.le_refl _) (show ObjOk X.prog X.w _ _ _ (.tup [v]) from ⟨by rw [sizeLine_eq]; exact Nat.le_of_ble_eq_true rfl, [u], .cons r .nil, IsTup.new _ _⟩)
  have st : ∀ b o, H0 b = some o → upd H0 s1.heap.objs.size (.tup [v]) b = some o := fun b o e => (upd_ne (ne_of_none e fr)).trans e
  refine lm_tail J2 B hc hm hu (hT.ext st) (lm_has J2.ok hf) fun f c' H1 s' J3 k1 k2 k3 k4 k5 => ⟨V.ref f, H1, J3, rfl, q _ f c' H1 (fun b o e nt => k1 b o (st b o e) nt) k2 ?_ k4 (k1 _ _ upd_same fun _ z => by cases z) k5⟩
  unfold upd at k3
  split at k3
  · cases k3
  · exact k3
/-- x(), x a name that holds a function -/
theorem pe_ap0 {R : Addr → TE} {i : Nat} {x : Str} {p : Pos} (hrun : ∀ (f : Addr) (pins : List (Addr × Obj)) (s : Shared) (σ : L2.St) (H : Hp) (Q : VK), Inv X pins σ H s → R f σ H Q → PySem.W.FnAt f s.heap ∧ wpAny (model X.prog X.w) X.A (call (.ref f) []) (EP X pins σ Q) X.xe s)
    (hN : X.N[i]? = some x) (hv : Vis X.env.scope x) (hd : (x == ("__debug__" : Str)) = false := by decide) (hcd : (x == ("__classdict__" : Str)) = false := by decide) :
    PE X (.Call (.Name x p) [] [] pos) (fun σ H Q => ∃ f, σ[i]? = some (some (.ref f)) ∧ R f σ H Q) := by
  refine ⟨fun pins s σ H Q I ⟨f, hs, hR⟩ => wpAny_Call_Name_kw (thn ((pe_var (pos := p) hN hv hd hcd).run pins s σ H (fun v H1 => v = .ref f ∧ H1 = H) I ⟨.ref f, hs, rfl, rfl⟩) fun u s1 ⟨v, H1, J, r, e1, e2⟩ => ?_)⟩
  subst e1 e2
  obtain rfl : u = Value.ref f := r
  obtain ⟨fa, rn⟩ := hrun f pins s1 σ _ Q J hR
  exact PySem.W.callWith_F0 fa rn
end
end LmX

set_option Elab.async false
set_option linter.all false
set_option maxRecDepth 100000
set_option maxHeartbeats 4000000
/-! several clauses «except X as n», one name n for all -/
namespace MaX
open PySem PySem.Spec PyProof.Rows L2
abbrev Cl := Value × (Addr → Value → Option Addr → TS)
/-- what the clauses wish of an error of the body -/
def wMA (K : PySem.W.Frag) (i : Nat) (Wo : WX) (D : Ends) : List Cl → WX
  | [] => Wo
  | u :: r => wAs K u.1 i u.2 (wMA K i Wo D r) D
inductive HAs (X : Cx) (n : Str) : List ExceptHandler → List Cl → Prop
  | nil : HAs X n [] []
  | cons {x : Str} {c : Value} {ts : Addr → Value → Option Addr → TS} {b : Stmt} {bs : List Stmt} {np q : Pos} {hds : List ExceptHandler} {l : List Cl} (hc : Names X x c)
      (su : ∀ (a : Addr) (o : Obj) (k : Value) (d : Option Addr) (pn : List (Addr × Obj)), Zc k d o → (∃ vs, o.data = .fields vs) → PSs (X.suite a ((a, o) :: pn)) (b :: bs) (ts a k d)) (r : HAs X n hds l) :
      HAs X n (.ExceptHandler (some (.Name x np)) (some n) (b :: bs) q :: hds) ((c, ts) :: l)
section
variable {X : Cx} {n : Str} {i : Nat} {bd : List Stmt} {h0 : ExceptHandler} {hds : List ExceptHandler} {l : List Cl} {p : Pos} {tb : WX → TS} {Wo : WX}
theorem ps_try_asM (hs : X.stack = X.env :: X.outer) (hf : X.env.frame = some X.env.locals) (hN : X.N.Nodup) (hi : X.N[i]? = some n) (hn : X.env.kindOf n = some .local) (tk : Takes X Wo)
    (hb : ∀ (W : WX) (pn : List (Addr × Obj)) (xe : Value → Shared → Prop), Takes (X.tr pn xe) W → PassesOwn (model X.prog X.w) X.A X.env xe → PSs (X.tr pn xe) bd (tb W)) (hh : HAs X n (h0 :: hds) l) :
    PS X (.Try bd (h0 :: hds) [] [] p) (fun D σ H => tb (wMA X.K i Wo D l) D σ H) := by
  refine ⟨fun pi s σ H D I h => wpAny_Try_except ?_⟩
  have ok := I.ok
  have frm : X.A.frames = some (X.env :: X.outer) := ok.frames.trans (congrArg some hs)
  have lo : Loc X.env.scope n := .inl hn
  refine wpAny_mono ((hb (wMA X.K i Wo D l) (X.pn ++ pi) (fun er s1 => wpAny (model X.prog X.w) X.A (noteFrame er X.env) (fun _ s2 => wpAny (model X.prog X.w) X.A (setFlight er none) (fun _ s3 => wpAny (model X.prog X.w) X.A (handleBy er X.env (h0 :: hds)) (SP X pi D) X.xe s3) X.xe s2) X.xe s1)
    (fun u t xx => ?_) PassesOwn.looking).run [] s σ H D (I.toTry _) h) (fun fl s1 hsp => ?_) (fun _ _ he => he)
  · obtain ⟨a, B, sJ, qs, σ1, H1, k, d, rfl, J0, nb, up, sk, na, os, ag, w⟩ := xx
    have J := J0.ofTry (X := X) ok
    have sk1 : Sky B (X.env :: X.outer) a (Zc k d) X.env.locals t.heap := hs ▸ sk
    show wpAny _ X.A (noteFrame (.ref a) X.env) _ _ _
    refine Sky.land Zc.steady frm hf sk1 fun h3 f3 u3 => ?_
    have J3 : Inv X pi σ1 H1 { t with heap := h3 } := J.landed nb f3.1 (up.trans u3) os ag
    obtain ⟨o3, v3, e3, z3, d3⟩ := f3.there
    have nfr : a ∉ frs (X.env :: X.outer) := fun hm => by
      obtain ⟨_, o', e', g⟩ := f3.2.2.1.mem hm
      cases e3.symm.trans e'
      exact g _ d3
    have nL : a ≠ X.env.locals := fun z => nfr (List.mem_filterMap.mpr ⟨X.env, .head _, hf.trans (congrArg some z.symm)⟩)
    have nF : a ∉ X.fs := fun hm => let ⟨e, he, g⟩ := List.mem_filterMap.mp hm; nfr (List.mem_filterMap.mpr ⟨e, .tail _ he, g⟩)
    have S3 := J3.suite e3 d3 na nL nF
    have go : ∀ {hs' : List ExceptHandler} {l' : List Cl}, HAs X n hs' l' → wMA X.K i Wo D l' k d σ1 H1 → wpAny (model X.prog X.w) X.A (handleBy (.ref a) X.env hs') (SP X pi D) X.xe { t with heap := h3 } := by
      intro hs' l' hk
      induction hk with
      | nil =>
        refine fun w => wpAny_handleBy_nil ?_
        obtain ⟨_, _, _, o, vs, T, _, _, he, _, hd, g1, _⟩ := id f3
        unfold PySem.passOn
        refine wpAny_bind (wpAny_field he hd g1 ?_)
        have nn : ¬ ((Value.ref T == Value.none) = true) := by simp
        rw [if_neg nn]
        have fin : wpAny (model X.prog X.w) X.A (setFlight (.ref a) X.env.frame) (fun _ s4 => wpAny (model X.prog X.w) X.A (throw (.ref a) : Sem Flow) (SP X pi D) X.xe s4) X.xe { t with heap := h3 } := hf ▸ HandSPX.setFlight_upZ f3 fun h4 g4 u4 => wpAny_throw (tk _ _ ⟨a, B, sJ, pi, σ1, H1, k, d, rfl, J, nb, (up.trans u3).trans u4, .inr (.inr (hs ▸ g4)), na, os, ag, w⟩)
        first | exact wpAny_bind fin | exact wpAny_bind (wpAny_pure (wpAny_bind fin))
      | @cons x c ts b bs np q hds2 l2 hc su r ih =>
        rintro ⟨bb, hb1, yes, no⟩
        refine wpAny_handleBy_cons (codeAny_handlers_test ?_) (fun q => nomatch q)
        have LM := PySem.W.exm_one (M := model X.prog X.w) (e := a) J3.kIn (fun A Q E s g q => wpAny_typeOf_ref (g _ _ e3) (z3.1.symm ▸ q)) hb1
        have tst : ∀ {Q : Value → Shared → Prop} {E : Value → Shared → Prop}, Q c { t with heap := h3 } → wpAny (model X.prog X.w) (X.A.mark (some (.ref a))) (eval (.Name x np) X.env) Q E { t with heap := h3 } := fun {Q E} g => by
          rcases hc with ⟨hg, dbg, hm | ⟨hm, hv, nnm⟩⟩
          · exact ld_glob (X := X.suite a ((a, o3) :: (X.pn ++ pi))) S3 hg hm g dbg
          · exact ld_blt (X := X.suite a ((a, o3) :: (X.pn ++ pi))) S3 hg hm hv g nnm dbg
        refine tst (LM.here ?_)
        cases bb with
        | false => exact ih (no rfl)
        | true =>
          refine codeAny_handlers_suite_as (HandSPX.lands_againZ f3 fun h4 f4 u4 => ?_)
          have J4 : Inv X pi σ1 H1 { t with heap := h4 } := J.landed nb f4.1 ((up.trans u3).trans u4) os ag
          obtain ⟨o4, v4, e4, z4, d4⟩ := f4.there
          refine store_ok (X := X.suite a ((a, o4) :: (X.pn ++ pi))) (v := .ref a) (J4.suite e4 d4 na nL nF) hN hi lo rfl (fun s5 S5 => ?_) (.inr hn)
          refine wpAny_mono ((su a o4 k d (X.pn ++ pi) z4 ⟨_, d4⟩).run [] s5 _ H1 _ S5 (yes rfl a na)) (fun f s6 g6 => ?_) (fun _ _ z => z.elim)
          have fin : ∀ {σ6 : L2.St} {H6 : Hp} {Q : Shared → Prop}, Inv (X.suite a ((a, o4) :: (X.pn ++ pi))) [] σ6 H6 s6 → (∀ s7, Inv X pi (σ6.set i none) H6 s7 → Q s7) →
              wpAny (model X.prog X.w) X.A (do bindName X.env n .none; unbindBehindTheSuite X.env n q) (fun _ s7 => Q s7) X.xe s6 := fun {_ _ _} S6 hq => gone_ok (S6.unsuite ok) hN hi hn hq
          cases f with
          | next => exact let ⟨_, _, S6, g⟩ := g6; fin S6 fun s7 J7 => ⟨_, _, J7, g⟩
          | brk => exact let ⟨_, _, S6, g⟩ := g6; fin S6 fun s7 J7 => ⟨_, _, J7, g⟩
          | cont => exact let ⟨_, _, S6, g⟩ := g6; fin S6 fun s7 J7 => ⟨_, _, J7, g⟩
          | ret u => exact let ⟨_, _, _, S6, rv, g⟩ := g6; fin S6 fun s7 J7 => ⟨_, _, _, J7, rv, g⟩
    exact go hh w
  · cases fl with
    | next => exact let ⟨σ', H', J', g⟩ := hsp; wpAny_execs_nil ⟨σ', H', J'.ofTry ok, g⟩
    | brk => exact let ⟨σ', H', J', g⟩ := hsp; ⟨σ', H', J'.ofTry ok, g⟩
    | cont => exact let ⟨σ', H', J', g⟩ := hsp; ⟨σ', H', J'.ofTry ok, g⟩
    | ret u => exact let ⟨v, σ', H', J', rv, g⟩ := hsp; ⟨v, σ', H', J'.ofTry ok, rv, g⟩
end
end MaX

set_option Elab.async false
set_option linter.all false
set_option maxRecDepth 100000
set_option maxHeartbeats 2000000
/-! lambdas of a law, the loop over them -/
namespace Lt
open PySem PySem.Spec PyProof.Rows L2 NdefX LamX LmX MaX
def lamP : Expr → Arguments
  | .Lambda a _ _ _ => a
  | _ => ⟨[], [], none, [], [], none, []⟩
def lamS : Expr → Scope
  | .Lambda _ _ s _ => s
  | _ => { kind := .function, names := [], isGenerator := false, isCoroutine := false, more := [] }
def lamB : Expr → Expr
  | .Lambda _ b _ _ => b
  | e => e
def noX : Expr := .Constant .none 0 ⟨0, 0, 0, 0⟩
def argX (i : Nat) : Expr → Expr
  | .Call _ es _ _ => es.getD i noX
  | _ => noX
/-- the value of an assignment, of an expression's statement, what a for goes over -/
def valX : Stmt → Expr
  | .Assign _ v _ => v
  | .Expr v _ => v
  | .For _ it _ _ _ => it
  | .If t _ _ _ => t
  | .Return (some v) _ => v
  | _ => noX
abbrev q_lam : Str := "law.<locals>." ++ "<lambda>"
theorem codeO_is {c : Addr} {q : Str} : (∀ xs, CodeO c q ≠ .lst xs) ∧ (∀ ps, CodeO c q ≠ .tbl ps) := ⟨fun xs z => (by unfold CodeO at z; cases z), fun xs z => (by unfold CodeO at z; cases z)⟩
theorem extN_tm {H H' : Hp} (e : ExtN H H') : Tm H H' := ⟨fun _ _ h => e _ _ h (fun _ z => nomatch z), fun _ _ _ h => e _ _ h (fun _ z => nomatch z)⟩
theorem RowAt.extN {K : PySem.W.Frag} {H H' : Hp} {r sc : Addr} {ns : List Int} (h : RowAt K H r sc ns) (e : ExtN H H') : RowAt K H' r sc ns := by
  obtain ⟨a, b, c, R⟩ := h
  refine ⟨a, b, c, e _ _ R.at_ (fun _ z => nomatch z), ?_, R.a0, R.b0, R.b1⟩
  rcases R.sc with (z | ⟨ob, z⟩) | z
  · exact .inl (.inl (e _ _ z (fun _ z => nomatch z)))
  · exact .inl (.inr ⟨ob, e _ _ z (fun _ z => nomatch z)⟩)
  · exact .inr z
theorem stepR_tml {l : Addr} {H H' : Hp} {xs : List V} (s : StepR l H H') (h : H l = some (.lst xs)) : Tm H H' :=
  ⟨fun a ys e => s a _ (ne_of e h (fun z => nomatch z)) e, fun a o ys e => s a _ (ne_of e h (fun z => nomatch z)) e⟩
/-- a list elsewhere may change -/
theorem RowAt.far {K : PySem.W.Frag} {H H' : Hp} {l r sc : Addr} {ns : List Int} (h : RowAt K H r sc ns) (hr : r ≠ l) (hs : sc ≠ l) (s : StepR l H H') : RowAt K H' r sc ns := by
  obtain ⟨a, b, c, R⟩ := h
  refine ⟨a, b, c, s _ _ hr R.at_, ?_, R.a0, R.b0, R.b1⟩
  rcases R.sc with (z | ⟨ob, z⟩) | z
  · exact .inl (.inl (s _ _ hs z))
  · exact .inl (.inr ⟨ob, s _ _ hs z⟩)
  · exact .inr z
/-- .. or the script stands in what the top has written -/
theorem RowAt.far' {K : PySem.W.Frag} {H0 H H' : Hp} {l r sc : Addr} {ns : List Int} (h0 : RowAt K H0 r sc ns) (hl : H0 l = none) (h : RowAt K H r sc ns) (s : StepR l H H') : RowAt K H' r sc ns := by
  have hr := h0.ne hl
  have s0 := h0.sq
  obtain ⟨a, b, c, R⟩ := h
  refine ⟨a, b, c, s _ _ hr R.at_, ?_, R.a0, R.b0, R.b1⟩
  rcases s0 with (s0 | ⟨ob, s0⟩) | s0
  · have hs : sc ≠ l := ne_of_none s0 hl
    rcases R.sc with (z | ⟨ob, z⟩) | z
    · exact .inl (.inl (s _ _ hs z))
    · exact .inl (.inr ⟨ob, s _ _ hs z⟩)
    · exact .inr z
  · have hs : sc ≠ l := ne_of_none s0 hl
    rcases R.sc with (z | ⟨ob, z⟩) | z
    · exact .inl (.inl (s _ _ hs z))
    · exact .inl (.inr ⟨ob, s _ _ hs z⟩)
    · exact .inr z
  · exact .inr s0
theorem dflt_of {X : Cx} {pins : List (Addr × Obj)} {σ : L2.St} {H : Hp} {s : Shared} {p : Addr} {v : V} (I : Inv X pins σ H s) (h : H p = some (.tup [v])) : ∃ u o n, RelV v u ∧ s.heap.get? p = some o ∧ o.data = .seq #[u] n := by
  obtain ⟨_, its, r, o, ho, _, n, hd⟩ := I.hok p _ h
  cases r with
  | cons r t =>
    cases t
    exact ⟨_, o, n, r, ho, hd⟩
theorem Tabs.rowX {K : PySem.W.Frag} {H H' : Hp} {r sc : Addr} {ns : List Int} {T : List (Addr × Str)} (ra : RowAt K H r sc ns) (s : StepR r H H') (h : Tabs T H) : Tabs T H' := fun p hp => by
  obtain ⟨x, y, z, R⟩ := ra
  obtain ⟨ps, h1, h2, h3⟩ := h p hp
  refine ⟨ps, s _ _ (ne_of h1 R.at_ (fun z => nomatch z)) h1, h2, fun pos cv hc => ?_⟩
  obtain ⟨c, e1, e2⟩ := h3 pos cv hc
  exact ⟨c, e1, s _ _ (ne_of e2 R.at_ (codeO_is.1 _)) e2⟩
end Lt

set_option Elab.async false
set_option linter.all false
set_option maxRecDepth 100000
set_option maxHeartbeats 2000000
namespace Lt
open PySem PySem.Spec PyProof.Rows L2 NdefX LamX LmX
/-- a name of a text -/
def Cs (mg : Str → Option Value) (x z : Str) : Prop := ∃ t, mg x = some (.str z t)
def clsB : Stmt → List Stmt
  | .ClassDef _ _ _ b _ _ _ _ _ _ _ => b
  | _ => []
def initS (st : Stmt) : Stmt := (clsB st).getD 0 (.Pass ⟨0, 0, 0, 0⟩)
section
variable {P : Program} {w : World} {K : PySem.W.Frag} {mg : Str → Option Value} {base : Heap}
/-- a class's own line: an error is what «except» of its class names -/
theorem exm_own {S : Addr} (h1 : PySem.W.subIn K (.ref S) (.type "BaseException") = some true) (h2 : PySem.W.isClsIn K S = true) (h3 : PySem.W.typeIn K (.ref S) = some (.type "type")) (h4 : PySem.W.subIn K (.ref S) (.ref S) = some true) : PySem.W.exmOne K (.ref S) (.ref S) = some true := by
  have i2 : (PySem.W.clsIn K S).isSome = true := h2
  have a : (if ((PySem.W.clsIn K S).isSome && PySem.W.typeIn K (.ref S) == some (.type "type")) = true then PySem.W.subIn K (.ref S) (.ref S) else none) = some true := by
    rw [if_pos (by rw [i2, h3]; rfl)]
    exact h4
  have b : (PySem.W.subIn K (.ref S) (.type "BaseException") == some true) = true := by
    rw [h1]
    rfl
  exact (if_pos b).trans a
structure ErrFs (K : PySem.W.Frag) (mg : Str → Option Value) (x fld : Str) (C : Addr) (st : Stmt) : Prop where
  g : mg x = some (.ref C)
  cls : ∃ nm q N bs bm sn sub ab col dd k0 k1 k2 k3 k5, K.lookup C = some (excClassObj nm q C N bs bm true sn sub ab col dd k0 k1 k2 k3 k5 "ValueError.__new__") ∧ PySem.HandSPX.refsVE bm = true
  sa : PySem.W.findIn K (.ref C) "__setattr__" = some (some (.builtin "object.__setattr__"))
  ga : PySem.W.findIn K (.ref C) "__getattribute__" = some (some (.builtin "BaseException.__getattribute__"))
  gg : PySem.W.findIn K (.ref C) "__getattr__" = some none
  no : PySem.W.findIn K (.ref C) fld = some none
  kC : PySem.W.keepIn K (.ref C) = true
  eC : PySem.W.subIn K (.ref C) (.type "BaseException") = some true
  tC : PySem.W.typeIn K (.ref C) = some (.type "type")
  hC : PySem.W.hasDictIn K C = true
  iC : PySem.W.isClsIn K C = true
  sC : PySem.W.subIn K (.ref C) (.ref C) = some true
  init : ∃ fI fd, PySem.W.findIn K (.ref C) "__init__" = some (some (.ref fI)) ∧ PySem.W.typeIn K (.ref fI) = some (.type "function") ∧ Binds K fd ["self", fld] [] ∧ Fun K "__init__" (x ++ ".__init__") (initS st) fI fd
theorem ErrFs.errI {x fld : Str} {C : Addr} {st : Stmt} (F : ErrFs K mg x fld C st) (ok : ∀ {fI fd}, Fun K "__init__" (x ++ ".__init__") (initS st) fI fd → FnOk P w K mg base CX0 1 fI fd ["self", fld] (spInit K fld)) : ErrI P w K mg base x fld C := by
  obtain ⟨fI, fd, h1, h2, h3, h4⟩ := F.init
  exact ⟨⟨F.cls, F.sa, F.eC, F.tC, F.kC⟩, F.g, F.no, ⟨fI, fd, h1, h2, h3, ok h4⟩, ⟨F.ga, F.gg, F.eC, F.hC⟩, exm_own F.eC F.iC F.tC F.sC⟩
end
/-! ### methods, properties, __init__ -/
theorem prop_mk {K : PySem.W.Frag} {C p f : Addr} {m q : Str} {st : Stmt} {rest : List Value} {oc kV doc pm cdv ct : Value} {od an : Option Addr} {osl : Array (Option Value)} (a : PySem.W.findIn K (.ref C) m = some (some (.ref p)))
    (g : PySem.W.specialIn K (.ref p) "__get__" = some (some (.builtin "property.__get__"))) (t : PySem.W.takesIn K (.ref p) = some true) (rc : PySem.W.recIn K p "property" = some (.ref f :: rest))
    (l : K.lookup f = some ⟨oc, od, .func (PySem.W.fnOf m q (defArgs st) (defBody st) (defScope st) .none kV doc pm an cdv ct), osl⟩) (c : PySem.W.codeIn K cdv q = true) (k : PySem.W.keepIn K (.ref f) = true)
    (hb : ∀ (kV doc pm : Value) (an : Option Addr) (cdv ct : Value) (us : List Value), us.length = (["self"] : List Str).length → bindArgs (PySem.W.fnOf m q (defArgs st) (defBody st) (defScope st) .none kV doc pm an cdv ct) ⟨us, []⟩ = pure ((["self"] : List Str).zip us)) : PropF K C m q st :=
  ⟨⟨p, f, _, ⟨a, g, t, rest, rc⟩, (fun_mk l c k).binds hb, fun_mk l c k⟩⟩
/-- the class at C stands under x -/
structure ClsA (K : PySem.W.Frag) (mg : Str → Option Value) (x : Str) (C : Addr) : Prop where
  g : mg x = some (.ref C)
  cl : Cls K C
  mks : PySem.W.makesIn K C = true
  kc : PySem.W.keepIn K (.ref C) = true
/-! ### a law with lambdas -/
end Lt

set_option Elab.async false
set_option linter.all false
set_option maxRecDepth 100000
set_option maxHeartbeats 1000000
/-! formulas: words, what may stand, and the parser -/
namespace Lt
open PySem PySem.Spec PyProof.Rows L2
abbrev Tok := Nat × Str
def wVoid : Str := ""
end Lt

set_option Elab.async false
set_option linter.all false
set_option maxRecDepth 100000
set_option maxHeartbeats 1000000
/-! the words of a text -/
namespace Lt
open PySem PySem.Spec PyProof.Rows L2
/-- text[a:b] -/
def cut (T : List Nat) (a b : Nat) : Str := ⟨((T.drop a).take (b - a)).toArray⟩
def wX0 : Str := "X0"
/-- the program's words of one word of the law -/
def flat (t : Tok) : List Tok := if t.2 = wX0 then [(t.1, ("X" : Str)), (t.1 + 1, ("0" : Str))] else [t]
/-! ### the law's words and the program's -/
/-- the words as the program has them -/
def toks (P : List Tok) (e : Nat) : List Tok := P.flatMap flat ++ [(e, wVoid)]
end Lt

set_option Elab.async false
set_option linter.all false
set_option maxRecDepth 100000
set_option maxHeartbeats 4000000
/-! enumerate over a str, in a for -/
namespace L2
open PySem PySem.Spec PyProof.Rows
end L2

set_option Elab.async false
set_option linter.all false
set_option maxRecDepth 100000
set_option maxHeartbeats 1000000
/-! placed_words -/
namespace Lt
open PySem PySem.Spec PyProof.Rows L2
/-- a name of the module, by its value -/
theorem pe_gc2 {X : Cx} {x : Str} {v : V} {pos : Pos} (hg : Gl X x) (h : ∃ u, X.mg x = some u ∧ RelV v u) (hd : (x == ("__debug__" : Str)) = false := by decide) : PE X (.Name x pos) (tC v) := by
  obtain ⟨u, hm, r⟩ := h
  exact pe_glob hg hm r hd
/-- a placed word -/
def RTk (H : Hp) (v : V) (t : Tok) : Prop := ∃ a, v = .ref a ∧ H a = some (.tup [nI t.1, .str t.2])
theorem RTk.tm {H H' : Hp} {v : V} {t : Tok} (e : Tm H H') (h : RTk H v t) : RTk H' v t := let ⟨a, e1, h⟩ := h; ⟨a, e1, e.1 _ _ h⟩
theorem RTks.tm {H H' : Hp} (e : Tm H H') : ∀ {xs : List V} {ts : List Tok}, Paired (RTk H) xs ts → Paired (RTk H') xs ts
  | _, _, .nil => .nil
  | _, _, .cons r t => .cons (r.tm e) (RTks.tm e t)
section
variable {P : Program} {w : World} {K : PySem.W.Frag} {mg : Str → Option Value} {base : Heap}
end
end Lt

set_option Elab.async false
set_option linter.all false
set_option maxRecDepth 100000
set_option maxHeartbeats 1000000
/-! expected, tree_from -/
namespace Lt
open PySem PySem.Spec PyProof.Rows L2
theorem flat_strs (ws : List Str) : (ws.map V.str).all flatV = true := by
  rw [List.all_map]
  exact List.all_eq_true.mpr fun _ _ => rfl
theorem inV_strs (w : Str) (ws : List Str) : inV (.str w) (ws.map V.str) = decide (w ∈ ws) := by
  unfold inV
  rw [List.any_map]
  induction ws with
  | nil => rfl
  | cons a ws ih =>
    rw [List.any_cons, ih]
    show ((a == w) || _) = _
    by_cases h : a = w
    · subst h
      rw [beq_self_eq_true, Bool.true_or, decide_eq_true (List.mem_cons_self ..)]
    · rw [beq_eq_false_iff_ne.mpr h, Bool.false_or]
      exact decide_eq_decide.mpr ⟨fun m => List.mem_cons_of_mem _ m, fun m => by
        rcases List.mem_cons.mp m with e | m
        · exact absurd e.symm h
        · exact m⟩
section
variable {P : Program} {w : World} {K : PySem.W.Frag} {mg : Str → Option Value} {base : Heap} {CB : Addr}
end
end Lt

set_option Elab.async false
set_option linter.all false
set_option maxRecDepth 100000
set_option maxHeartbeats 1000000
/-! tree_from -/
namespace Lt
open PySem PySem.Spec PyProof.Rows L2
section
variable {P : Program} {w : World} {K : PySem.W.Frag} {mg : Str → Option Value} {base : Heap} {CB : Addr}
end
end Lt

set_option Elab.async false
set_option linter.all false
set_option maxRecDepth 100000
set_option maxHeartbeats 1000000
/-! check_inputs, formula_tree -/
namespace Lt
open PySem PySem.Spec PyProof.Rows L2
def RStr (_ : Hp) (v : V) (z : Str) : Prop := v = .str z
theorem RStr.all {H : Hp} : ∀ {zs : List V} {t : List Str}, Paired (RStr H) zs t → zs = t.map V.str
  | _, _, .nil => rfl
  | _, _, .cons r t => by rw [(show _ = V.str _ from r), RStr.all t]; rfl
theorem log_small {i : Nat} (h : i < 1000) : ((i : Nat) : Int).natAbs.log2 < 1920 := by
  rw [Int.natAbs_natCast]
  by_cases z : i = 0
  · subst z; decide +kernel
  · exact (Nat.log2_lt z).mpr (Nat.lt_of_lt_of_le h (by decide +kernel))
section
variable {P : Program} {w : World} {K : PySem.W.Frag} {mg : Str → Option Value} {base : Heap} {CB CN CS : Addr}
end
end Lt

set_option Elab.async false
set_option linter.all false
set_option maxRecDepth 100000
set_option maxHeartbeats 1000000
/-! tree_from of a formula that stands: the tree itself (for k04) -/
namespace Lt
open PySem PySem.Spec PyProof.Rows L2
section
variable {P : Program} {w : World} {K : PySem.W.Frag} {mg : Str → Option Value} {base : Heap} {CB : Addr}
end
end Lt

set_option Elab.async false
set_option linter.all false
set_option maxRecDepth 100000
set_option maxHeartbeats 1000000
/-! a comprehension over enumerate of a tuple -/
namespace Lt
open PySem PySem.Spec PyProof.Rows L2
end Lt

set_option Elab.async false
set_option linter.all false
set_option maxRecDepth 100000
set_option maxHeartbeats 1000000
/-! input_table, bits_of, worth_of -/
namespace Lt
open PySem PySem.Spec PyProof.Rows L2
section
variable {P : Program} {w : World} {K : PySem.W.Frag} {mg : Str → Option Value} {base : Heap}
end
end Lt

set_option Elab.async false
set_option linter.all false
set_option maxRecDepth 100000
set_option maxHeartbeats 1000000
/-! worth_of, exactly (for k04) -/
namespace Lt
open PySem PySem.Spec PyProof.Rows L2
section
variable {P : Program} {w : World} {K : PySem.W.Frag} {mg : Str → Option Value} {base : Heap}
end
end Lt

set_option Elab.async false
set_option linter.all false
set_option maxRecDepth 100000
set_option maxHeartbeats 1000000
/-! the words of a text, without their places; what a formula comes to -/
namespace Lt
open PySem PySem.Spec PyProof.Rows L2
/-! ### what a formula comes to -/
end Lt

set_option Elab.async false
set_option linter.all false
set_option maxRecDepth 100000
set_option maxHeartbeats 1000000
/-! table_of -/
namespace Lt
open PySem PySem.Spec PyProof.Rows L2
section
variable {P : Program} {w : World} {K : PySem.W.Frag} {mg : Str → Option Value} {base : Heap} {CB : Addr}
end
end Lt

set_option Elab.async false
set_option linter.all false
set_option maxRecDepth 100000
set_option maxHeartbeats 1000000
/-! formula_tree and table_of, exactly -/
namespace Lt
open PySem PySem.Spec PyProof.Rows L2
section
variable {P : Program} {w : World} {K : PySem.W.Frag} {mg : Str → Option Value} {base : Heap} {CB CS : Addr}
end
end Lt

set_option Elab.async false
set_option linter.all false
set_option maxRecDepth 100000
set_option maxHeartbeats 1000000
namespace Lt
open PySem PySem.Spec PyProof.Rows L2
section
variable {P : Program} {w : World} {K : PySem.W.Frag} {mg : Str → Option Value} {base : Heap}
/-! ### _law_pick, _law_is -/
def spPick (K : PySem.W.Frag) : Sp := fun vs H Q _ => ∃ (r l sc : Addr) (ns : List Int) (xs : List V), vs = [.ref r, .ref l] ∧ RowAt K H r sc ns ∧ H l = some (.lst xs) ∧ l ≠ r ∧ 1 ≤ xs.length ∧ xs.length ≤ 1000 ∧ ∀ x H', x ∈ xs → StepR r H H' → RowAt K H' r sc ns → Q x H'
theorem sc_law_pick : FnScope ["row", "things"] ["row", "things"] (defScope s_law_pick) := ⟨rfl, rfl, rfl, by decide +kernel, rfl, by decide +kernel, by decide +kernel⟩
theorem has_law_pick (T : Top K mg "_law_pick" s_law_pick ["row", "things"]) (B : Bi mg) (hT : Has P w K mg base CX0 1 "_law_taken" ["row", "many"] (spTaken K)) : Has P w K mg base CX0 2 "_law_pick" ["row", "things"] (spPick K) := by
  refine T.ok sc_law_pick (fun vs H Q E h => ?_) (fun f cdv A outer s H vs Q E hr h => ?_)
  · obtain ⟨r, l, sc, ns, xs, rfl, _⟩ := h
    rfl
  · obtain ⟨r, l, sc, ns, xs, rfl, ra, hl, hne, h1, h2, q⟩ := h
    refine ⟨_, pss_one (ps_ret (pe_ix ix_list (pv 1) (pe_has hT hr (by rfl) (pa_cons (pv 0) (pa_cons (pe_callB call_len_seq (by rfl) B.len PySem.boot_len (pa_cons (pv 1) pa_nil)) pa_nil))) (fun _ _ => rfl))), ?_⟩
    refine ⟨_, rfl, _, rfl, _, rfl, l, xs, rfl, .inl (SqL.of hl), r, sc, ns, xs.length, rfl, ra, h1, h2, fun x H' hx st ra' => ?_⟩
    exact ⟨l, xs, (x : Int), xs[x], rfl, rfl, SqL.of (st l _ hne hl), atI_nat (List.getElem?_eq_getElem hx), q _ H' (List.getElem_mem hx) st ra'⟩
end
end Lt

set_option Elab.async false
set_option linter.all false
set_option maxRecDepth 100000
set_option maxHeartbeats 1000000
/-! the law's formulas: _law_tree, _law_spelled -/
namespace Lt
open PySem PySem.Spec PyProof.Rows L2
section
variable {P : Program} {w : World} {K : PySem.W.Frag} {mg : Str → Option Value} {base : Heap}
end
end Lt

set_option Elab.async false
set_option linter.all false
set_option maxRecDepth 100000
set_option maxHeartbeats 1000000
/-! _law_first -/
namespace Lt
open PySem PySem.Spec PyProof.Rows L2
section
variable {P : Program} {w : World} {K : PySem.W.Frag} {mg : Str → Option Value} {base : Heap}
end
end Lt

set_option Elab.async false
set_option linter.all false
set_option maxRecDepth 100000
set_option maxHeartbeats 1000000
/-! the law's words -/
namespace Lt
open PySem PySem.Spec PyProof.Rows L2
end Lt

set_option Elab.async false
set_option linter.all false
set_option maxRecDepth 100000
set_option maxHeartbeats 2000000
/-! comprehensions whose parts draw from the row -/
namespace Lt
open PySem PySem.Spec PyProof.Rows L2
section
variable {K : PySem.W.Frag} {te : TE} {vs : List Nat} {σ : L2.St} {H1 : Hp} {D r sc : Addr} {ns : List Int} {Qd : Hp → Prop} {β : Type} {j : Nat}
end
end Lt

set_option Elab.async false
set_option linter.all false
set_option maxRecDepth 100000
set_option maxHeartbeats 1000000
/-! k04: the law's trees and texts -/
namespace Lt
open PySem PySem.Spec PyProof.Rows L2
section
variable {P : Program} {w : World} {K : PySem.W.Frag} {mg : Str → Option Value} {base : Heap}
/-! ### _law_text -/
end
end Lt

set_option Elab.async false
set_option linter.all false
set_option maxRecDepth 100000
set_option maxHeartbeats 1000000
/-! the law's rows of bits, what its trees come to -/
namespace Lt
open PySem PySem.Spec PyProof.Rows L2
section
variable {P : Program} {w : World} {K : PySem.W.Frag} {mg : Str → Option Value} {base : Heap}
theorem TKbs.tm {H H' : Hp} (e : Tm H H') : ∀ {xs : List V} {ts : List (List Nat)}, Paired (TK H) xs ts → Paired (TK H') xs ts
  | _, _, .nil => .nil
  | _, _, .cons r t => .cons (r.tm e) (TKbs.tm e t)
end
end Lt

set_option Elab.async false
set_option linter.all false
set_option maxRecDepth 100000
set_option maxHeartbeats 1000000
/-! what the law's tree comes to on a row of bits -/
namespace Lt
open PySem PySem.Spec PyProof.Rows L2
section
variable {X : Cx}
end
section
variable {P : Program} {w : World} {K : PySem.W.Frag} {mg : Str → Option Value} {base : Heap}
end
end Lt

set_option Elab.async false
set_option linter.all false
set_option maxRecDepth 100000
set_option maxHeartbeats 1000000
/-! a comprehension with a test, over whatever is walked -/
namespace Lt
open PySem PySem.Spec PyProof.Rows L2
def Cf {β : Type} (H1 : Hp) (D : Addr) (R : Hp → V → β → Prop) (ys : List β) (i : Nat) (H : Hp) : Prop := Same H1 H ∧ ∃ zs, H D = some (.lst zs) ∧ Paired (R H) zs ys ∧ zs.length ≤ i
theorem lc_genF {J : It} {g : TG} {tt : L2.TT} {te : TE} {vs : List Nat} {σ : L2.St} {H1 : Hp} {D : Addr} {Qd : Hp → Prop} {β : Type} {n : Nat} (R : Hp → V → β → Prop) (p : Nat → Bool) (f : Nat → β) (mono : ∀ H H' v b, Tm H H' → R H v b → R H' v b) (hz : n ≤ 100000) (hD : H1 D = none)
    (hgo : ∀ i H, i < n → Same H1 H → J.go i H) (hst : ∀ H, Same H1 H → J.stop n H)
    (hs : ∀ i H x H', i < n → Same H1 H → J.yld i H x H' → Same H H' ∧ ∃ σ2, (∀ Kk : L2.St → Hp → Prop, Kk σ2 H' → g x (wipe σ vs) H' Kk) ∧ wipe σ2 vs = wipe σ vs ∧ (∀ Q, (∀ H3, Same H' H3 → Q (p i) H3) → tt σ2 H' Q) ∧
      (p i = true → ∀ H3, Same H' H3 → ∀ Q : VK, (∀ v H4, Same H3 H4 → R H4 v (f i) → Q v H4) → te σ2 H3 Q))
    (hd : ∀ H zs, Same H1 H → H D = some (.lst zs) → Paired (R H) zs (((List.range n).filter p).map f) → Qd H) :
    ∃ W : Nat → Nat → Hp → Prop, (∃ m, W 0 m (upd H1 D (.lst []))) ∧ ∀ i m H, W i m H →
      (J.stop i H ∧ Qd H) ∨ (J.go i H ∧ ∃ Nx : Hp → Prop, (∀ H', Nx H' → ∃ m', m' < m ∧ W (i + 1) m' H') ∧ ∀ x H', J.yld i H x H' → g x (wipe σ vs) H' fun σ2 H2 => wipe σ2 vs = wipe σ vs ∧ tt σ2 H2 fun b H3 =>
        if b = true then te σ2 H3 fun y H4 => ∃ acc, H4 D = some (.lst acc) ∧ acc.length < sizeLine ∧ Nx (upd H4 D (.lst (acc ++ [y]))) else Nx H3) := by
  refine ⟨fun i m H => m = n - i ∧ i ≤ n ∧ Cf H1 D R (((List.range i).filter p).map f) i H, ⟨n, by simp, Nat.zero_le _, same_new hD, [], upd_same, .nil, Nat.le_refl _⟩, ?_⟩
  rintro i m H ⟨rfl, hi, c⟩
  obtain ⟨sm, zs, h1, pr, hl⟩ := c
  by_cases hlt : i < n
  · refine .inr ⟨hgo i H hlt sm, Cf H1 D R (((List.range (i + 1)).filter p).map f) (i + 1), fun H' p' => ⟨n - (i + 1), by omega, rfl, hlt, p'⟩, fun x H' y => ?_⟩
    obtain ⟨s', σ2, hg, hw, ht, he⟩ := hs i H x H' hlt sm y
    refine hg _ ⟨hw, ht _ fun H3 s3 => ?_⟩
    have s13 := s'.trans s3
    cases hp : p i with
    | false =>
      rw [if_neg (by decide)]
      refine ⟨sm.trans s13, zs, s13 _ _ h1, ?_, by omega⟩
      rw [List.range_succ, List.filter_append]
      show Paired (R H3) zs ((List.filter p (List.range i) ++ List.filter p [i]).map f)
      rw [List.filter_cons_of_neg (by rw [hp]; decide), List.filter_nil, List.append_nil]
      exact paired_mono (fun a b r => mono _ _ _ _ (Tm.of s13) r) pr
    | true =>
      rw [if_pos rfl]
      refine he hp H3 s3 _ fun v H4 s4 r => ?_
      have s14 := s13.trans s4
      have h4 := s14 _ _ h1
      have t4 : Tm H4 (upd H4 D (.lst (zs ++ [v]))) := Tm.lst h4
      refine ⟨zs, h4, Nat.lt_of_le_of_lt hl (Nat.lt_of_lt_of_le (Nat.lt_of_lt_of_le hlt hz) (by decide)), same_mut (sm.trans s14) hD, zs ++ [v], upd_same, ?_, by rw [List.length_append]; show zs.length + 1 ≤ i + 1; omega⟩
      rw [List.range_succ, List.filter_append]
      show Paired _ _ ((List.filter p (List.range i) ++ List.filter p [i]).map f)
      rw [List.filter_cons_of_pos hp, List.filter_nil, List.map_append]
      exact Paired.app (paired_mono (fun a b q => mono _ _ _ _ ((Tm.of s14).trans t4) q) pr) (Paired.one (mono _ _ _ _ t4 r))
  · have e : i = n := by omega
    subst e
    exact .inl ⟨hst H sm, hd H zs sm h1 pr⟩
end Lt

set_option Elab.async false
set_option linter.all false
set_option maxRecDepth 100000
set_option maxHeartbeats 1000000
/-! tasks.py: what is checked, the inputs and the parts of a table -/
namespace Lt
open PySem PySem.Spec PyProof.Rows L2
section
variable {P : Program} {w : World} {K : PySem.W.Frag} {mg : Str → Option Value} {base : Heap} {CN CT : Addr}
end
end Lt

set_option Elab.async false
set_option linter.all false
set_option maxRecDepth 100000
set_option maxHeartbeats 4000000
/-! sorted of data that are alike, any length -/
namespace Lt
open PySem PySem.Spec PyProof.Rows L2
open PySem.W (EachIs AllAlike Sortable dataLe)
section
variable {X : Cx}
end
end Lt

set_option Elab.async false
set_option linter.all false
set_option maxRecDepth 100000
set_option maxHeartbeats 4000000
/-! sorted(xs, key=lambda x: (len(x[0]), x[0])), x[0] a tuple of numbers -/
namespace Lt
open PySem PySem.Spec PyProof.Rows L2 NdefX LamX LmX
open PySem.W (EachIs AllAlike Sortable dataLe KeyPure)
section
variable {X : Cx} {pins : List (Addr × Obj)} {σ : L2.St} {H : Hp} {s : Shared}
end
section
variable {X : Cx}
end
end Lt

set_option Elab.async false
set_option linter.all false
set_option maxRecDepth 100000
set_option maxHeartbeats 2000000
/-! zip of a list and a tuple; max(xs, default=None) -/
namespace Lt
open PySem PySem.Spec PyProof.Rows L2
/-! ### max(xs, default=None) -/
end Lt

set_option Elab.async false
set_option linter.all false
set_option maxRecDepth 100000
set_option maxHeartbeats 1000000
/-! the order of a polynomial's parts -/
namespace Lt
open PySem PySem.Spec PyProof.Rows L2 PySem.W
def kcL : List Nat := [0, 1, 2, 7, 3, 8, 12, 22, 4, 9, 13, 23, 16, 26, 32, 42, 5, 10, 14, 24, 17, 27, 33, 43, 19, 29, 35, 45, 38, 48, 52, 57, 6, 11, 15, 25, 18, 28, 34, 44, 20, 30, 36, 46, 39, 49, 53, 58, 21, 31, 37, 47, 40, 50, 54, 59, 41, 51, 55, 60, 56, 61, 62, 63]
def kc (t : Nat) : Nat := kcL.getD t 0
abbrev Sg := Int ⊕ List Nat
end Lt

set_option Elab.async false
set_option linter.all false
set_option maxRecDepth 100000
set_option maxHeartbeats 1000000
/-! the factors of a polynomial: differences, one input after the other, and sums over what lies within -/
namespace Lt
open PySem PySem.Spec PyProof.Rows L2
/-! ### the law's sum -/
end Lt

set_option Elab.async false
set_option linter.all false
set_option maxRecDepth 100000
set_option maxHeartbeats 1000000
/-! tasks.py: inputs_of, part_of, factors_of -/
namespace Lt
open PySem PySem.Spec PyProof.Rows L2
section
variable {P : Program} {w : World} {K : PySem.W.Frag} {mg : Str → Option Value} {base : Heap}
end
end Lt

set_option Elab.async false
set_option linter.all false
set_option maxRecDepth 100000
set_option maxHeartbeats 2000000
/-! a tuple once: t * 1 -/
namespace Lt
open PySem PySem.Spec PyProof.Rows L2
end Lt

set_option Elab.async false
set_option linter.all false
set_option maxRecDepth 100000
set_option maxHeartbeats 2000000
/-! tasks.py: polynomial, degree, all_of -/
namespace Lt
open PySem PySem.Spec PyProof.Rows L2
section
variable {P : Program} {w : World} {K : PySem.W.Frag} {mg : Str → Option Value} {base : Heap} {CN CT : Addr}
end
end Lt

set_option Elab.async false
set_option linter.all false
set_option maxRecDepth 100000
set_option maxHeartbeats 2000000
/-! tasks.py: degree, all_of -/
namespace Lt
open PySem PySem.Spec PyProof.Rows L2
section
variable {P : Program} {w : World} {K : PySem.W.Frag} {mg : Str → Option Value} {base : Heap} {CN CT : Addr}
end
end Lt

set_option Elab.async false
set_option linter.all false
set_option maxRecDepth 100000
set_option maxHeartbeats 2000000
/-! sum of a tuple of numbers -/
namespace Lt
open PySem PySem.Spec PyProof.Rows L2
end Lt

set_option Elab.async false
set_option linter.all false
set_option maxRecDepth 100000
set_option maxHeartbeats 2000000
/-! _law_parts: the pieces -/
namespace Lt
open PySem PySem.Spec PyProof.Rows L2 NdefX LamX LmX
section
variable {P : Program} {w : World} {K : PySem.W.Frag} {mg : Str → Option Value} {base : Heap} {c2 P2 : Addr}
end
end Lt

set_option Elab.async false
set_option linter.all false
set_option maxRecDepth 100000
set_option maxHeartbeats 4000000
/-! _law_parts -/
namespace Lt
open PySem PySem.Spec PyProof.Rows L2 NdefX LamX LmX
section
variable {P : Program} {w : World} {K : PySem.W.Frag} {mg : Str → Option Value} {base : Heap} {c2 P2 : Addr}
end
end Lt

set_option Elab.async false
set_option linter.all false
set_option maxRecDepth 100000
set_option maxHeartbeats 2000000
/-! the end of a law with lambdas, where one of its helpers makes lambdas too; the law's heap is the frame's -/
namespace Lt
open PySem PySem.Spec PyProof.Rows L2 NdefX LamX LmX
def spLamN (K : PySem.W.Frag) (TS : List (Addr × Str)) : Sp := fun vs H Q _ => ∃ (l : Addr) (ns : List Int), vs = [.ref l] ∧ SqL K H l (ns.map V.int) ∧ Tabs TS H ∧ ∀ H', Q (.bl true) H'
end Lt

set_option Elab.async false
set_option linter.all false
set_option maxRecDepth 100000
set_option maxHeartbeats 2000000
/-! the end of a law with lambdas of its own alone, the law's heap the frame's -/
namespace Lt
open PySem PySem.Spec PyProof.Rows L2 NdefX LamX LmX
end Lt

set_option Elab.async false
set_option linter.all false
set_option maxRecDepth 100000
set_option maxHeartbeats 2000000
/-! an own error class with two fields -/
namespace Lt
open PySem PySem.Spec PyProof.Rows L2
/-- __init__(self, f, g): self.f = f; self.g = g -/
def spInit2 (K : PySem.W.Frag) (f1 f2 : Str) : Sp := fun vs H Q _ => ∃ (a C : Addr) (v1 v2 : V), vs = [.ref a, v1, v2] ∧ OexC K C ∧ PySem.W.findIn K (.ref C) f1 = some none ∧ PySem.W.findIn K (.ref C) f2 = some none ∧ H a = some (exo a C none) ∧
  ∀ dx, H dx = none → dx ≠ a → Q .non (upd (upd (upd H dx (exd dx [(f1, v1)])) a (exo a C (some dx))) dx (exd dx [(f2, v2), (f1, v1)]))
structure ErrI2 (P : Program) (w : World) (K : PySem.W.Frag) (mg : Str → Option Value) (base : Heap) (x f1 f2 : Str) (C : Addr) : Prop where
  oex : OexC K C
  g : mg x = some (.ref C)
  no1 : PySem.W.findIn K (.ref C) f1 = some none
  no2 : PySem.W.findIn K (.ref C) f2 = some none
  init : ∃ fI fd, PySem.W.findIn K (.ref C) "__init__" = some (some (.ref fI)) ∧ PySem.W.typeIn K (.ref fI) = some (.type "function") ∧ Binds K fd ["self", f1, f2] [] ∧ FnOk P w K mg base CX0 1 fI fd ["self", f1, f2] (spInit2 K f1 f2)
  xf : XfC K C
  exm : PySem.W.exmOne K (.ref C) (.ref C) = some true
/-- an error with its fields lies behind H -/
def BadF2 (C : Addr) (f1 : Str) (v1 : V) (f2 : Str) (v2 : V) (H : Hp) (E : XK) : Prop := ∀ d H', Same H H' → H' d = some (.xd [(f2, v2), (f1, v1)]) → E (.ref C) (some d) H'
theorem BadF2.same {C : Addr} {f1 f2 : Str} {v1 v2 : V} {H H' : Hp} {E : XK} (h : BadF2 C f1 v1 f2 v2 H E) (s : Same H H') : BadF2 C f1 v1 f2 v2 H' E := fun d H2 s2 => h d H2 (s.trans s2)
theorem mk_read2 {K : PySem.W.Frag} {C : Addr} {f1 f2 : Str} {v1 v2 : V} {H1 : Hp} {Q : XK} (oex : OexC K C) (no1 : PySem.W.findIn K (.ref C) f1 = some none) (no2 : PySem.W.findIn K (.ref C) f2 = some none) (h : BadF2 C f1 v1 f2 v2 H1 Q) :
    [v1, v2].length ≤ 1000 ∧ ∀ a, H1 a = none → spInit2 K f1 f2 (.ref a :: ([v1, v2] ++ [])) (upd H1 a (exo a C none))
      (fun u H2 => u = .non ∧ ∃ (d : Addr) (fs : List (Str × V)), H2 a = some (exo a C (some d)) ∧ H2 d = some (exd d fs) ∧ H1 d = none ∧ Q (.ref C) (some d) (upd (del H2 a) d (.xd fs))) (fun _ _ _ => False) := by
  refine ⟨by show 2 ≤ 1000; omega, fun a ha => ⟨a, C, v1, v2, rfl, oex, no1, no2, upd_same, fun dx hdx hne => ⟨rfl, dx, [(f2, v2), (f1, v1)], ?_, upd_same, ?_, ?_⟩⟩⟩
  · rw [upd_ne hne.symm, upd_same]
  · rw [upd_ne hne] at hdx
    exact hdx
  · rw [upd_ne hne] at hdx
    refine h dx _ (fun b o e => ?_) upd_same
    have h1 : b ≠ a := ne_of_none e ha
    have h2 : b ≠ dx := ne_of_none e hdx
    rw [upd_ne h2, del_ne h1, upd_ne h2, upd_ne h1, upd_ne h2, upd_ne h1]
    exact e
section
variable {X : Cx} {P : Program} {w : World} {K : PySem.W.Frag} {mg : Str → Option Value} {base : Heap}
/-- raise X(e1, e2) -/
theorem pmk_errI2 {x f1 f2 : Str} {C : Addr} {e1 e2 : Expr} {ta : TA} {p pos : Pos} (T : ErrI2 X.prog X.w X.K X.mg X.base x f1 f2 C) (hr : Room 2 X.A) (hg : Gl X x) (ha : PA X [e1, e2] ta)
    (hdb : (x == ("__debug__" : Str)) = false := by decide) (he : starEach (e1 :: [e2]) X.env = (false, eval e1 X.env) :: starEach [e2] X.env := by rfl) (hpl : (backTo pos (starEach [e2] X.env)).any (·.1) = false := by rfl) :
    PMk X (.Call (.Name x p) [e1, e2] [] pos) (tMkO C (spInit2 X.K f1 f2) [] ta) := by
  obtain ⟨fI, fd, iC, tI, b, F⟩ := T.init
  exact pmk_oex T.oex iC tI F hr b .nil pass0 hg T.g ha hdb he hpl
structure ErrFs2 (K : PySem.W.Frag) (mg : Str → Option Value) (x f1 f2 : Str) (C : Addr) (st : Stmt) : Prop where
  g : mg x = some (.ref C)
  cls : ∃ nm q N bs bm sn sub ab col dd k0 k1 k2 k3 k5, K.lookup C = some (excClassObj nm q C N bs bm true sn sub ab col dd k0 k1 k2 k3 k5 "ValueError.__new__") ∧ PySem.HandSPX.refsVE bm = true
  sa : PySem.W.findIn K (.ref C) "__setattr__" = some (some (.builtin "object.__setattr__"))
  ga : PySem.W.findIn K (.ref C) "__getattribute__" = some (some (.builtin "BaseException.__getattribute__"))
  gg : PySem.W.findIn K (.ref C) "__getattr__" = some none
  no1 : PySem.W.findIn K (.ref C) f1 = some none
  no2 : PySem.W.findIn K (.ref C) f2 = some none
  kC : PySem.W.keepIn K (.ref C) = true
  eC : PySem.W.subIn K (.ref C) (.type "BaseException") = some true
  tC : PySem.W.typeIn K (.ref C) = some (.type "type")
  hC : PySem.W.hasDictIn K C = true
  iC : PySem.W.isClsIn K C = true
  sC : PySem.W.subIn K (.ref C) (.ref C) = some true
  init : ∃ fI fd, PySem.W.findIn K (.ref C) "__init__" = some (some (.ref fI)) ∧ PySem.W.typeIn K (.ref fI) = some (.type "function") ∧ Binds K fd ["self", f1, f2] [] ∧ Fun K "__init__" (x ++ ".__init__") (initS st) fI fd
theorem ErrFs2.errI2 {x f1 f2 : Str} {C : Addr} {st : Stmt} (F : ErrFs2 K mg x f1 f2 C st) (ok : ∀ {fI fd}, Fun K "__init__" (x ++ ".__init__") (initS st) fI fd → FnOk P w K mg base CX0 1 fI fd ["self", f1, f2] (spInit2 K f1 f2)) : ErrI2 P w K mg base x f1 f2 C := by
  obtain ⟨fI, fd, h1, h2, h3, h4⟩ := F.init
  exact ⟨⟨F.cls, F.sa, F.eC, F.tC, F.kC⟩, F.g, F.no1, F.no2, ⟨fI, fd, h1, h2, h3, ok h4⟩, ⟨F.ga, F.gg, F.eC, F.hC⟩, exm_own F.eC F.iC F.tC F.sC⟩
end
end Lt

set_option Elab.async false
set_option linter.all false
set_option maxRecDepth 100000
set_option maxHeartbeats 4000000
/-! the end over one run of the top in the kernel -/
namespace Lt
open PySem PySem.Spec PyProof.Rows L2 NdefX LamX LmX
section
variable {fx : List Fx} {ts : List He.Tab} {tf : List He.Defn} {bs : List (PySem.W.Frag → Bool)} {w : World} {h : Heap} {K : PySem.W.Frag} {mg : Str → Option Value}
theorem SaysY.f (c : SaysY fx ts tf bs w h K) (i : Nat) {d : Fx} (e : fx[i]? = some d) : FxAt K (d.at_ K) d.name d.qual d.st := c.fns d (List.mem_of_getElem? e)
theorem SaysY.b (c : SaysY fx ts tf bs w h K) (i : Nat) {b : PySem.W.Frag → Bool} (e : bs[i]? = some b) : b K = true := c.bool b (List.mem_of_getElem? e)
theorem SaysY.t (c : SaysY fx ts tf bs w h K) (i : Nat) {t : He.Tab} (e : ts[i]? = some t) : ∃ es n, KDict K w (t.1 K) es n := c.tab t (List.mem_of_getElem? e)
/-! ### defs -/
theorem topY (X : K.In h) (G : h.Ns mainGlobals mg) {x : Str} {st : Stmt} {ps : List Str} (b : (He.Fa.glo x).ok K = true) (F : FxAt K (He.ga K x) x x st)
    (hb : ∀ (kV doc pm : Value) (an : Option Addr) (cdv ct : Value) (us : List Value), us.length = ps.length → bindArgs (PySem.W.fnOf x x (defArgs st) (defBody st) (defScope st) .none kV doc pm an cdv ct) ⟨us, []⟩ = pure (ps.zip us)) : Top K mg x st ps := by
  obtain ⟨oc, od, osl, kV, doc, pm, an, cdv, ct, l, c, k⟩ := F
  exact ⟨_, _, He.glo_ok X G b, fun_mk l c k, (fun_mk l c k).binds hb⟩
/-! ### classes -/
theorem clsY (X : K.In h) (G : h.Ns mainGlobals mg) {x : Str} (b : bCls x K = true) : ClsA K mg x (He.ga K x) := by
  obtain ⟨b1, b⟩ := Bool.and_eq_true_iff.mp b
  obtain ⟨b2, b⟩ := Bool.and_eq_true_iff.mp b
  obtain ⟨b3, b4⟩ := Bool.and_eq_true_iff.mp b
  exact ⟨He.glo_ok X G b1, He.cls_ok b2, b3, b4⟩
theorem methY {C m q : Str} {st : Stmt} {ps : List Str} (b : (He.Fa.meth C m).ok K = true) (F : FxAt K (He.ma K (He.ga K C) m) m q st)
    (hb : ∀ (kV doc pm : Value) (an : Option Addr) (cdv ct : Value) (us : List Value), us.length = ps.length → bindArgs (PySem.W.fnOf m q (defArgs st) (defBody st) (defScope st) .none kV doc pm an cdv ct) ⟨us, []⟩ = pure (ps.zip us)) : MethF K (He.ga K C) m q st ps := by
  obtain ⟨oc, od, osl, kV, doc, pm, an, cdv, ct, l, c, k⟩ := F
  exact ⟨⟨_, _, He.meth_ok b, (fun_mk l c k).binds hb, fun_mk l c k⟩⟩
theorem initY (X : K.In h) (G : h.Ns mainGlobals mg) {x : Str} {st : Stmt} {ps : List Str} (g : (He.Fa.glo x).ok K = true) (b : (He.Fa.mkr x).ok K = true) (F : FxAt K (He.ma K (He.ga K x) "__init__") "__init__" (x ++ ".__init__") st)
    (hb : ∀ (kV doc pm : Value) (an : Option Addr) (cdv ct : Value) (us : List Value), us.length = ps.length → bindArgs (PySem.W.fnOf "__init__" (x ++ ".__init__") (defArgs st) (defBody st) (defScope st) .none kV doc pm an cdv ct) ⟨us, []⟩ = pure (ps.zip us)) : InitF K mg (He.ga K x) x st ps := by
  obtain ⟨oc, od, osl, kV, doc, pm, an, cdv, ct, l, c, k⟩ := F
  exact ⟨⟨_, _, He.glo_ok X G g, He.mkr_ok b, (fun_mk l c k).binds hb, fun_mk l c k⟩⟩

theorem hd_is {r : Option (List Value)} (h : hasHd r = true) : ∃ rest, r = some (.ref (headA r) :: rest) := by
  cases r with
  | none => cases h
  | some l =>
    cases l with
    | nil => cases h
    | cons a l =>
      cases a with
      | ref f => exact ⟨l, rfl⟩
      | _ => cases h
theorem propY {C m q : Str} {st : Stmt} (b : bProp C m K = true) (F : FxAt K (pA K C m) m q st)
    (hb : ∀ (kV doc pm : Value) (an : Option Addr) (cdv ct : Value) (us : List Value), us.length = (["self"] : List Str).length → bindArgs (PySem.W.fnOf m q (defArgs st) (defBody st) (defScope st) .none kV doc pm an cdv ct) ⟨us, []⟩ = pure ((["self"] : List Str).zip us)) : PropF K (He.ga K C) m q st := by
  obtain ⟨b1, b⟩ := Bool.and_eq_true_iff.mp b
  obtain ⟨b2, b⟩ := Bool.and_eq_true_iff.mp b
  obtain ⟨b3, b4⟩ := Bool.and_eq_true_iff.mp b
  obtain ⟨rest, hr⟩ := hd_is b4
  obtain ⟨oc, od, osl, kV, doc, pm, an, cdv, ct, l, c, k⟩ := F
  exact prop_mk (He.eqO_ok b1) (He.eqO_ok b2) (of_decide_eq_true b3) hr l c k hb
/-! ### errors -/
theorem newB_is {l : List (Option Value)} (h : newB l = true) : ∃ k0 k1 k2 k3 k5, l = [k0, k1, k2, k3, some (.builtin "ValueError.__new__"), k5] := by
  unfold newB at h
  split at h
  · next k0 k1 k2 k3 n k5 => exact ⟨k0, k1, k2, k3, k5, by rw [of_decide_eq_true h]⟩
  · cases h
theorem mroB_is {C : Addr} {l : List Value} (h : mroB C l = true) : ∃ r, l = .ref C :: r ∧ PySem.HandSPX.refsVE r = true := by
  unfold mroB at h
  split at h
  · next D r =>
    obtain ⟨h6, h7⟩ := Bool.and_eq_true_iff.mp h
    exact ⟨r, by rw [of_decide_eq_true h6], h7⟩
  · cases h
theorem errO_ok {K : PySem.W.Frag} {C : Addr} (h : (K.lookup C).any (errO C) = true) : ∃ nm q N bs bm sn sub ab col dd k0 k1 k2 k3 k5, K.lookup C = some (excClassObj nm q C N bs bm true sn sub ab col dd k0 k1 k2 k3 k5 "ValueError.__new__") ∧ PySem.HandSPX.refsVE bm = true := by
  cases q : K.lookup C with
  | none => rw [q] at h; cases h
  | some o =>
    rw [q] at h
    have h : errO C o = true := h
    obtain ⟨oc, od, dt, osl⟩ := o
    unfold errO at h
    cases oc with
    | type t =>
      cases dt with
      | cls z =>
        obtain ⟨h1, h⟩ := Bool.and_eq_true_iff.mp h
        obtain ⟨h2, h⟩ := Bool.and_eq_true_iff.mp h
        obtain ⟨h3, h⟩ := Bool.and_eq_true_iff.mp h
        obtain ⟨h4, h5⟩ := Bool.and_eq_true_iff.mp h
        obtain ⟨nm, bs, mro, ns, qn, hd, sn, sub, ab, col, del⟩ := z
        dsimp only at h2 h3 h4 h5
        have e1 : t = "type" := of_decide_eq_true h1
        subst e1 h3
        have e4 : del = false := by cases del with | false => rfl | true => cases h4
        subst e4
        obtain ⟨l⟩ := osl
        obtain ⟨k0, k1, k2, k3, k5, e5⟩ := newB_is h2
        obtain ⟨r, e6, h7⟩ := mroB_is h5
        have e5 : l = _ := e5
        subst e5 e6
        exact ⟨nm, qn, ns, bs, r, sn, sub, ab, col, od, k0, k1, k2, k3, k5, rfl, h7⟩
      | _ => cases h
    | _ => cases h
structure ErrY (K : PySem.W.Frag) (x : Str) (fs : List Str) : Prop where
  g : (He.Fa.glo x).ok K = true
  cls : ∃ nm q N bs bm sn sub ab col dd k0 k1 k2 k3 k5, K.lookup (He.ga K x) = some (excClassObj nm q (He.ga K x) N bs bm true sn sub ab col dd k0 k1 k2 k3 k5 "ValueError.__new__") ∧ PySem.HandSPX.refsVE bm = true
  sa : PySem.W.findIn K (.ref (He.ga K x)) "__setattr__" = some (some (.builtin "object.__setattr__"))
  ga : PySem.W.findIn K (.ref (He.ga K x)) "__getattribute__" = some (some (.builtin "BaseException.__getattribute__"))
  gg : PySem.W.findIn K (.ref (He.ga K x)) "__getattr__" = some none
  no : ∀ f ∈ fs, PySem.W.findIn K (.ref (He.ga K x)) f = some none
  kC : PySem.W.keepIn K (.ref (He.ga K x)) = true
  eC : PySem.W.subIn K (.ref (He.ga K x)) (.type "BaseException") = some true
  tC : PySem.W.typeIn K (.ref (He.ga K x)) = some (.type "type")
  hC : PySem.W.hasDictIn K (He.ga K x) = true
  iC : PySem.W.isClsIn K (He.ga K x) = true
  sC : PySem.W.subIn K (.ref (He.ga K x)) (.ref (He.ga K x)) = some true
  i1 : PySem.W.findIn K (.ref (He.ga K x)) "__init__" = some (some (.ref (He.ma K (He.ga K x) "__init__")))
  i2 : PySem.W.typeIn K (.ref (He.ma K (He.ga K x) "__init__")) = some (.type "function")
theorem errY {x : Str} {fs : List Str} (b : bErr x fs K = true) : ErrY K x fs := by
  obtain ⟨a, b⟩ := Bool.and_eq_true_iff.mp b
  obtain ⟨a1, a2⟩ := Bool.and_eq_true_iff.mp a
  obtain ⟨a, b⟩ := Bool.and_eq_true_iff.mp b
  obtain ⟨a3, a⟩ := Bool.and_eq_true_iff.mp a
  obtain ⟨a4, a5⟩ := Bool.and_eq_true_iff.mp a
  obtain ⟨a6, b⟩ := Bool.and_eq_true_iff.mp b
  obtain ⟨a, b⟩ := Bool.and_eq_true_iff.mp b
  obtain ⟨a7, a⟩ := Bool.and_eq_true_iff.mp a
  obtain ⟨a8, a9⟩ := Bool.and_eq_true_iff.mp a
  obtain ⟨a, b⟩ := Bool.and_eq_true_iff.mp b
  obtain ⟨a10, a⟩ := Bool.and_eq_true_iff.mp a
  obtain ⟨a11, a12⟩ := Bool.and_eq_true_iff.mp a
  obtain ⟨a13, a14⟩ := Bool.and_eq_true_iff.mp b
  exact ⟨a1, errO_ok a2, He.eqO_ok a3, He.eqO_ok a4, He.eqO_ok a5, fun f hf => He.eqO_ok (List.all_eq_true.mp a6 f hf), a7, of_decide_eq_true a8, of_decide_eq_true a9, a10, a11, of_decide_eq_true a12, He.eqO_ok a13, of_decide_eq_true a14⟩
theorem err1Y (X : K.In h) (G : h.Ns mainGlobals mg) {x f1 : Str} {st : Stmt} (b : bErr x [f1] K = true) (F : FxAt K (He.ma K (He.ga K x) "__init__") "__init__" (x ++ ".__init__") (initS st))
    (hb : ∀ (kV doc pm : Value) (an : Option Addr) (cdv ct : Value) (us : List Value), us.length = (["self", f1] : List Str).length → bindArgs (PySem.W.fnOf "__init__" (x ++ ".__init__") (defArgs (initS st)) (defBody (initS st)) (defScope (initS st)) .none kV doc pm an cdv ct) ⟨us, []⟩ = pure ((["self", f1] : List Str).zip us)) : ErrFs K mg x f1 (He.ga K x) st := by
  have e := errY b
  obtain ⟨oc, od, osl, kV, doc, pm, an, cdv, ct, l, c, k⟩ := F
  exact ⟨He.glo_ok X G e.g, e.cls, e.sa, e.ga, e.gg, e.no f1 List.mem_cons_self, e.kC, e.eC, e.tC, e.hC, e.iC, e.sC, _, _, e.i1, e.i2, (fun_mk l c k).binds hb, fun_mk l c k⟩
theorem err2Y (X : K.In h) (G : h.Ns mainGlobals mg) {x f1 f2 : Str} {st : Stmt} (b : bErr x [f1, f2] K = true) (F : FxAt K (He.ma K (He.ga K x) "__init__") "__init__" (x ++ ".__init__") (initS st))
    (hb : ∀ (kV doc pm : Value) (an : Option Addr) (cdv ct : Value) (us : List Value), us.length = (["self", f1, f2] : List Str).length → bindArgs (PySem.W.fnOf "__init__" (x ++ ".__init__") (defArgs (initS st)) (defBody (initS st)) (defScope (initS st)) .none kV doc pm an cdv ct) ⟨us, []⟩ = pure ((["self", f1, f2] : List Str).zip us)) : ErrFs2 K mg x f1 f2 (He.ga K x) st := by
  have e := errY b
  obtain ⟨oc, od, osl, kV, doc, pm, an, cdv, ct, l, c, k⟩ := F
  exact ⟨He.glo_ok X G e.g, e.cls, e.sa, e.ga, e.gg, e.no f1 List.mem_cons_self, e.no f2 (List.mem_cons_of_mem _ List.mem_cons_self), e.kC, e.eC, e.tC, e.hC, e.iC, e.sC, _, _, e.i1, e.i2, (fun_mk l c k).binds hb, fun_mk l c k⟩
theorem err0Y (X : K.In h) (G : h.Ns mainGlobals mg) {x : Str} (b : bErr0 x K = true) : Err0 K mg x (He.ga K x) := by
  obtain ⟨a, b⟩ := Bool.and_eq_true_iff.mp b
  obtain ⟨a1, a2⟩ := Bool.and_eq_true_iff.mp a
  obtain ⟨b1, b2⟩ := Bool.and_eq_true_iff.mp b
  obtain ⟨q1, q2, q3, q4⟩ := He.exc_ok a2
  exact ⟨q1, He.glo_ok X G a1, q2, q3, q4, exm_own q3 b1 q4 (of_decide_eq_true b2)⟩
/-! ### the law -/
theorem lawY {q : Str} {l : PySem.W.OpenLaw} {lvl : Nat} {fa : Addr} {N : List Str} {st : Stmt} (S : FnScope N ["script"] (defScope st)) (X : K.In h) (G : h.Ns mainGlobals mg) (hfa : mg "law" = some (.ref fa)) (b : (He.Fa.glo "law").ok K = true) (F : FxAt K (He.ga K "law") "law" "law" st)
    (T : PySem.W.codeHdIn K (He.cT K ("law", none)).1 (He.cT K ("law", none)).2 = true ∧ K.lookup (He.cT K ("law", none)).2 = none ∧ h.get? (He.cT K ("law", none)).2 = some { cls := .none, data := .fields #[] })
    (hb : ∀ (kV doc pm : Value) (an : Option Addr) (cdv ct : Value) s u, BindsTo s (PySem.W.fnOf "law" "law" (defArgs st) (defBody st) (defScope st) .none kV doc pm an cdv ct) ⟨[u], []⟩ [("script", u)])
    (hall : ∀ (base : Heap) (f c Pt : Addr), TabB base mg c Pt → ∀ (A : Around) (outer : List Env) (s0 : Shared) (H0 : Hp) (E0' : XK), Room lvl (cxOf CX0 l.prog w K mg base N "law" (defScope st) f (.ref c) A outer s0 H0 E0').A → ∃ t, PSs (cxOf CX0 l.prog w K mg base N "law" (defScope st) f (.ref c) A outer s0 H0 E0') (defBody st) t ∧ ∀ (D : Ends) (vs : List V) (Q : VK), D.rt = Q → spLamN K [(Pt, q)] vs H0 Q C8.E0 → t D (start N vs) H0) :
    LawAtS l w K CX0 (lvl + 1) 63 "script" mg fa h := by
  obtain ⟨oc, od, osl, kV, doc, pm, an, cdv, ct, lk, hcd, _⟩ := F
  obtain ⟨c, rfl⟩ := He.codeIn_ref hcd
  have ec : He.codeOf K ("law", none) = c := He.codeOf_eq (p := ("law", none)) lk rfl
  have ef := hfa.symm.trans (He.glo_ok X G b)
  injection ef with ef
  injection ef with ef
  obtain ⟨t1, t2, t3⟩ := T
  have e1 : (He.cT K ("law", none)).1 = c := ec
  rw [e1] at t1
  generalize (He.cT K ("law", none)).2 = Pt at t1 t2 t3
  subst ef
  refine ⟨PySem.W.fnOf "law" "law" (defArgs st) (defBody st) (defScope st) .none kV doc pm an (.ref c) ct, [(c, Pt)], spLamN K [(Pt, q)], fun p hp => ?_, fun p hp => ?_, fun p hp => ?_, hb kV doc pm an (.ref c) ct, fun H a ns _ _ hH hS => ⟨a, ns, rfl, hS, fun p hp => ?_, fun _ => rfl⟩, fun base _ _ hB => ?_⟩
  · rw [List.mem_singleton.mp hp]; exact t3
  · rw [List.mem_singleton.mp hp]; exact t2
  · rw [List.mem_singleton.mp hp]; exact PySem.W.codeHd_of_K X t1
  · rw [List.mem_singleton.mp hp]; exact TabS.nil (hH _ List.mem_cons_self)
  · refine fn_of lk hcd S (fun vs H Q E h => ?_) fun A outer s H vs Q E hr h => ?_
    · obtain ⟨l, ns, rfl, _⟩ := h
      rfl
    · obtain ⟨t, ht, qt⟩ := hall base _ _ _ (hB _ List.mem_cons_self) A outer s H E hr
      exact ⟨t, ht, qt _ vs Q rfl h⟩
end
end Lt

set_option Elab.async false
set_option linter.all false
set_option maxRecDepth 100000
set_option maxHeartbeats 1000000
/-! locktexts.py: a line's words -/
namespace Lt
open PySem PySem.Spec PyProof.Rows L2
def wF (num : Nat) (wl : Addr) (i : Nat) : List (Str × V) := [("number", nI num), ("words", .ref wl), ("at", nI i)]
theorem wF_number (num : Nat) (wl : Addr) (i : Nat) : (wF num wl i).lookup ("number" : Str) = some (nI num) := rfl
theorem wF_words (num : Nat) (wl : Addr) (i : Nat) : (wF num wl i).lookup ("words" : Str) = some (.ref wl) := rfl
theorem wF_at (num : Nat) (wl : Addr) (i : Nat) : (wF num wl i).lookup ("at" : Str) = some (nI i) := rfl
theorem wF_put (num : Nat) (wl : Addr) (i j : Nat) : putF "at" (nI j) (wF num wl i) = wF num wl j := by
  show (if ("number" : Str) = "at" then _ else (("number" : Str), nI num) :: (if ("words" : Str) = "at" then _ else (("words" : Str), V.ref wl) :: (if ("at" : Str) = "at" then [("at", nI j)] else _))) = _
  rw [if_neg (by decide +kernel), if_neg (by decide +kernel), if_pos rfl]
  rfl
theorem wF_make (num : Nat) (wl : Addr) : putF "at" (nI 0) (putF "words" (.ref wl) (putF "number" (nI num) [])) = wF num wl 0 := by
  show putF "at" (nI 0) (if ("number" : Str) = "words" then _ else (("number" : Str), nI num) :: [("words", .ref wl)]) = _
  rw [if_neg (by decide +kernel)]
  show (if ("number" : Str) = "at" then _ else (("number" : Str), nI num) :: (if ("words" : Str) = "at" then _ else (("words" : Str), V.ref wl) :: [("at", nI 0)])) = _
  rw [if_neg (by decide +kernel), if_neg (by decide +kernel)]
  rfl
/-- a line of words at p, i of them taken -/
structure WlAt (H : Hp) (C p dx wl : Addr) (num : Nat) (ws : List Str) (i : Nat) : Prop where
  ins : H p = some (.ins C dx (wF num wl i))
  lst : H wl = some (.lst (ws.map V.str))
theorem WlAt.same {H H' : Hp} {C p dx wl : Addr} {num : Nat} {ws : List Str} {i : Nat} (h : WlAt H C p dx wl num ws i) (s : Same H H') : WlAt H' C p dx wl num ws i := ⟨s _ _ h.ins, s _ _ h.lst⟩
theorem WlAt.tm {H H' : Hp} {C p dx wl : Addr} {num : Nat} {ws : List Str} {i : Nat} (h : WlAt H C p dx wl num ws i) (s : StepR p H H') : Tm H H' :=
  ⟨fun c xs e => s c _ (ne_of e h.ins (fun z => nomatch z)) e, fun c o xs e => s c _ (ne_of e h.ins (fun z => nomatch z)) e⟩
/-- .. another line's -/
theorem WlAt.other {H H' : Hp} {C p q dx wl dx2 wl2 : Addr} {num num' : Nat} {ws ws' : List Str} {i j : Nat} (h : WlAt H C p dx wl num ws i) (g : WlAt H C q dx2 wl2 num' ws' j) (n : p ≠ q) (s : StepR q H H') : WlAt H' C p dx wl num ws i :=
  ⟨s _ _ n h.ins, s _ _ (ne_of h.lst g.ins (fun z => nomatch z)) h.lst⟩
theorem WlAt.put {H : Hp} {C p dx wl : Addr} {num : Nat} {ws : List Str} {i j : Nat} (h : WlAt H C p dx wl num ws i) : WlAt (upd H p (.ins C dx (wF num wl j))) C p dx wl num ws j :=
  ⟨upd_same, (upd_ne (ne_of h.lst h.ins (fun z => nomatch z))).trans h.lst⟩
/-- a list elsewhere has changed -/
theorem WlAt.far {H : Hp} {C p dx wl a : Addr} {num : Nat} {ws : List Str} {i : Nat} {xs : List V} {o : HO} (h : WlAt H C p dx wl num ws i) (ha : H a = some (.lst xs)) (n : wl ≠ a) : WlAt (upd H a o) C p dx wl num ws i :=
  ⟨(upd_ne (ne_of h.ins ha (fun z => nomatch z))).trans h.ins, (upd_ne n).trans h.lst⟩
theorem lst_step {H H' : Hp} {C p dx wl a : Addr} {num : Nat} {ws : List Str} {i : Nat} {xs : List V} (h : WlAt H C p dx wl num ws i) (s : StepR p H H') (e : H a = some (.lst xs)) : H' a = some (.lst xs) :=
  s _ _ (ne_of e h.ins (fun z => nomatch z)) e
/-- an error behind which p alone may have changed -/
def BadP (p C : Addr) (num place : Nat) (H : Hp) (E : XK) : Prop := ∀ d H', StepR p H H' → H' d = some (.xd [("place", nI place), ("line", nI num)]) → E (.ref C) (some d) H'
theorem BadP.step {p C : Addr} {num place : Nat} {H H1 : Hp} {E : XK} (h : BadP p C num place H E) (s : StepR p H H1) : BadP p C num place H1 E := fun d H' s' => h d H' (s.trans s')
theorem BadP.f2 {p C : Addr} {num place : Nat} {H : Hp} {E : XK} (h : BadP p C num place H E) : BadF2 C "line" (nI num) "place" (nI place) H E := fun d H' s => h d H' (.of s)
/-! ### what is read -/
def tk1 (ws : List Str) (i : Nat) (wanted : List Str) : Option Nat := match ws[i]? with
  | none => none
  | some x => if x ∈ wanted then some (wanted.idxOf x) else none
theorem tk1_lt {ws : List Str} {i j : Nat} {wanted : List Str} (h : tk1 ws i wanted = some j) : ∃ x, ws[i]? = some x ∧ x ∈ wanted ∧ j = wanted.idxOf x ∧ i < ws.length := by
  unfold tk1 at h
  split at h
  · cases h
  · rename_i x e
    split at h
    · rename_i hm
      exact ⟨x, e, hm, (Option.some.inj h).symm, (List.getElem?_eq_some_iff.mp e).1⟩
    · cases h
def sN (i : Nat) : Str := Str.ofString (toString ((i : Nat) : Int))
def figs (n : Nat) : List Str := (List.range n).map sN
theorem figs_len (n : Nat) : (figs n).length = n := by unfold figs; rw [List.length_map, List.length_range]
/-- the places of a turn from the i-th word on: k are left -/
def tkP (ws fs : List Str) : Nat → Nat → List Nat → Except Nat (List Nat)
  | _, 0, acc => .ok acc
  | i, k + 1, acc => match tk1 ws i fs with
    | none => .error (i + 1)
    | some q => if q ∈ acc then .error (i + 1) else tkP ws fs (i + 1) k (acc ++ [q])
structure WlT (K : PySem.W.Frag) (mg : Str → Option Value) (C : Addr) : Prop where
  cl : Cls K C
  nN : NoAttr K C "number"
  nW : NoAttr K C "words"
  nA : NoAttr K C "at"
  init : InitF K mg C "WordLine" m_WordLine_init ["self", "number", "words"]
  take : MethF K C "take" "WordLine.take" m_WordLine_take ["self", "wanted"]
  places : MethF K C "take_places" "WordLine.take_places" m_WordLine_take_places ["self", "size"]
  end_ : MethF K C "end" "WordLine.end" m_WordLine_end ["self"]
section
variable {P : Program} {w : World} {K : PySem.W.Frag} {mg : Str → Option Value} {base : Heap} {C CB : Addr}
def spWInit (C : Addr) : Sp := fun vs H Q _ => ∃ (p dx wl : Addr) (num : Nat) (ws : List Str), vs = [.ref p, nI num, .ref wl] ∧ H p = some (.ins C dx []) ∧ H wl = some (.lst (ws.map V.str)) ∧ ∀ H', StepR p H H' → H' p = some (.ins C dx (wF num wl 0)) → Q .non H'
theorem sc_WInit : FnScope ["self", "number", "words"] ["self", "number", "words"] (defScope m_WordLine_init) := ⟨rfl, rfl, rfl, by decide +kernel, rfl, by decide +kernel, by decide +kernel⟩
theorem has_WInit (T : WlT K mg C) : HasI P w K mg base (L2.CX P w) 1 C "WordLine" ["self", "number", "words"] (spWInit C) := by
  refine T.init.okX sc_WInit (fun vs H Q E h => ?_) (fun f cdv A outer s H vs Q E hr h => ?_)
  · obtain ⟨p, dx, wl, num, ws, rfl, _⟩ := h
    rfl
  · obtain ⟨p, dx, wl, num, ws, rfl, hp, hw, q⟩ := h
    refine ⟨_, pss_cons (ps_fld (pv 0) (pv 1) rfl) (pss_cons (ps_fld (pv 0) (pv 2) rfl) (pss_one (ps_fld (pv 0) pe_int rfl))), ?_⟩
    refine ⟨_, rfl, _, rfl, p, C, dx, [], rfl, hp, T.cl, T.nN, by show 0 < 1000; decide, ?_⟩
    refine ⟨_, rfl, _, rfl, p, C, dx, _, rfl, upd_same, T.cl, T.nW, by show 1 < 1000; decide, ?_⟩
    refine ⟨_, rfl, p, C, dx, _, rfl, upd_same, T.cl, T.nA, ?_, ?_⟩
    · show (putF "words" (.ref wl) (putF "number" (nI num) [])).length < 1000
      have : (putF "words" (.ref wl) (putF "number" (nI num) [])) = [(("number" : Str), nI num), (("words" : Str), V.ref wl)] := by
        show (if ("number" : Str) = "words" then _ else (("number" : Str), nI num) :: [(("words" : Str), V.ref wl)]) = _
        rw [if_neg (by decide +kernel)]
      rw [this]
      show 2 < 1000
      decide
    · refine q _ (((StepR.put _ _ _).trans (StepR.put _ _ _)).trans (StepR.put _ _ _)) ?_
      rw [upd_same]
      exact congrArg (fun z => some (HO.ins C dx z)) (wF_make num wl)
def spTake (C CB : Addr) : Sp := fun vs H Q E => ∃ (p dx wl wa : Addr) (num i : Nat) (ws wanted : List Str), vs = [.ref p, .ref wa] ∧ WlAt H C p dx wl num ws i ∧ H wa = some (.lst (wanted.map V.str)) ∧ i ≤ ws.length ∧
  (tk1 ws i wanted = none → BadP p CB num (i + 1) H E) ∧ ∀ j, tk1 ws i wanted = some j → ∀ H', StepR p H H' → WlAt H' C p dx wl num ws (i + 1) → Q (nI j) H'
theorem sc_WTake : FnScope ["self", "wanted"] ["self", "wanted"] (defScope m_WordLine_take) := ⟨rfl, rfl, rfl, by decide +kernel, rfl, by decide +kernel, by decide +kernel⟩
theorem has_WTake (T : WlT K mg C) (B : Bi mg) (X1 : ErrI2 P w K mg base "BadLine" "line" "place" CB) : HasM P w K mg base (L2.CX P w) 3 C "take" ["self", "wanted"] (spTake C CB) := by
  refine T.take.okX sc_WTake (fun vs H Q E h => ?_) (fun f cdv A outer s H vs Q E hr h => ?_)
  · obtain ⟨p, dx, wl, wa, num, i, ws, wanted, rfl, _⟩ := h
    rfl
  · obtain ⟨p, dx, wl, wa, num, i, ws, wanted, rfl, W0, hwa, hi, qb, qg⟩ := h
    obtain ⟨hp, hw⟩ := id W0
    refine ⟨_, pss_cons (ps_if (PW.pt (pw_or (pt_cmpR op_eq (pe_fld (pv 0) rfl) (pe_callB call_len_seq (by rfl) B.len PySem.boot_len (pa_cons (pe_fld (pv 0) rfl) pa_nil)) (nomark _)) (pw_or1 (pt_cmpR op_notIn_seq (pe_ix ix_list (pe_fld (pv 0) rfl) (pe_fld (pv 0) rfl) (fun _ _ => rfl)) (pv 1) (by rfl)))))
        (pss_one (ps_raise rfl (takes_of rfl rfl rfl rfl) (pmk_errI2 X1 hr (by rfl) (pa_cons (pe_fld (pv 0) rfl) (pa_cons (pe_op op_add (pe_fld (pv 0) rfl) pe_int) pa_nil))))) pss_nil)
      (pss_cons (ps_fldaug (pv 0) pe_int in_add)
      (pss_one (ps_ret (pe_bm PySem.F.plainAttrs_list PySem.F.slot_list_index PySem.F.type_list_index mt_index (pv 1) (pa_cons (pe_ix ix_list (pe_fld (pv 0) rfl) (pe_op op_sub (pe_fld (pv 0) rfl) pe_int) (fun _ _ => rfl)) pa_nil))))), ?_⟩
    have ev : V.int ((i : Int) + 1) = nI (i + 1) := congrArg V.int (by omega)
    refine ⟨_, rfl, p, C, dx, _, _, rfl, hp, T.cl, T.nA, wF_at num wl i, _, rfl, p, C, dx, _, _, rfl, hp, T.cl, T.nW, wF_words num wl i, wl, _, rfl, .inl (SqL.of hw), rfl, decide (i = ws.length), ?_, ?_⟩
    · rw [List.length_map]
      exact congrArg V.bl (decide_eq_decide.mpr ⟨fun h => by injection h with h; omega, fun h => by rw [h]; rfl⟩)
    have bad : tk1 ws i wanted = none → tMkO CB (spInit2 K "line" "place") [] (tCons (tFld K (tVar 0) "number") (tCons (tOp (rI0 fun i j => .int (i + j)) (tFld K (tVar 0) "at") (tC (.int 1))) tNil)) (start ["self", "wanted"] [V.ref p, V.ref wa]) H E := fun h => by
      refine ⟨_, rfl, p, C, dx, _, _, rfl, hp, T.cl, T.nN, wF_number num wl i, _, rfl, p, C, dx, _, _, rfl, hp, T.cl, T.nA, wF_at num wl i, (i : Int), 1, rfl, rfl, ?_⟩
      dsimp only [tNil]
      rw [ev]
      exact mk_read2 (v1 := nI num) (v2 := nI (i + 1)) X1.oex X1.no1 X1.no2 (qb h).f2
    by_cases hie : i = ws.length
    · rw [decide_eq_true hie]
      refine iteT (iteT (bad ?_))
      unfold tk1
      rw [List.getElem?_eq_none (by omega)]
    · rw [decide_eq_false hie]
      have hil : i < ws.length := by omega
      have hwi : (ws.map V.str)[i]? = some (.str ws[i]) := by rw [List.getElem?_map, List.getElem?_eq_getElem hil]; rfl
      refine iteF ⟨_, rfl, p, C, dx, _, _, rfl, hp, T.cl, T.nW, wF_words num wl i, _, rfl, p, C, dx, _, _, rfl, hp, T.cl, T.nA, wF_at num wl i, wl, _, (i : Int), .str ws[i], rfl, rfl, SqL.of hw, atI_nat hwi, _, rfl, wa, _, rfl, .inl (SqL.of hwa), rfl, flat_strs wanted, !decide (ws[i] ∈ wanted), ?_, ?_⟩
      · rw [inV_strs]
        rfl
      by_cases hm : ws[i] ∈ wanted
      · rw [decide_eq_true hm]
        have htk : tk1 ws i wanted = some (wanted.idxOf ws[i]) := by
          unfold tk1
          rw [List.getElem?_eq_getElem hil]
          exact if_pos hm
        refine iteF ⟨_, rfl, p, C, dx, _, _, rfl, hp, T.cl, T.nA, wF_at num wl i, (i : Int), 1, rfl, rfl, dx, _, hp, by show 3 < 1000; decide, ?_⟩
        rw [ev, wF_put]
        have W := W0.put (j := i + 1)
        have st : StepR p H (upd H p (.ins C dx (wF num wl (i + 1)))) := StepR.put _ _ _
        have hp2 : (upd H p (.ins C dx (wF num wl (i + 1)))) p = some (.ins C dx (wF num wl (i + 1))) := upd_same
        have hw2 := st _ _ (ne_of hw hp (fun z => nomatch z)) hw
        have hwa2 := st _ _ (ne_of hwa hp (fun z => nomatch z)) hwa
        generalize upd H p (.ins C dx (wF num wl (i + 1))) = H2 at *
        have hj : wanted.idxOf ws[i] < wanted.length := List.idxOf_lt_length_of_mem hm
        refine ⟨_, rfl, .inl ⟨rfl, _, SqL.of hwa2⟩, _, rfl, p, C, dx, _, _, rfl, hp2, T.cl, T.nW, wF_words num wl (i + 1), _, rfl, p, C, dx, _, _, rfl, hp2, T.cl, T.nA, wF_at num wl (i + 1), ((i + 1 : Nat) : Int), 1, rfl, rfl, wl, _, _, .str ws[i], rfl, rfl, SqL.of hw2, ?_, ?_⟩
        · rw [show ((i + 1 : Nat) : Int) - 1 = (i : Int) by omega]
          exact atI_nat hwi
        · refine ⟨wa, _, .str ws[i], wanted.idxOf ws[i], .str ws[i], rfl, rfl, SqL.of hwa2, rfl, flat_strs wanted, ?_, ?_, fun m z' hm' hz => ?_, qg _ htk _ st W⟩
          · rw [List.getElem?_map, List.getElem?_eq_getElem hj, List.getElem_idxOf hj]
            rfl
          · show (ws[i] == ws[i]) = true
            exact beq_self_eq_true _
          · rw [List.getElem?_map] at hz
            obtain ⟨y, hy, rfl⟩ := Option.map_eq_some_iff.mp hz
            show (y == ws[i]) = false
            refine beq_eq_false_iff_ne.mpr fun e => ?_
            obtain ⟨hml, hy⟩ := List.getElem?_eq_some_iff.mp hy
            have z := List.not_of_lt_findIdx (p := (· == ws[i])) hm'
            rw [hy, e, beq_self_eq_true] at z
            cases z
      · rw [decide_eq_false hm]
        refine iteT (bad ?_)
        unfold tk1
        rw [List.getElem?_eq_getElem hil]
        exact if_neg hm
end
end Lt

set_option Elab.async false
set_option linter.all false
set_option maxRecDepth 100000
set_option maxHeartbeats 1000000
/-! locktexts.py: the places of a turn, the end of a line -/
namespace Lt
open PySem PySem.Spec PyProof.Rows L2
abbrev rStrI : List V → Hp → VK → Prop := fun xs H Q => ∃ i : Int, xs = [.int i] ∧ i.natAbs.log2 < 1920 ∧ Q (.str (toString i)) H
theorem inV_nats (q : Nat) (acc : List Nat) : inV (nI q) (nIs acc) = decide (q ∈ acc) := by
  unfold inV nIs
  rw [List.any_map]
  induction acc with
  | nil => rfl
  | cons a acc ih =>
    rw [List.any_cons, ih]
    show (((a : Int) == (q : Int)) || _) = _
    by_cases h : a = q
    · subst h
      rw [beq_self_eq_true, Bool.true_or, decide_eq_true (List.mem_cons_self ..)]
    · rw [show ((a : Int) == (q : Int)) = false from beq_eq_false_iff_ne.mpr (fun e => h (Int.ofNat.inj e)), Bool.false_or]
      exact decide_eq_decide.mpr ⟨fun m => List.mem_cons_of_mem _ m, fun m => by
        rcases List.mem_cons.mp m with e | m
        · exact absurd e.symm h
        · exact m⟩
theorem tkP_step {ws fs : List Str} {i k : Nat} {acc : List Nat} {q : Nat} (h : tk1 ws i fs = some q) (hn : q ∉ acc) : tkP ws fs i (k + 1) acc = tkP ws fs (i + 1) k (acc ++ [q]) := by
  show (match tk1 ws i fs with | none => (Except.error (i + 1) : Except Nat (List Nat)) | some q => if q ∈ acc then .error (i + 1) else tkP ws fs (i + 1) k (acc ++ [q])) = _
  rw [h]
  exact if_neg hn
theorem tkP_twice {ws fs : List Str} {i k : Nat} {acc : List Nat} {q : Nat} (h : tk1 ws i fs = some q) (hn : q ∈ acc) : tkP ws fs i (k + 1) acc = .error (i + 1) := by
  show (match tk1 ws i fs with | none => (Except.error (i + 1) : Except Nat (List Nat)) | some q => if q ∈ acc then .error (i + 1) else tkP ws fs (i + 1) k (acc ++ [q])) = _
  rw [h]
  exact if_pos hn
theorem tkP_none {ws fs : List Str} {i k : Nat} {acc : List Nat} (h : tk1 ws i fs = none) : tkP ws fs i (k + 1) acc = .error (i + 1) := by
  show (match tk1 ws i fs with | none => (Except.error (i + 1) : Except Nat (List Nat)) | some q => if q ∈ acc then .error (i + 1) else tkP ws fs (i + 1) k (acc ++ [q])) = _
  rw [h]
section
variable {P : Program} {w : World} {K : PySem.W.Frag} {mg : Str → Option Value} {base : Heap} {C CB : Addr}
def spPlaces (C CB : Addr) : Sp := fun vs H Q E => ∃ (p dx wl : Addr) (num i n : Nat) (ws : List Str), vs = [.ref p, nI n] ∧ WlAt H C p dx wl num ws i ∧ i ≤ ws.length ∧ n ≤ 9 ∧
  (∀ e, tkP ws (figs n) i n [] = .error e → BadP p CB num e H E) ∧ ∀ t, tkP ws (figs n) i n [] = .ok t → ∀ r H', StepR p H H' → WlAt H' C p dx wl num ws (i + n) → i + n ≤ ws.length → TK H' r t → Q r H'
theorem sc_WPlaces : FnScope ["self", "size", "place", "figures", "places", "_"] ["self", "size"] (defScope m_WordLine_take_places) := ⟨rfl, rfl, rfl, by decide +kernel, rfl, by decide +kernel, by decide +kernel⟩
theorem has_WPlaces (T : WlT K mg C) (B : Bi mg) (X1 : ErrI2 P w K mg base "BadLine" "line" "place" CB) (hT : HasM P w K mg base (L2.CX P w) 3 C "take" ["self", "wanted"] (spTake C CB)) : HasM P w K mg base (L2.CX P w) 4 C "take_places" ["self", "size"] (spPlaces C CB) := by
  refine T.places.okX sc_WPlaces (fun vs H Q E h => ?_) (fun f cdv A outer s H vs Q E hr h => ?_)
  · obtain ⟨p, dx, wl, num, i, n, ws, rfl, _⟩ := h
    rfl
  · obtain ⟨p, dx, wl, num, i, n, ws, rfl, W, hi, hn, qb, qg⟩ := h
    obtain ⟨hins0, hwl0⟩ := id W
    have hr2 : Room 2 _ := hr.mono (by decide)
    refine ⟨_, pss_cons (ps_setLc (i := 3) (own := [("place", 2)]) (g := gName 2) (te := tCB rStrI (tCons (tVar 2) tNil)) (by rfl) sc_WPlaces.nd rfl rfl (sw_true rfl rfl rfl (by decide +kernel)) (pi_range1 (by rfl) B.range (pa_cons (pv 1) pa_nil)) (blkOk_by (own := [("place", 2)]) (N := ["self", "size", "place", "figures", "places", "_"]) (sc := defScope m_WordLine_take_places) (by decide +kernel))
          (fun _ _ _ _ _ => pg_name (i := 2) sc_WPlaces.nd rfl (Or.inl rfl)) (fun _ _ _ _ _ => pts_nil) (fun _ _ _ _ _ => pe_callTy call_str_int (by rfl) B.str PyProof.Rows.boot_str (pa_cons (pv 2) pa_nil)))
      (pss_cons (ps_set (i := 4) sc_WPlaces.nd rfl (Or.inl rfl) (pe_lst pa_nil))
      (pss_cons (ps_for (passes_of rfl) rfl (pi_range1 (by rfl) B.range (pa_cons (pv 1) pa_nil)) (pg_name (i := 5) sc_WPlaces.nd rfl (Or.inl rfl))
        (pss_cons (ps_set (i := 2) sc_WPlaces.nd rfl (Or.inl rfl) (pe_hasM (E := E) hT T.cl hr (passes_call (takes_of rfl rfl rfl rfl) (fun _ _ _ _ h => h)) (pv 0) (pa_cons (pv 3) pa_nil)))
        (pss_cons (ps_if (pt_cmpR op_in_seq (pv 2) (pv 4) (by rfl)) (pss_one (ps_raise rfl (takes_of rfl rfl rfl rfl) (pmk_errI2 X1 hr2 (by rfl) (pa_cons (pe_fld (pv 0) rfl) (pa_cons (pe_fld (pv 0) rfl) pa_nil))))) pss_nil)
        (pss_one (ps_expr (pe_bm PySem.F.plainAttrs_list PySem.F.slot_list_append PySem.F.type_list_append mt_append (pv 4) (pa_cons (pv 2) pa_nil)))))))
      (pss_one (ps_ret (pe_tupleOf (by rfl) B.tuple (pv 4)))))), ?_⟩
    refine ⟨_, rfl, (n : Int), rfl, by omega, by omega, fun fl hfl => lc_rangeM (n := (n : Int).toNat) RStr (figs n) (fun _ _ _ _ _ r => r) (by omega) (by rw [figs_len, Int.toNat_natCast]) hfl (fun x => rfl) (fun j z hj hz H' sm Q' q' => ?_) (fun H2 zs s2 hz pr => ?_)⟩
    · have ez : z = sN j := by
        unfold figs at hz
        rw [List.getElem?_map, List.getElem?_range (by omega)] at hz
        exact (Option.some.inj hz).symm
      refine ⟨_, rfl, ((j : Nat) : Int), ?_, log_small (by omega), q' _ H' (Same.refl _) (by rw [ez]; rfl)⟩
      show [V.int ((0 : Int) + (j : Nat))] = _
      rw [Int.zero_add]
    rw [RStr.all pr] at hz
    refine ⟨Nat.zero_le _, fun al hal => ?_⟩
    have s3 := same_new (o := .lst []) hal
    have s23 := s2.trans s3
    have hal0 : H al = none := s2.free hal
    have hfl3 := s3 _ _ hz
    have kal : (upd H2 al (.lst [])) al = some (.lst []) := upd_same
    have naf : al ≠ fl := (ne_of_none hz hal).symm
    have W3 := W.same s23
    generalize upd H2 al (.lst []) = H3 at *
    refine ⟨_, rfl, (n : Int), rfl, by omega, by omega, for_range (lo := 0) (n := (n : Int).toNat) (fun j σ H' => ∃ y2 y5 acc, σ = [some (.ref p), some (nI n), y2, some (.ref fl), some (.ref al), y5] ∧ StepR p H H' ∧ WlAt H' C p dx wl num ws (i + j) ∧ i + j ≤ ws.length ∧ H' fl = some (.lst ((figs n).map V.str)) ∧ H' al = some (.lst (nIs acc)) ∧ acc.length = j ∧ tkP ws (figs n) i n [] = tkP ws (figs n) (i + j) (n - j) acc)
      ⟨none, none, [], rfl, .of s23, W3, hi, hfl3, kal, rfl, rfl⟩ ?_ ?_⟩
    · rintro j σ H' hj ⟨y2, y5, acc, rfl, st, W', hij, hfl', hal', hacc, htk⟩
      have hjn : j < n := by omega
      obtain ⟨k, hk⟩ : ∃ k, n - j = k + 1 := ⟨n - j - 1, by omega⟩
      rw [hk] at htk
      obtain ⟨hins, hwl⟩ := id W'
      refine ⟨_, rfl, p, dx, _, rfl, hins, rfl, _, rfl, p, dx, wl, fl, num, i + j, ws, figs n, rfl, W', hfl', hij, fun hno => ?_, fun q hq H4 st4 W4 => ?_⟩
      · exact (qb _ (htk.trans (tkP_none hno))).step st
      · have hfl4 := lst_step W' st4 hfl'
        have hal4 := lst_step W' st4 hal'
        obtain ⟨x, _, _, _, hlt⟩ := tk1_lt hq
        obtain ⟨hins4, hwl⟩ := id W4
        refine ⟨_, rfl, _, rfl, al, _, rfl, .inl (SqL.of hal4), rfl, ?_, decide (q ∈ acc), ?_, ?_⟩
        · rw [nIs_int, List.all_map]
          exact List.all_eq_true.mpr fun _ _ => rfl
        · show V.bl (inV (nI q) (nIs acc)) = _
          rw [inV_nats]
        by_cases hm : q ∈ acc
        · rw [decide_eq_true hm]
          refine iteT ⟨_, rfl, p, C, dx, _, _, rfl, hins4, T.cl, T.nN, wF_number num wl _, _, rfl, p, C, dx, _, _, rfl, hins4, T.cl, T.nA, wF_at num wl _, ?_⟩
          exact mk_read2 (v1 := nI num) (v2 := nI (i + j + 1)) X1.oex X1.no1 X1.no2 ((qb _ (htk.trans (tkP_twice hq hm))).step (st.trans st4)).f2
        · rw [decide_eq_false hm]
          refine iteF ⟨_, rfl, .inl ⟨rfl, _, SqL.of hal4⟩, _, rfl, al, _, _, rfl, rfl, hal4, by rw [nIs_len, sizeLine_eq]; omega, ?_⟩
          have e2 : nIs acc ++ [nI q] = nIs (acc ++ [q]) := by unfold nIs; rw [List.map_append]; rfl
          rw [e2]
          have hpl : p ≠ al := ne_of hins4 hal4 (fun z => nomatch z)
          refine ⟨_, _, acc ++ [q], rfl, (st.trans st4).mut hal0, W4.far hal4 (ne_of_none hwl0 hal0), by omega, (upd_ne naf.symm).trans hfl4, upd_same, by rw [List.length_append, hacc]; rfl, ?_⟩
          · rw [htk, tkP_step hq hm, Nat.add_assoc]
            congr 1
            omega
    · rintro σ H' ⟨y2, y5, acc, rfl, st, W', hij, hfl', hal', hacc, htk⟩
      rw [Int.toNat_natCast] at W' hij htk
      rw [Nat.sub_self] at htk
      refine ⟨_, rfl, .inl ⟨al, _, rfl, SqL.of hal', fun r hr' => ?_⟩⟩
      have s5 := same_new (o := .tup (nIs acc)) hr'
      exact qg acc htk _ _ (st.trans (.of s5)) (W'.same s5) hij ⟨r, rfl, upd_same⟩
def spEnd (C CB : Addr) : Sp := fun vs H Q E => ∃ (p dx wl : Addr) (num i : Nat) (ws : List Str), vs = [.ref p] ∧ WlAt H C p dx wl num ws i ∧ (i < ws.length → BadP p CB num (i + 1) H E) ∧ (¬ i < ws.length → Q .non H)
theorem sc_WEnd : FnScope ["self"] ["self"] (defScope m_WordLine_end) := ⟨rfl, rfl, rfl, by decide +kernel, rfl, by decide +kernel, by decide +kernel⟩
theorem has_WEnd (T : WlT K mg C) (B : Bi mg) (X1 : ErrI2 P w K mg base "BadLine" "line" "place" CB) : HasM P w K mg base (L2.CX P w) 3 C "end" ["self"] (spEnd C CB) := by
  refine T.end_.okX sc_WEnd (fun vs H Q E h => ?_) (fun f cdv A outer s H vs Q E hr h => ?_)
  · obtain ⟨p, dx, wl, num, i, ws, rfl, _⟩ := h
    rfl
  · obtain ⟨p, dx, wl, num, i, ws, rfl, W, qb, qg⟩ := h
    refine ⟨_, pss_one (ps_if (pt_cmpR op_lt (pe_fld (pv 0) rfl) (pe_callB call_len_seq (by rfl) B.len PySem.boot_len (pa_cons (pe_fld (pv 0) rfl) pa_nil)) (nomark _)) (pss_one (ps_raise rfl (takes_of rfl rfl rfl rfl) (pmk_errI2 X1 hr (by rfl) (pa_cons (pe_fld (pv 0) rfl) (pa_cons (pe_op op_add (pe_fld (pv 0) rfl) pe_int) pa_nil))))) pss_nil), ?_⟩
    have ev : V.int ((i : Int) + 1) = nI (i + 1) := congrArg V.int (by omega)
    refine ⟨_, rfl, p, C, dx, _, _, rfl, W.ins, T.cl, T.nA, wF_at num wl i, _, rfl, p, C, dx, _, _, rfl, W.ins, T.cl, T.nW, wF_words num wl i, wl, _, rfl, .inl (SqL.of W.lst), (i : Int), ((ws.map V.str).length : Int), rfl, rfl, decide (i < ws.length), ?_, ?_⟩
    · rw [List.length_map]
      exact congrArg V.bl (decide_eq_decide.mpr Int.ofNat_lt)
    by_cases h : i < ws.length
    · rw [decide_eq_true h]
      refine iteT ⟨_, rfl, p, C, dx, _, _, rfl, W.ins, T.cl, T.nN, wF_number num wl i, _, rfl, p, C, dx, _, _, rfl, W.ins, T.cl, T.nA, wF_at num wl i, (i : Int), 1, rfl, rfl, ?_⟩
      dsimp only [tNil]
      rw [ev]
      exact mk_read2 (v1 := nI num) (v2 := nI (i + 1)) X1.oex X1.no1 X1.no2 (qb h).f2
    · rw [decide_eq_false h]
      exact iteF (qg h)
end
end Lt

set_option Elab.async false
set_option linter.all false
set_option maxRecDepth 100000
set_option maxHeartbeats 1000000
/-! a comprehension with a test, whose items may be objects that change later -/
namespace Lt
open PySem PySem.Spec PyProof.Rows L2
def Cg {β : Type} (H1 : Hp) (D : Addr) (R : Hp → V → β → Prop) (ys : List β) (i : Nat) (H : Hp) : Prop := Same H1 H ∧ ∃ zs, H D = some (.lst zs) ∧ Paired (R H) zs ys ∧ zs.length ≤ i
theorem lc_genG {J : It} {g : TG} {tt : L2.TT} {te : TE} {vs : List Nat} {σ : L2.St} {H1 : Hp} {D : Addr} {Qd : Hp → Prop} {β : Type} {n : Nat} (R : Hp → V → β → Prop) (p : Nat → Bool) (f : Nat → β) (ms : ∀ H H' v b, Same H H' → R H v b → R H' v b) (md : ∀ H v b ys o, H D = some (.lst ys) → R H v b → R (upd H D o) v b) (hz : n ≤ 100000) (hD : H1 D = none)
    (hgo : ∀ i H, i < n → Same H1 H → J.go i H) (hst : ∀ H, Same H1 H → J.stop n H)
    (hs : ∀ i H x H', i < n → Same H1 H → (∃ zs, H D = some (.lst zs)) → J.yld i H x H' → Same H H' ∧ ∃ σ2, (∀ Kk : L2.St → Hp → Prop, Kk σ2 H' → g x (wipe σ vs) H' Kk) ∧ wipe σ2 vs = wipe σ vs ∧ (∀ Q, (∀ H3, Same H' H3 → Q (p i) H3) → tt σ2 H' Q) ∧
      (p i = true → ∀ H3, Same H' H3 → ∀ Q : VK, (∀ v H4, Same H3 H4 → R H4 v (f i) → Q v H4) → te σ2 H3 Q))
    (hd : ∀ H zs, Same H1 H → H D = some (.lst zs) → Paired (R H) zs (((List.range n).filter p).map f) → Qd H) :
    ∃ W : Nat → Nat → Hp → Prop, (∃ m, W 0 m (upd H1 D (.lst []))) ∧ ∀ i m H, W i m H →
      (J.stop i H ∧ Qd H) ∨ (J.go i H ∧ ∃ Nx : Hp → Prop, (∀ H', Nx H' → ∃ m', m' < m ∧ W (i + 1) m' H') ∧ ∀ x H', J.yld i H x H' → g x (wipe σ vs) H' fun σ2 H2 => wipe σ2 vs = wipe σ vs ∧ tt σ2 H2 fun b H3 =>
        if b = true then te σ2 H3 fun y H4 => ∃ acc, H4 D = some (.lst acc) ∧ acc.length < sizeLine ∧ Nx (upd H4 D (.lst (acc ++ [y]))) else Nx H3) := by
  refine ⟨fun i m H => m = n - i ∧ i ≤ n ∧ Cg H1 D R (((List.range i).filter p).map f) i H, ⟨n, by simp, Nat.zero_le _, same_new hD, [], upd_same, .nil, Nat.le_refl _⟩, ?_⟩
  rintro i m H ⟨rfl, hi, c⟩
  obtain ⟨sm, zs, h1, pr, hl⟩ := c
  by_cases hlt : i < n
  · refine .inr ⟨hgo i H hlt sm, Cg H1 D R (((List.range (i + 1)).filter p).map f) (i + 1), fun H' p' => ⟨n - (i + 1), by omega, rfl, hlt, p'⟩, fun x H' y => ?_⟩
    obtain ⟨s', σ2, hg, hw, ht, he⟩ := hs i H x H' hlt sm ⟨zs, h1⟩ y
    refine hg _ ⟨hw, ht _ fun H3 s3 => ?_⟩
    have s13 := s'.trans s3
    cases hp : p i with
    | false =>
      rw [if_neg (by decide)]
      refine ⟨sm.trans s13, zs, s13 _ _ h1, ?_, by omega⟩
      rw [List.range_succ, List.filter_append]
      show Paired (R H3) zs ((List.filter p (List.range i) ++ List.filter p [i]).map f)
      rw [List.filter_cons_of_neg (by rw [hp]; decide), List.filter_nil, List.append_nil]
      exact paired_mono (fun a b r => ms _ _ _ _ s13 r) pr
    | true =>
      rw [if_pos rfl]
      refine he hp H3 s3 _ fun v H4 s4 r => ?_
      have s14 := s13.trans s4
      have h4 := s14 _ _ h1
      refine ⟨zs, h4, Nat.lt_of_le_of_lt hl (Nat.lt_of_lt_of_le (Nat.lt_of_lt_of_le hlt hz) (by decide)), same_mut (sm.trans s14) hD, zs ++ [v], upd_same, ?_, by rw [List.length_append]; show zs.length + 1 ≤ i + 1; omega⟩
      rw [List.range_succ, List.filter_append]
      show Paired _ _ ((List.filter p (List.range i) ++ List.filter p [i]).map f)
      rw [List.filter_cons_of_pos hp, List.filter_nil, List.map_append]
      exact Paired.app (paired_mono (fun a b q => md _ _ _ _ _ h4 (ms _ _ _ _ s14 q)) pr) (Paired.one (md _ _ _ _ _ h4 r))
  · have e : i = n := by omega
    subst e
    exact .inl ⟨hst H sm, hd H zs sm h1 pr⟩
end Lt

set_option Elab.async false
set_option linter.all false
set_option maxRecDepth 100000
set_option maxHeartbeats 2000000
/-! a comprehension whose items may raise -/
namespace LmX
open PySem PySem.Spec PyProof.Rows L2
section
variable {M : Model} {A : Around} {E : Value → Shared → Prop} {s : Shared} {Z : Obj → Prop} {base : Heap} {env : Env} {outer : List Env} {L e : Addr}
open HandSPX
end
section
variable {X : Cx} {E : XK}
end
end LmX

set_option Elab.async false
set_option linter.all false
set_option maxRecDepth 100000
set_option maxHeartbeats 1000000
/-! locktexts.py: lines and words -/
namespace Lt
open PySem PySem.Spec PyProof.Rows L2
abbrev sSp : Str := " "
abbrev sNl : Str := "\n"
abbrev mkS (l : List Nat) : Str := ⟨l.toArray⟩
/-- a text cut at a sign, in lists -/
def splS (x y : Str) : List Str := (TL.spl (TL.tl y) 0 [] (TL.tl x)).map mkS
theorem split_eq {x y : Str} (hy : TL.tl y ≠ []) (hk : y.cps.all (· < 256) = true) : Txt.split x y = splS x y := TL.map_tl_inj (by
  rw [TL.split_spl x y hy (TL.kind_ok hk)]
  unfold splS
  rw [List.map_map]
  exact (List.map_id _).symm)
theorem split_sp (x : Str) : Txt.split x sSp = splS x sSp := split_eq (by decide +kernel) (by decide +kernel)
theorem split_nl (x : Str) : Txt.split x sNl = splS x sNl := split_eq (by decide +kernel) (by decide +kernel)
theorem spl_len (S : List Nat) : ∀ (l : List Nat) (k : Nat) (acc : List Nat), (TL.spl S k acc l).length ≤ l.length + 1
  | [], k, acc => by rw [TL.spl_nil]; exact Nat.le_refl _
  | c :: r, 0, acc => by
    show (if TL.pre S (c :: r) = true then acc :: TL.spl S (S.length - 1) [] r else TL.spl S 0 (acc ++ [c]) r).length ≤ r.length + 1 + 1
    split
    · have := spl_len S r (S.length - 1) []
      rw [List.length_cons]
      omega
    · have := spl_len S r 0 (acc ++ [c])
      omega
  | c :: r, k + 1, acc => by
    show (TL.spl S k acc r).length ≤ r.length + 1 + 1
    have := spl_len S r k acc
    omega
theorem spl_mem (S : List Nat) : ∀ (l : List Nat) (k : Nat) (acc p : List Nat), p ∈ TL.spl S k acc l → p.length ≤ acc.length + l.length
  | [], k, acc, p, h => by
    rw [TL.spl_nil, List.mem_singleton] at h
    rw [h]
    exact Nat.le_refl _
  | c :: r, 0, acc, p, h => by
    have h : p ∈ (if TL.pre S (c :: r) = true then acc :: TL.spl S (S.length - 1) [] r else TL.spl S 0 (acc ++ [c]) r) := h
    split at h
    · rcases List.mem_cons.mp h with e | h
      · rw [e]
        omega
      · have := spl_mem S r _ _ _ h
        rw [List.length_nil] at this
        rw [List.length_cons]
        omega
    · have := spl_mem S r _ _ _ h
      rw [List.length_append] at this
      have e : [c].length = 1 := rfl
      rw [List.length_cons]
      omega
  | c :: r, k + 1, acc, p, h => by
    have := spl_mem S r k acc p h
    rw [List.length_cons]
    omega
theorem splS_len (x y : Str) : (splS x y).length ≤ x.length + 1 := by
  unfold splS
  rw [List.length_map, TL.len_tl]
  exact spl_len _ _ _ _
theorem splS_mem {x y z : Str} (h : z ∈ splS x y) : z.length ≤ x.length := by
  obtain ⟨p, hp, rfl⟩ := List.mem_map.mp h
  have := spl_mem _ _ _ _ _ hp
  rw [TL.len_tl x, TL.len_tl]
  rw [List.length_nil, Nat.zero_add] at this
  exact this
def wordsIn (x : Str) : List Str := (splS x sSp).filter fun w => (w.length : Int) != 0
def linesIn (x : Str) : List (List Str) := (splS x sNl).map wordsIn
theorem linesIn_len (x : Str) : (linesIn x).length ≤ x.length + 1 := by
  unfold linesIn
  rw [List.length_map]
  exact splS_len x sNl
/-- the lines with words, numbered -/
def numWs (L : List (List Str)) : List (Nat × List Str) := ((List.range L.length).filter fun i => !(L.getD i []).isEmpty).map fun i => (i + 1, L.getD i [])
theorem getDd_range {α : Type} (d : α) (l : List α) : (List.range l.length).map (fun i => l.getD i d) = l := by
  refine List.ext_getElem? fun i => ?_
  rw [List.getElem?_map]
  by_cases h : i < l.length
  · rw [List.getElem?_range h, List.getElem?_eq_getElem h]
    show some (l.getD i d) = _
    rw [List.getD_eq_getElem?_getD, List.getElem?_eq_getElem h]
    rfl
  · rw [List.getElem?_eq_none (by rw [List.length_range]; omega), List.getElem?_eq_none (by omega)]
    rfl
theorem filt_range {α : Type} (d : α) (q : α → Bool) (l : List α) : ((List.range l.length).filter fun i => q (l.getD i d)).map (fun i => l.getD i d) = l.filter q := by
  conv => rhs; rw [← getDd_range d l, List.filter_map]
  rfl
theorem getD_of {α : Type} {d : α} {l : List α} {i : Nat} (h : i < l.length) : l[i]? = some (l.getD i d) := by
  rw [List.getD_eq_getElem?_getD, List.getElem?_eq_getElem h]
  rfl
theorem sN_len : ∀ i, i < 10 → (sN i).length = 1 := by decide +kernel
def spT (t : List Nat) : Str := Txt.join sSp (t.map sN)
/-- is the i-th name's value true -/
def tTru (K : PySem.W.Frag) (i : Nat) : L2.TT := fun σ H Q => tVar i σ H fun x H' => ∃ k, TruV K x H' k ∧ Q k H'
/-- a list of words -/
def WdL (H0 : Hp) (D : Addr) (H : Hp) (v : V) (ws : List Str) : Prop := ∃ wl, v = .ref wl ∧ H wl = some (.lst (ws.map V.str)) ∧ H0 wl = none ∧ wl ≠ D
/-- a line of words that nothing was taken from -/
def LnD (C : Addr) (H0 : Hp) (D : Addr) (H : Hp) (v : V) (b : Nat × List Str) : Prop := ∃ p dx wl, v = .ref p ∧ WlAt H C p dx wl b.1 b.2 0 ∧ (H0 p = none ∧ H0 wl = none) ∧ wl ≠ D
def LnR (C : Addr) (H0 : Hp) (H : Hp) (v : V) (b : Nat × List Str) : Prop := ∃ p dx wl, v = .ref p ∧ WlAt H C p dx wl b.1 b.2 0 ∧ H0 p = none ∧ H0 wl = none
section
variable {P : Program} {w : World} {K : PySem.W.Frag} {mg : Str → Option Value} {base : Heap} {C CB CS : Addr}
def spCheckTx (CS : Addr) : Sp := fun vs H Q E => ∃ (v : V) (d : PyData), vs = [v] ∧ Rp H v d ∧ ((isStr d = true ∧ Q .non H) ∨ (isStr d = false ∧ Bad0 CS H E))
theorem sc_check_text : FnScope ["text"] ["text"] (defScope s_check_text) := ⟨rfl, rfl, rfl, by decide +kernel, rfl, by decide +kernel, by decide +kernel⟩
theorem has_check_text (T : Top K mg "check_text" s_check_text ["text"]) (B : Bi mg) (X0 : Err0 K mg "BadString" CS) : Has P w K mg base (L2.CX P w) 1 "check_text" ["text"] (spCheckTx CS) := by
  refine T.okX sc_check_text (fun vs H Q E h => ?_) (fun f cdv A outer s H vs Q E hr h => ?_)
  · obtain ⟨v, d, rfl, _⟩ := h
    rfl
  · obtain ⟨v, d, rfl, hd, cs⟩ := h
    refine ⟨_, pss_one (ps_if (pt_not (pt_val (pe_callB call_isi (by rfl) B.isinstance PyProof.Rows.boot_isinstance (pa_cons (pv 0) (pa_cons (pe_bltn (by rfl) B.str PyProof.Rows.boot_str (rr_ty "str")) pa_nil)))))
      (pss_one (ps_raise rfl (takes_of rfl rfl rfl rfl) (pmk_err0 X0 (by rfl)))) pss_nil), ?_⟩
    refine ⟨_, rfl, v, .ty "str", _, _, isStr d, rfl, .ty _, rp_ty hd, kit_ty (kit_str d), isStr d, rfl, ?_⟩
    rcases cs with ⟨hs, q⟩ | ⟨hs, bad⟩
    · rw [hs]
      exact iteF q
    · rw [hs]
      exact iteT (bad H (Same.refl _))
def spSpaced : Sp := fun vs H Q _ => ∃ (v : V) (t : List Nat), vs = [v] ∧ TN H v t ∧ t.length ≤ 100 ∧ (∀ x ∈ t, x < 10) ∧ ∀ H', Same H H' → Q (.str (spT t)) H'
theorem sc_spaced : FnScope ["parts", "part"] ["parts"] (defScope s_spaced) := ⟨rfl, rfl, rfl, by decide +kernel, rfl, by decide +kernel, by decide +kernel⟩
theorem sum_one : ∀ {t : List Nat}, (∀ x ∈ t, x < 10) → ((t.map sN).map (·.length)).sum = t.length
  | [], _ => rfl
  | a :: t, h => by
    rw [List.map_cons, List.map_cons, List.sum_cons, sum_one fun x hx => h x (List.mem_cons_of_mem _ hx), sN_len a (h a (List.mem_cons_self ..)), List.length_cons]
    omega
theorem has_spaced (T : Top K mg "spaced" s_spaced ["parts"]) (B : Bi mg) : Has P w K mg base CX0 1 "spaced" ["parts"] spSpaced := by
  refine T.ok sc_spaced (fun vs H Q E h => ?_) (fun f cdv A outer s H vs Q E hr h => ?_)
  · obtain ⟨v, t, rfl, _⟩ := h
    rfl
  · obtain ⟨v, t, rfl, ⟨a, rfl, ha⟩, hl, h10, q⟩ := h
    refine ⟨_, pss_one (ps_ret (pe_join pe_str (pe_lc (own := [("part", 1)]) (g := gName 1) (te := tCB rStrI (tCons (tVar 1) tNil)) (by rfl) sc_spaced.nd (pi_tup (pv 0)) (blkOk_by (own := [("part", 1)]) (N := ["parts", "part"]) (sc := defScope s_spaced) (by decide +kernel))
      (fun _ _ _ _ _ => pg_name (i := 1) sc_spaced.nd rfl (Or.inl rfl)) (fun _ _ _ _ _ => pts_nil) (fun _ _ _ _ _ => pe_callTy call_str_int (by rfl) B.str PyProof.Rows.boot_str (pa_cons (pv 1) pa_nil))))), ?_⟩
    refine ⟨⟨_, rfl⟩, _, rfl, a, rfl, ⟨_, ha.sq⟩, fun D hD => lc_tupM RStr (t.map sN) (fun _ _ _ _ _ r => r) ha.sq (fun H' sm => (ha.sm sm).sq) (by rw [nIs_len]; omega) (by rw [List.length_map, nIs_len]) hD (fun x => rfl) (fun i x b hx hb H' sm Q' q' => ?_) (fun H2 zs s2 hz pr => ?_)⟩
    · unfold nIs at hx
      rw [List.getElem?_map] at hx hb
      obtain ⟨j, hj, rfl⟩ := Option.map_eq_some_iff.mp hx
      rw [hj] at hb
      have eb : sN j = b := Option.some.inj hb
      have hj10 := h10 j (List.mem_of_getElem? hj)
      exact ⟨_, rfl, (j : Int), rfl, log_small (by omega), q' _ H' (Same.refl _) (congrArg V.str eb)⟩
    · rw [RStr.all pr] at hz
      refine ⟨sSp, D, t.map sN, rfl, rfl, .inl (SqL.of hz), ?_, q H2 s2⟩
      rw [sum_one h10, List.length_map]
      have : sSp.length = 1 := by decide +kernel
      rw [this]
      omega
def spWordsIn : Sp := fun vs H Q _ => ∃ x : Str, vs = [.str x] ∧ x.length ≤ 90000 ∧ ∀ D H', Same H H' → H D = none → H' D = some (.lst ((wordsIn x).map V.str)) → Q (.ref D) H'
theorem sc_words_in : FnScope ["line", "word"] ["line"] (defScope s_words_in) := ⟨rfl, rfl, rfl, by decide +kernel, rfl, by decide +kernel, by decide +kernel⟩
theorem has_words_in (T : Top K mg "words_in" s_words_in ["line"]) : Has P w K mg base CX0 1 "words_in" ["line"] spWordsIn := by
  refine T.ok sc_words_in (fun vs H Q E h => ?_) (fun f cdv A outer s H vs Q E hr h => ?_)
  · obtain ⟨x, rfl, _⟩ := h
    rfl
  · obtain ⟨x, rfl, hx, q⟩ := h
    refine ⟨_, pss_one (ps_ret (pe_lc (own := [("word", 1)]) (g := gName 1) (te := tVar 1) (tt := tTru K 1) (by rfl) sc_words_in.nd (pi_list (pe_split (pv 0) pe_str)) (blkOk_by (own := [("word", 1)]) (N := ["line", "word"]) (sc := defScope s_words_in) (by decide +kernel))
      (fun _ _ _ _ _ => pg_name (i := 1) sc_words_in.nd rfl (Or.inl rfl)) (fun _ _ _ _ _ => pts_one (pt_truth (by exact pv 1) (by intro _; rfl))) (fun _ _ _ _ _ => pv 1))), ?_⟩
    refine ⟨_, rfl, ⟨x, rfl⟩, x, sSp, rfl, rfl, by decide +kernel, by rw [sizeLine_eq]; omega, fun pa hpa => ?_⟩
    rw [split_sp]
    have s1 := same_new (o := .lst ((splS x sSp).map V.str)) hpa
    have k1 : (upd H pa (.lst ((splS x sSp).map V.str))) pa = some (.lst ((splS x sSp).map V.str)) := upd_same
    generalize upd H pa (.lst ((splS x sSp).map V.str)) = H1 at *
    have hn := splS_len x sSp
    refine ⟨pa, rfl, ⟨_, SqL.of k1⟩, fun D hD => lc_genF (J := Itl K pa) (n := (splS x sSp).length) RStr (fun i => (((splS x sSp).getD i "").length : Int) != 0) (fun i => (splS x sSp).getD i "") (fun _ _ _ _ _ r => r) (by omega) hD
      (fun i H2 hi s2 => ⟨_, .str ((splS x sSp).getD i ""), SqL.of (s2 _ _ k1), by rw [List.getElem?_map, getD_of hi]; rfl⟩) (fun H2 s2 => ⟨_, SqL.of (s2 _ _ k1), by rw [List.length_map]; exact Nat.le_refl _⟩) (fun i H2 x' H3 hi s2 y => ?_) (fun H2 zs s2 hz pr => ?_)⟩
    · obtain ⟨rfl, hx'⟩ := y
      have hx' := hx' _ (SqL.of (s2 _ _ k1))
      rw [List.getElem?_map, getD_of (d := ("" : Str)) hi] at hx'
      have hx' := (Option.some.inj hx').symm
      subst hx'
      have hm : ((splS x sSp).getD i "").length ≤ x.length := splS_mem (List.mem_of_getElem? (getD_of hi))
      exact ⟨Same.refl _, _, fun Kk q => q, rfl, fun Q q => ⟨_, rfl, _, ⟨by rw [sizeLine_eq]; omega, rfl⟩, q _ (Same.refl _)⟩, fun hp H3 s3 Q q => ⟨_, rfl, q _ H3 (Same.refl _) rfl⟩⟩
    · rw [filt_range ("" : Str) (fun w => (w.length : Int) != 0) (splS x sSp)] at pr
      rw [RStr.all pr] at hz
      exact q D H2 (s1.trans s2) (s1.free hD) hz
def spWorded (C CS : Addr) : Sp := fun vs H Q E => ∃ (v : V) (d : PyData), vs = [v] ∧ Rp H v d ∧ (isStr d = false → Bad0 CS H E) ∧ ∀ x, d = .str x → v = .str x ∧ x.length ≤ 80000 ∧ ∀ D H' zs, Same H H' → H D = none → H' D = some (.lst zs) → Paired (LnR C H H') zs (numWs (linesIn x)) → Q (.ref D) H'
abbrev wdN : List Str := ["text", "lines", "line", "place", "words"]
theorem sc_worded_lines : FnScope wdN ["text"] (defScope s_worded_lines) := ⟨rfl, rfl, rfl, by decide +kernel, rfl, by decide +kernel, by decide +kernel⟩
theorem has_worded_lines (T : Top K mg "worded_lines" s_worded_lines ["text"]) (B : Bi mg) (hC : Has P w K mg base (L2.CX P w) 1 "check_text" ["text"] (spCheckTx CS)) (hW : Has P w K mg base CX0 1 "words_in" ["line"] spWordsIn)
    (hI : HasI P w K mg base (L2.CX P w) 1 C "WordLine" ["self", "number", "words"] (spWInit C)) : Has P w K mg base (L2.CX P w) 3 "worded_lines" ["text"] (spWorded C CS) := by
  refine T.okX sc_worded_lines (fun vs H Q E h => ?_) (fun f cdv A outer s H vs Q E hr h => ?_)
  · obtain ⟨v, d, rfl, _⟩ := h
    rfl
  · obtain ⟨v, d, rfl, hd, bad, good⟩ := h
    have hr1 : Room 1 _ := hr.mono (by decide)
    refine ⟨_, pss_cons (ps_expr (pe_hasX (E := E) hC hr1 (by rfl) (passes_call (takes_of rfl rfl rfl rfl) (fun _ _ _ _ h => h)) (pa_cons (pv 0) pa_nil)))
      (pss_cons (ps_setLc (i := 1) (own := [("line", 2)]) (g := gName 2) (te := tCall spWordsIn [] E0 (tCons (tVar 2) tNil)) (by rfl) sc_worded_lines.nd rfl rfl (sw_true rfl rfl rfl (by decide +kernel)) (pi_list (pe_split (pv 0) pe_str)) (blkOk_by (own := [("line", 2)]) (N := wdN) (sc := defScope s_worded_lines) (by decide +kernel))
        (fun _ _ _ _ _ => pg_name (i := 2) sc_worded_lines.nd rfl (Or.inl rfl)) (fun _ _ _ _ _ => pts_nil) (fun _ _ _ _ _ => pe_has hW hr1 (by rfl) (pa_cons (pv 2) pa_nil)))
      (pss_one (ps_ret (pe_lc (own := [("place", 3), ("words", 4)]) (g := gTup K 2 (gCons (gName 3) (gCons (gName 4) gNil))) (te := tMake C (spWInit C) [] E0 (tCons (tOp (rI0 fun i j => .int (i + j)) (tVar 3) (tC (.int 1))) (tCons (tVar 4) tNil))) (tt := tTru K 4) (by rfl) sc_worded_lines.nd (pi_enum (by rfl) B.enumerate (pa_cons (pv 1) pa_nil)) (blkOk_by (own := [("place", 3), ("words", 4)]) (N := wdN) (sc := defScope s_worded_lines) (by decide +kernel))
        (fun _ _ _ _ _ => pg_tup rfl (pgs_cons (pg_name (i := 3) sc_worded_lines.nd rfl (Or.inl rfl)) (pgs_cons (pg_name (i := 4) sc_worded_lines.nd rfl (Or.inl rfl)) pgs_nil))) (fun _ _ _ _ _ => pts_one (pt_truth (by exact pv 4) (by intro _; rfl))) (fun _ _ _ _ _ => pe_hasI hI hr (by rfl) passL (pa_cons (pe_op op_add (pv 3) pe_int) (pa_cons (pv 4) pa_nil))))))), ?_⟩
    refine ⟨_, rfl, v, d, rfl, hd, ?_⟩
    cases hs : isStr d with
    | false => exact .inr ⟨rfl, bad hs⟩
    | true =>
      refine .inl ⟨rfl, ?_⟩
      obtain ⟨x, rfl⟩ : ∃ x, d = .str x := by
        cases d <;> first | exact ⟨_, rfl⟩ | cases hs
      obtain ⟨rfl, hx, q⟩ := good x rfl
      refine ⟨_, rfl, ⟨x, rfl⟩, x, sNl, rfl, rfl, by decide +kernel, by rw [sizeLine_eq]; omega, fun pa hpa => ?_⟩
      rw [split_nl]
      have s1 := same_new (o := .lst ((splS x sNl).map V.str)) hpa
      have k1 : (upd H pa (.lst ((splS x sNl).map V.str))) pa = some (.lst ((splS x sNl).map V.str)) := upd_same
      generalize upd H pa (.lst ((splS x sNl).map V.str)) = H1 at *
      have hn := splS_len x sNl
      refine ⟨pa, rfl, ⟨_, SqL.of k1⟩, fun D hD => lc_genG (J := Itl K pa) (n := (splS x sNl).length) (WdL H D) (fun _ => true) (fun i => wordsIn ((splS x sNl).getD i "")) (fun H1 H2 v b s ⟨wl, e, h, n, nd⟩ => ⟨wl, e, s _ _ h, n, nd⟩) (fun H1 v b ys o _ ⟨wl, e, h, n, nd⟩ => ⟨wl, e, (upd_ne nd).trans h, n, nd⟩) (by omega) hD
        (fun i H2 hi s2 => ⟨_, .str ((splS x sNl).getD i ""), SqL.of (s2 _ _ k1), by rw [List.getElem?_map, getD_of hi]; rfl⟩) (fun H2 s2 => ⟨_, SqL.of (s2 _ _ k1), by rw [List.length_map]; exact Nat.le_refl _⟩) (fun i H2 x' H3 hi s2 hDs y => ?_) (fun H2 zs s2 hz pr => ?_)⟩
      · obtain ⟨rfl, hx'⟩ := y
        have hx' := hx' _ (SqL.of (s2 _ _ k1))
        rw [List.getElem?_map, getD_of (d := ("" : Str)) hi] at hx'
        have hx' := (Option.some.inj hx').symm
        subst hx'
        have hm : ((splS x sNl).getD i "").length ≤ x.length := splS_mem (List.mem_of_getElem? (getD_of hi))
        obtain ⟨zs, hDs⟩ := hDs
        refine ⟨Same.refl _, _, fun Kk q => q, rfl, fun Q q => q _ (Same.refl _), fun hp H3 s3 Q q => ⟨_, rfl, _, rfl, by omega, fun D2 H4 s4 n4 h4 => q _ H4 s4 ⟨D2, rfl, h4, (s1.trans (s2.trans s3)).free n4, ?_⟩⟩⟩
        exact (ne_of_none (s3 _ _ hDs) n4).symm
      · have e1 : ((List.range (splS x sNl).length).filter fun _ => true).map (fun i => wordsIn ((splS x sNl).getD i "")) = linesIn x := by
          rw [List.filter_eq_self.mpr fun _ _ => rfl]
          unfold linesIn
          conv => rhs; rw [← getDd_range ("" : Str) (splS x sNl), List.map_map]
          rfl
        rw [e1] at pr
        have hL := linesIn_len x
        have s02 := s1.trans s2
        have hlz := Paired.length pr
        generalize hLL : linesIn x = L at *
        refine ⟨_, rfl, D, zs, rfl, SqL.of hz, fun D2 hD2 => lc_genG (J := Ite K D) (n := L.length) (LnD C H D2) (fun i => !(L.getD i []).isEmpty) (fun i => (i + 1, L.getD i [])) (fun H1 H2 v b s ⟨p, dx, wl, e, W, n, nd⟩ => ⟨p, dx, wl, e, W.same s, n, nd⟩) (fun H1 v b ys o ho ⟨p, dx, wl, e, W, n, nd⟩ => ⟨p, dx, wl, e, W.far ho nd, n, nd⟩) (by omega) hD2
          (fun i H3 hi s3 => ⟨zs, _, SqL.of (s3 _ _ hz), List.getElem?_eq_getElem (by omega)⟩) (fun H3 s3 => ⟨zs, SqL.of (s3 _ _ hz), by omega⟩) (fun i H3 x' H4 hi s3 hDs y => ?_) (fun H3 ys s3 hy pr3 => ?_)⟩
        · obtain ⟨T', x'', rfl, hT, rfl, hx''⟩ := y
          have hx'' := hx'' _ (SqL.of (s3 _ _ hz))
          obtain ⟨b, hb, wl, rfl, hwl, nwl, ndl⟩ := Lt.Paired.getL pr hx''
          rw [getD_of (d := []) hi] at hb
          have hb := (Option.some.inj hb).symm
          subst hb
          have sT := same_new (o := .tup [V.int (i : Nat), V.ref wl]) hT
          have hwl3 := s3 _ _ hwl
          have nD2 : wl ≠ D2 := ne_of_none hwl hD2
          refine ⟨sT, _, fun Kk q => ⟨T', _, rfl, SqT.of upd_same, rfl, _, _, rfl, _, _, rfl, rfl, q⟩, rfl, fun Q q => ⟨_, rfl, _, .inl ⟨_, SqL.of (sT _ _ hwl3), rfl⟩, ?_⟩, fun hp H5 s5 Q q => ?_⟩
          · have e2 : (!((L.getD i []).map V.str).isEmpty) = !(L.getD i []).isEmpty := by rw [List.isEmpty_map]
            rw [e2]
            exact q _ (Same.refl _)
          · refine ⟨_, rfl, (i : Int), 1, rfl, rfl, _, rfl, fun px dx nx ndx nex => ?_⟩
            have ev : V.int ((i : Int) + 1) = nI (i + 1) := congrArg V.int (by omega)
            have hwl5 := s5 _ _ (sT _ _ hwl3)
            refine ⟨px, dx, wl, i + 1, L.getD i [], congrArg (fun z => [V.ref px, z, V.ref wl]) ev, upd_same, (upd_ne (ne_of_none hwl5 nx)).trans ((upd_ne (ne_of_none hwl5 ndx)).trans hwl5), fun H6 st6 h6 => ⟨rfl, ?_⟩⟩
            have s56 : Same H5 H6 := fun b o h => st6 b o (ne_of_none h nx) ((upd_ne (ne_of_none h nx)).trans ((upd_ne (ne_of_none h ndx)).trans h))
            exact q _ H6 s56 ⟨px, dx, wl, rfl, ⟨h6, s56 _ _ hwl5⟩, ⟨(s02.trans (s3.trans (sT.trans s5))).free nx, nwl⟩, nD2⟩
        · refine q D2 H3 ys (s02.trans s3) (s02.free hD2) hy (paired_mono (fun a b r => ?_) pr3)
          obtain ⟨p, dx, wl, e, W, n, _⟩ := r
          exact ⟨p, dx, wl, e, W, n⟩
end
end Lt

set_option Elab.async false
set_option linter.all false
set_option maxRecDepth 100000
set_option maxHeartbeats 4000000
namespace Lt
open PySem PySem.Spec PyProof.Rows L2
/-! ### ascending -/
def iN (t : List Nat) : List Int := t.map Int.ofNat
def cd (t : List Nat) : Int := TS.code 9 (iN t)
/-- a lock that is asked of -/
structure Good (H : Hp) (v : V) (ls : List (List Nat)) (n : Nat) : Prop where
  tt : TT H v ls
  gl : GL ls n
  few : Few ls n 63
theorem Good.tm {H H' : Hp} {v : V} {ls : List (List Nat)} {n : Nat} (h : Good H v ls n) (e : Tm H H') : Good H' v ls n := ⟨h.tt.tm e, h.gl, h.few⟩
theorem Good.same {H H' : Hp} {v : V} {ls : List (List Nat)} {n : Nat} (h : Good H v ls n) (e : Same H H') : Good H' v ls n := h.tm (.of e)
theorem Good.isP {H : Hp} {v : V} {ls : List (List Nat)} {n : Nat} (h : Good H v ls n) {t : List Nat} (m : Mk ls n t) : IsP n t := m.isP h.gl.2.2.2.2
theorem Good.mem {H : Hp} {v : V} {ls : List (List Nat)} {n : Nat} (h : Good H v ls n) (t : List Nat) : t ∈ (LL ls n).map (·.1) ↔ Mk ls n t := LL_mem h.few (by omega) t
section
variable {P : Program} {w : World} {K : PySem.W.Frag} {mg : Str → Option Value} {base : Heap} {CL CM CT : Addr}
theorem Good.wd {H : Hp} {v : V} {ls : List (List Nat)} {n : Nat} (g : Good H v ls n) {L : List (List Nat × List Nat)} (hL : Wd ls n L) : L = LL ls n := by
  obtain ⟨a, e1, e2, _⟩ := g.few.wd (by omega) hL
  rw [e1] at e2 ⊢
  exact LL_of g.few (by omega) e2
/-! ### all_turns -/
/-- a tuple of turns that may be keys -/
def TTK (H : Hp) (v : V) (ts : List (List Nat)) : Prop := ∃ a xs, v = .ref a ∧ H a = some (.tup xs) ∧ Paired (TK H) xs ts
theorem TTK.tt {H : Hp} {v : V} {ts : List (List Nat)} (h : TTK H v ts) : TT H v ts := let ⟨a, xs, e, ha, p⟩ := h; ⟨a, xs, e, ha, paired_mono (fun _ _ r => r.tn) p⟩
end
end Lt

set_option Elab.async false
set_option linter.all false
set_option maxRecDepth 100000
set_option maxHeartbeats 1000000
/-! locktexts.py: write_lock, read_lock -/
namespace Lt
open PySem PySem.Spec PyProof.Rows L2
abbrev wTurn : List Str := ["turn"]
def sizeL (acc : List (List Nat)) (ws : List Str) (size : Nat) : Nat := if acc.isEmpty then max 2 (min 9 (ws.length - 1)) else size
/-- the lines' turns -/
def rdL : List (Nat × List Str) → Nat → List (List Nat) → Except (Nat × Nat) (List (List Nat))
  | [], _, acc => .ok acc
  | b :: rest, size, acc =>
    if acc.length = 4 then .error (b.1, 1) else
    match tk1 b.2 0 wTurn with
    | none => .error (b.1, 1)
    | some _ => match tkP b.2 (figs (sizeL acc b.2 size)) 1 (sizeL acc b.2 size) [] with
      | .error e => .error (b.1, e)
      | .ok t => if 1 + sizeL acc b.2 size < b.2.length then .error (b.1, 1 + sizeL acc b.2 size + 1) else rdL rest (sizeL acc b.2 size) (acc ++ [t])
def lockOf (x : Str) : Except (Nat × Nat) (List (List Nat)) := match rdL (numWs (linesIn x)) 0 [] with
  | .error e => .error e
  | .ok ts => if ts.isEmpty then .error ((splS x sNl).length + 1, 1) else .ok ts
theorem sizeL_le {acc : List (List Nat)} {ws : List Str} {size : Nat} (h : size ≤ 9) : sizeL acc ws size ≤ 9 := by
  unfold sizeL
  split
  · omega
  · exact h
theorem rdL_full {b : Nat × List Str} {rest : List (Nat × List Str)} {size : Nat} {acc : List (List Nat)} (h : acc.length = 4) : rdL (b :: rest) size acc = .error (b.1, 1) := if_pos h
theorem rdL_no {b : Nat × List Str} {rest : List (Nat × List Str)} {size : Nat} {acc : List (List Nat)} (h : ¬ acc.length = 4) (h1 : tk1 b.2 0 wTurn = none) : rdL (b :: rest) size acc = .error (b.1, 1) := by
  rw [rdL, if_neg h, h1]
theorem rdL_places {b : Nat × List Str} {rest : List (Nat × List Str)} {size j e : Nat} {acc : List (List Nat)} (h : ¬ acc.length = 4) (h1 : tk1 b.2 0 wTurn = some j) (h2 : tkP b.2 (figs (sizeL acc b.2 size)) 1 (sizeL acc b.2 size) [] = .error e) : rdL (b :: rest) size acc = .error (b.1, e) := by
  rw [rdL, if_neg h, h1]
  show (match tkP b.2 (figs (sizeL acc b.2 size)) 1 (sizeL acc b.2 size) [] with | .error e => _ | .ok t => _) = _
  rw [h2]
theorem rdL_more {b : Nat × List Str} {rest : List (Nat × List Str)} {size j : Nat} {t : List Nat} {acc : List (List Nat)} (h : ¬ acc.length = 4) (h1 : tk1 b.2 0 wTurn = some j) (h2 : tkP b.2 (figs (sizeL acc b.2 size)) 1 (sizeL acc b.2 size) [] = .ok t) :
    rdL (b :: rest) size acc = if 1 + sizeL acc b.2 size < b.2.length then .error (b.1, 1 + sizeL acc b.2 size + 1) else rdL rest (sizeL acc b.2 size) (acc ++ [t]) := by
  rw [rdL, if_neg h, h1]
  show (match tkP b.2 (figs (sizeL acc b.2 size)) 1 (sizeL acc b.2 size) [] with | .error e => _ | .ok t => _) = _
  rw [h2]
theorem same_step {p : Addr} {H H1 H2 : Hp} (s : Same H H1) (hp : H p = none) (st : StepR p H1 H2) : Same H H2 := fun b o h => st b o (ne_of_none h hp) (s b o h)
theorem badP_of {p CB : Addr} {num e : Nat} {H H1 : Hp} {E : XK} (b : BadF2 CB "line" (nI num) "place" (nI e) H E) (s : Same H H1) (hp : H p = none) : BadP p CB num e H1 E := fun d H' st h => b d H' (same_step s hp st) h
/-- the lines behind one that is being read -/
theorem lns_step {C p dx wl : Addr} {num i : Nat} {ws : List Str} {H1 H H' : Hp} (W : WlAt H C p dx wl num ws i) (st : StepR p H H') : ∀ {zs : List V} {L : List (Nat × List Str)}, Paired (LnR C H1 H) zs L → (∀ b ∈ L, num ≠ b.1) → Paired (LnR C H1 H') zs L
  | _, _, .nil, _ => .nil
  | _, _, .cons ⟨q, dx2, wl2, e, W2, n⟩ t, hn => by
    refine .cons ⟨q, dx2, wl2, e, W2.other W (fun z => ?_) st, n⟩ (lns_step W st t fun b hb => hn b (List.mem_cons_of_mem _ hb))
    subst z
    have z := W2.ins.symm.trans W.ins
    injection z with z
    injection z with _ _ z
    injection z with z _
    injection z with _ z
    injection z with z
    exact hn _ (List.mem_cons_self ..) (Int.ofNat.inj z).symm
theorem lns_far {C a : Addr} {xs : List V} {o : HO} {H1 H : Hp} (ha : H a = some (.lst xs)) (h1 : H1 a ≠ none) {zs : List V} {L : List (Nat × List Str)} (p : Paired (LnR C H1 H) zs L) : Paired (LnR C H1 (upd H a o)) zs L :=
  paired_mono (fun _ _ ⟨q, dx2, wl2, e, W2, n, n2⟩ => ⟨q, dx2, wl2, e, W2.far ha (fun z => h1 (z ▸ n2)), n, n2⟩) p
theorem lns_same {C : Addr} {H1 H H' : Hp} (s : Same H H') {zs : List V} {L : List (Nat × List Str)} (p : Paired (LnR C H1 H) zs L) : Paired (LnR C H1 H') zs L :=
  paired_mono (fun _ _ ⟨q, dx2, wl2, e, W2, n⟩ => ⟨q, dx2, wl2, e, W2.same s, n⟩) p
theorem numWs_nd (L : List (List Str)) : (numWs L).Pairwise fun a b => a.1 ≠ b.1 := by
  unfold numWs
  refine List.pairwise_map.mpr ((List.pairwise_lt_range.filter _).imp fun {a b} h => ?_)
  show a + 1 ≠ b + 1
  omega
theorem numWs_len (L : List (List Str)) : (numWs L).length ≤ L.length := by
  unfold numWs
  rw [List.length_map]
  exact Nat.le_trans (List.length_filter_le _ _) (by rw [List.length_range]; exact Nat.le_refl _)
def lnT (t : List Nat) : Str := ("turn " : Str) ++ spT t
def lockTx (ls : List (List Nat)) : Str := Txt.join sNl (ls.map lnT)
theorem empty_app (x : Str) : Str.empty ++ x = x := TL.ext_tl (by rw [TL.tl_append]; rfl)
theorem joinL_len (S : List Nat) : ∀ L : List (List Nat), (TL.joinL S L).length ≤ (L.map (·.length)).sum + L.length * S.length
  | [] => Nat.zero_le _
  | [a] => by
    show a.length ≤ _
    simp
  | a :: b :: L => by
    show (a ++ (S ++ TL.joinL S (b :: L))).length ≤ _
    have := joinL_len S (b :: L)
    simp only [List.length_append, List.map_cons, List.sum_cons, List.length_cons] at this ⊢
    have e : (L.length + 1 + 1) * S.length = (L.length + 1) * S.length + S.length := by rw [Nat.add_mul, Nat.one_mul]
    rw [e]
    omega
theorem joinS_len (y : Str) (xs : List Str) : (Txt.join y xs).length ≤ (xs.map (·.length)).sum + xs.length * y.length := by
  rw [TL.len_tl, TL.join_eq, TL.tl_join]
  refine Nat.le_trans (joinL_len _ _) ?_
  rw [List.map_map, List.length_map, TL.len_tl y]
  refine Nat.add_le_add_right (Nat.le_of_eq ?_) _
  congr 1
theorem app_len (a b : Str) : (a ++ b).length = a.length + b.length := by rw [TL.len_tl, TL.tl_append, List.length_append, ← TL.len_tl, ← TL.len_tl]
theorem spT_len {t : List Nat} (h : ∀ x ∈ t, x < 10) : (spT t).length ≤ 2 * t.length := by
  have := joinS_len sSp (t.map sN)
  rw [sum_one h, List.length_map] at this
  have e : sSp.length = 1 := by decide +kernel
  rw [e] at this
  unfold spT
  omega
theorem sum_le {α : Type} (f : α → Nat) (m : Nat) : ∀ {l : List α}, (∀ x ∈ l, f x ≤ m) → (l.map f).sum ≤ l.length * m
  | [], _ => Nat.zero_le _
  | a :: l, h => by
    rw [List.map_cons, List.sum_cons, List.length_cons, Nat.add_mul, Nat.one_mul]
    have := sum_le f m fun x hx => h x (List.mem_cons_of_mem _ hx)
    have := h a (List.mem_cons_self ..)
    omega
section
variable {P : Program} {w : World} {K : PySem.W.Frag} {mg : Str → Option Value} {base : Heap} {C CB CS CL CM : Addr}
def spWriteLock : Sp := fun vs H Q _ => ∃ (v : V) (ls : List (List Nat)) (n : Nat), vs = [v] ∧ Good H v ls n ∧ ∀ H', Same H H' → Q (.str (lockTx ls)) H'
theorem sc_write_lock : FnScope ["lock", "given"] ["lock"] (defScope s_write_lock) := ⟨rfl, rfl, rfl, by decide +kernel, rfl, by decide +kernel, by decide +kernel⟩
def tLn : TE := fun σ H Q => tJs [tC (.str "turn "), tFmt (tCall spSpaced [] E0 (tCons (tVar 1) tNil))] Str.empty σ H fun out H1 => Q (.str out) H1
theorem has_write_lock (T : Top K mg "write_lock" s_write_lock ["lock"]) (B : Bi mg) (hM : Has P w K mg base (L2.CX P w) 5 "made_words" ["lock"] (spMade CL CM)) (hS : Has P w K mg base CX0 1 "spaced" ["parts"] spSpaced) : Has P w K mg base (L2.CX P w) 6 "write_lock" ["lock"] spWriteLock := by
  refine T.okX sc_write_lock (fun vs H Q E h => ?_) (fun f cdv A outer s H vs Q E hr h => ?_)
  · obtain ⟨v, ls, n, rfl, _⟩ := h
    rfl
  · obtain ⟨v, ls, n, rfl, g, q⟩ := h
    have hr1 : Room 1 _ := hr.mono (by decide)
    refine ⟨_, pss_cons (ps_expr (pe_hasX (E := E) hM hr (by rfl) (passes_call (takes_of rfl rfl rfl rfl) (fun _ _ _ _ h => h)) (pa_cons (pv 0) pa_nil)))
      (pss_one (ps_ret (pe_join pe_str (pe_lc (own := [("given", 1)]) (g := gName 1) (te := tLn) (by rfl) sc_write_lock.nd (pi_tup (pv 0)) (blkOk_by (own := [("given", 1)]) (N := ["lock", "given"]) (sc := defScope s_write_lock) (by decide +kernel))
        (fun _ _ _ _ _ => pg_name (i := 1) sc_write_lock.nd rfl (Or.inl rfl)) (fun _ _ _ _ _ => pts_nil) (fun _ _ _ _ _ => pe_joined (.cons pe_str (.cons (pe_fmt (pe_has hS hr1 (by rfl) (pa_cons (pv 1) pa_nil))) .nil))))))), ?_⟩
    refine ⟨_, rfl, v, rfl, lockIn_good g.tt g.gl g.few (by omega) fun m H1 L s1 hm dw hL _ => ?_⟩
    have g1 := g.same s1
    obtain ⟨a, xs, rfl, ha, px⟩ := g1.tt
    have lx := Paired.length px
    obtain ⟨g0, g4, n2, n9, gp⟩ := g.gl
    have l10 : ∀ t ∈ ls, t.length ≤ 9 ∧ ∀ x ∈ t, x < 10 := fun t ht => ⟨by rw [(gp t ht).len]; exact n9, fun x hx => by have := (gp t ht).lt x hx; omega⟩
    have l4 : ("turn " : Str).length = 5 := by decide +kernel
    refine ⟨⟨_, rfl⟩, _, rfl, a, rfl, ⟨_, SqT.of ha⟩, fun D hD => lc_tupM RStr (ls.map lnT) (fun _ _ _ _ _ r => r) (SqT.of ha) (fun H' sm => SqT.of (sm _ _ ha)) (by omega) (by rw [List.length_map, lx]) hD (fun x => rfl) (fun i x b hx hb H' sm Q' q' => ?_) (fun H2 zs s2 hz pr => ?_)⟩
    · obtain ⟨t, ht, rx⟩ := Paired.getL px hx
      rw [List.getElem?_map, ht] at hb
      have eb : lnT t = b := Option.some.inj hb
      obtain ⟨t9, t10⟩ := l10 t (List.mem_of_getElem? ht)
      have sl := spT_len t10
      refine ⟨("turn " : Str), rfl, by rw [sizeLine_eq, empty_app, l4]; decide, _, rfl, x, t, rfl, rx.tm (.of sm), by omega, t10, fun H3 s3 => .inl ⟨spT t, rfl, by rw [sizeLine_eq]; omega, _, rfl, by rw [sizeLine_eq, empty_app, app_len, l4]; omega, q' _ H3 s3 ?_⟩⟩
      rw [empty_app]
      exact congrArg V.str eb
    · rw [RStr.all pr] at hz
      refine ⟨sNl, D, ls.map lnT, rfl, rfl, .inl (SqL.of hz), ?_, q H2 (s1.trans s2)⟩
      rw [List.map_map, List.length_map]
      have e1 : sNl.length = 1 := by decide +kernel
      rw [e1]
      have := sum_le ((fun x : Str => x.length) ∘ lnT) 23 (l := ls) fun t ht => by
        obtain ⟨t9, t10⟩ := l10 t ht
        have sl := spT_len t10
        show (("turn " : Str) ++ spT t).length ≤ 23
        rw [app_len, l4]
        omega
      omega
end
end Lt

set_option Elab.async false
set_option linter.all false
set_option maxRecDepth 100000
set_option maxHeartbeats 1000000
/-! locktexts.py: read_lock -/
namespace Lt
open PySem PySem.Spec PyProof.Rows L2
theorem tt_take {H : Hp} {vs : List V} (l : Addr) (h : H l = some (.lst vs)) (p : Addr) (hp : H p = none) {ts : List (List Nat)} (pr : Paired (TK H) vs ts) : TTK (upd H p (.tup vs)) (.ref p) ts :=
  ⟨p, vs, rfl, upd_same, paired_mono (fun _ _ r => r.tm (.of (same_new hp))) pr⟩
section
variable {P : Program} {w : World} {K : PySem.W.Frag} {mg : Str → Option Value} {base : Heap} {C CB CS : Addr}
/-- the argument text: what is none, or a text of which q -/
def TxIn (CS : Addr) (H : Hp) (E : XK) (v : V) (q : Str → Prop) : Prop := ∃ d, Rp H v d ∧ (isStr d = false → Bad0 CS H E) ∧ ∀ x, d = .str x → v = .str x ∧ x.length ≤ 80000 ∧ q x
def spReadLock (CB CS : Addr) : Sp := fun vs H Q E => ∃ v, vs = [v] ∧ TxIn CS H E v fun x => (∀ e, lockOf x = .error e → BadF2 CB "line" (nI e.1) "place" (nI e.2) H E) ∧ ∀ ts, lockOf x = .ok ts → ∀ r H', Same H H' → TTK H' r ts → Q r H'
theorem sc_read_lock : FnScope ["text", "lock", "size", "line"] ["text"] (defScope s_read_lock) := ⟨rfl, rfl, rfl, by decide +kernel, rfl, by decide +kernel, by decide +kernel⟩
theorem size_int (l : Nat) : V.int (if (if (l : Int) - 1 < 9 then (l : Int) - 1 else 9) > 2 then (if (l : Int) - 1 < 9 then (l : Int) - 1 else 9) else 2) = nI (max 2 (min 9 (l - 1))) := by
  refine congrArg V.int ?_
  by_cases h9 : (l : Int) - 1 < 9
  · rw [if_pos h9]
    by_cases h2 : (l : Int) - 1 > 2
    · rw [if_pos h2]
      omega
    · rw [if_neg h2]
      omega
  · rw [if_neg h9, if_pos (by decide)]
    omega
theorem has_read_lock (T : Top K mg "read_lock" s_read_lock ["text"]) (B : Bi mg) (bmax : mg "max" = none) (bmin : mg "min" = none) (TW : WlT K mg C) (X1 : ErrI2 P w K mg base "BadLine" "line" "place" CB)
    (G4 : ∃ u, mg "MOST_GIVEN" = some u ∧ RelV (.int 4) u) (G2 : ∃ u, mg "FEWEST_PLACES" = some u ∧ RelV (.int 2) u) (G9 : ∃ u, mg "MOST_PLACES" = some u ∧ RelV (.int 9) u)
    (hWd : Has P w K mg base (L2.CX P w) 3 "worded_lines" ["text"] (spWorded C CS)) (hT : HasM P w K mg base (L2.CX P w) 3 C "take" ["self", "wanted"] (spTake C CB)) (hP : HasM P w K mg base (L2.CX P w) 4 C "take_places" ["self", "size"] (spPlaces C CB))
    (hE : HasM P w K mg base (L2.CX P w) 3 C "end" ["self"] (spEnd C CB)) : Has P w K mg base (L2.CX P w) 5 "read_lock" ["text"] (spReadLock CB CS) := by
  refine T.okX sc_read_lock (fun vs H Q E h => ?_) (fun f cdv A outer s H vs Q E hr h => ?_)
  · obtain ⟨v, rfl, _⟩ := h
    rfl
  · obtain ⟨v, rfl, d, hd, badS, good⟩ := h
    have hr2 : Room 2 _ := hr.mono (by decide)
    have hr3 : Room 3 _ := hr.mono (by decide)
    refine ⟨_, pss_cons (ps_set (i := 1) sc_read_lock.nd rfl (Or.inl rfl) (pe_lst pa_nil))
      (pss_cons (ps_set (i := 2) sc_read_lock.nd rfl (Or.inl rfl) pe_int)
      (pss_cons (ps_for (passes_of rfl) rfl (pi_list (pe_hasX (E := E) hWd hr3 (by rfl) (passes_call (takes_of rfl rfl rfl rfl) (fun _ _ _ _ h => h)) (pa_cons (pv 0) pa_nil))) (pg_name (i := 3) sc_read_lock.nd rfl (Or.inl rfl))
        (pss_cons (ps_if (pt_cmpR op_eq (pe_callB call_len_seq (by rfl) B.len PySem.boot_len (pa_cons (pv 1) pa_nil)) (pe_gc2 (by rfl) G4) (by rfl)) (pss_one (ps_raise rfl (takes_of rfl rfl rfl rfl) (pmk_errI2 X1 hr2 (by rfl) (pa_cons (pe_fld (pv 3) rfl) (pa_cons pe_int pa_nil))))) pss_nil)
        (pss_cons (ps_if (pt_not (pt_truth (pv 1) (by intro _; rfl))) (pss_one (ps_set (i := 2) sc_read_lock.nd rfl (Or.inl rfl) (pe_callB (call_max2 (by rfl)) (by rfl) bmax (by rfl) (pa_cons (pe_gc2 (by rfl) G2) (pa_cons (pe_callB (call_min2 (by rfl)) (by rfl) bmin (by rfl) (pa_cons (pe_gc2 (by rfl) G9) (pa_cons (pe_op op_sub (pe_callB call_len_seq (by rfl) B.len PySem.boot_len (pa_cons (pe_fld (pv 3) rfl) pa_nil)) pe_int) pa_nil))) pa_nil))))) pss_nil)
        (pss_cons (ps_expr (pe_hasM (E := E) hT TW.cl hr3 (passes_call (takes_of rfl rfl rfl rfl) (fun _ _ _ _ h => h)) (pv 3) (pa_cons (pe_lst (pa_cons pe_str pa_nil)) pa_nil)))
        (pss_cons (ps_expr (pe_bm PySem.F.plainAttrs_list PySem.F.slot_list_append PySem.F.type_list_append mt_append (pv 1) (pa_cons (pe_hasM (E := E) hP TW.cl hr (passes_call (takes_of rfl rfl rfl rfl) (fun _ _ _ _ h => h)) (pv 3) (pa_cons (pv 2) pa_nil)) pa_nil)))
        (pss_one (ps_expr (pe_hasM0 (E := E) hE TW.cl hr3 (passes_call (takes_of rfl rfl rfl rfl) (fun _ _ _ _ h => h)) (pv 3)))))))))
      (pss_cons (ps_if (pt_not (pt_truth (pv 1) (by intro _; rfl))) (pss_one (ps_raise rfl (takes_of rfl rfl rfl rfl) (pmk_errI2 X1 hr2 (by rfl) (pa_cons (pe_op op_add (pe_callB call_len_seq (by rfl) B.len PySem.boot_len (pa_cons (pe_split (pv 0) pe_str) pa_nil)) pe_int) (pa_cons pe_int pa_nil))))) pss_nil)
      (pss_one (ps_ret (pe_tupleOf (by rfl) B.tuple (pv 1))))))), ?_⟩
    refine ⟨Nat.zero_le _, fun lk hlk => ?_⟩
    have s1 := same_new (o := .lst []) hlk
    have klk : (upd H lk (.lst [])) lk = some (.lst []) := upd_same
    generalize upd H lk (.lst []) = H1 at *
    have nlk : H1 lk ≠ none := by rw [klk]; exact fun z => nomatch z
    refine ⟨_, rfl, v, d, rfl, Rp.same s1 _ _ hd, fun hs => (badS hs).same s1, fun x hx => ?_⟩
    obtain ⟨rfl, hxl, qe, qg⟩ := good x hx
    refine ⟨rfl, hxl, fun D H2 zs s2 hD hz pz => ?_⟩
    have lkD : lk ≠ D := ne_of_none klk hD
    have hNL : (numWs (linesIn x)).length ≤ 80001 := Nat.le_trans (numWs_len _) (Nat.le_trans (linesIn_len x) (by omega))
    have hnd := numWs_nd (linesIn x)
    have lz := Paired.length pz
    generalize hNLe : numWs (linesIn x) = NL at *
    have eL : ∀ e, rdL NL 0 [] = .error e → lockOf x = .error e := fun e h => by unfold lockOf; rw [hNLe, h]
    refine ⟨D, rfl, ⟨_, SqL.of hz⟩, for_list (K := K) (a := D) (xs := zs) (fun i σ H' => ∃ y3 acc vs size, σ = [some (.str x), some (.ref lk), some (nI size), y3] ∧ Same H H' ∧ H' D = some (.lst zs) ∧ Paired (LnR C H1 H') (zs.drop i) (NL.drop i) ∧ H' lk = some (.lst vs) ∧ Paired (TK H') vs acc ∧ acc.length ≤ 4 ∧ size ≤ 9 ∧ rdL NL 0 [] = rdL (NL.drop i) size acc)
      ⟨none, [], [], 0, rfl, s1.trans s2, hz, pz, s2 _ _ klk, .nil, Nat.zero_le _, Nat.zero_le _, rfl⟩ (fun i σ H' _ ⟨_, _, _, _, _, _, h, _⟩ => SqL.of h) ?_ ?_⟩
    · rintro i xv σ H' hi ⟨y3, acc, vs, size, rfl, s', hz', pl, hvs, pv, ha4, hs9, hrd⟩
      have hil : i < zs.length := (List.getElem?_eq_some_iff.mp hi).1
      have hib : i < NL.length := by omega
      have dz : zs.drop i = xv :: zs.drop (i + 1) := by rw [List.drop_eq_getElem_cons hil, (List.getElem?_eq_some_iff.mp hi).2]
      have dn : NL.drop i = NL[i] :: NL.drop (i + 1) := List.drop_eq_getElem_cons hib
      have hfar : ∀ b ∈ NL.drop (i + 1), NL[i].1 ≠ b.1 := fun b hb => by
        have z : (NL.drop i).Pairwise fun a b => a.1 ≠ b.1 := hnd.sublist (List.drop_sublist i NL)
        rw [dn] at z
        exact (List.pairwise_cons.mp z).1 b hb
      rw [dz, dn] at pl
      rw [dn] at hrd
      generalize NL[i] = b at *
      generalize NL.drop (i + 1) = rest at *
      generalize zs.drop (i + 1) = zr at *
      cases pl with
      | cons r t =>
      obtain ⟨p, dx, wl, rfl, W, np1, nw1⟩ := r
      obtain ⟨num, ws⟩ := b
      have np : H p = none := s1.free np1
      have hnum : ∀ e, rdL ((num, ws) :: rest) size acc = .error e → BadF2 CB "line" (nI e.1) "place" (nI e.2) H E := fun e h => qe e (eL e (hrd.trans h))
      have lv := Paired.length pv
      refine ⟨_, rfl, lk, vs, rfl, .inl (SqL.of hvs), rfl, decide (acc.length = 4), ?_, ?_⟩
      · rw [lv]
        exact congrArg V.bl (decide_eq_decide.mpr ⟨fun h => by injection h with h; omega, fun h => by rw [h]; rfl⟩)
      by_cases h4 : acc.length = 4
      · rw [decide_eq_true h4]
        refine iteT ⟨_, rfl, p, C, dx, _, _, rfl, W.ins, TW.cl, TW.nN, wF_number num wl 0, ?_⟩
        exact mk_read2 (v1 := nI num) (v2 := nI 1) X1.oex X1.no1 X1.no2 (fun d H' s h => hnum _ (rdL_full h4) d H' (s'.trans s) h)
      rw [decide_eq_false h4]
      refine iteF ?_
      refine ⟨_, rfl, !vs.isEmpty, .inl ⟨vs, SqL.of hvs, rfl⟩, ?_⟩
      have eve : vs.isEmpty = acc.isEmpty := by
        cases vs <;> cases acc <;> first | rfl | cases lv
      rw [eve]
      have szle : sizeL acc ws size ≤ 9 := sizeL_le hs9
      have hno := fun h => hnum _ (rdL_no (rest := rest) (b := (num, ws)) (size := size) h4 h)
      have hpl := fun j e h1 h2 => hnum _ (rdL_places (rest := rest) (b := (num, ws)) (size := size) (j := j) (e := e) h4 h1 h2)
      have hmo := fun j t h1 h2 => rdL_more (rest := rest) (b := (num, ws)) (size := size) (j := j) (t := t) h4 h1 h2
      dsimp only at hno hpl hmo
      cases hae : acc.isEmpty with
      | true =>
        refine iteT ⟨_, rfl, p, C, dx, _, _, rfl, W.ins, TW.cl, TW.nW, wF_words num wl 0, wl, _, rfl, .inl (SqL.of W.lst), _, 1, rfl, rfl, 9, _, rfl, 2, _, rfl, ?_⟩
        rw [List.length_map, size_int, show max 2 (min 9 (ws.length - 1)) = sizeL acc ws size from by unfold sizeL; rw [hae]; rfl]
        refine ⟨_, rfl, p, dx, _, rfl, W.ins, rfl, Nat.le_of_ble_eq_true rfl, fun wa hwa => ?_⟩
        have s6 := same_new (o := .lst [V.str ("turn" : Str)]) hwa
        have k6 : (upd H' wa (.lst [V.str ("turn" : Str)])) wa = some (.lst (wTurn.map V.str)) := upd_same
        have W6 := W.same s6
        have pv6 := paired_mono (fun _ _ r => TK.tm (.of s6) r) pv
        have t6 := lns_same s6 t
        have hvs6 := s6 _ _ hvs
        have hz6 := s6 _ _ hz'
        have sH6 := s'.trans s6
        generalize upd H' wa (.lst [V.str ("turn" : Str)]) = H6 at *
        refine ⟨p, dx, wl, wa, num, 0, ws, wTurn, rfl, W6, k6, Nat.zero_le _, fun hn => badP_of (hno hn) sH6 np, fun j hj H7 st7 W7 => ?_⟩
        have tm7 := W6.tm st7
        have sH7 := same_step sH6 np st7
        have hvs7 := lst_step W6 st7 hvs6
        have hz7 := lst_step W6 st7 hz6
        have t7 := lns_step W6 st7 t6 hfar
        have pv7 := paired_mono (fun _ _ r => TK.tm tm7 r) pv6
        obtain ⟨_, _, _, _, hlt⟩ := tk1_lt hj
        refine ⟨_, rfl, .inl ⟨rfl, _, SqL.of hvs7⟩, _, rfl, p, dx, _, rfl, W7.ins, rfl, _, rfl, p, dx, wl, num, 1, sizeL acc ws size, ws, rfl, W7, hlt, szle, fun e he => badP_of (hpl j e hj he) sH7 np, fun tt htt r H8 st8 W8 hle kr => ?_⟩
        have tm8 := W7.tm st8
        have sH8 := same_step sH7 np st8
        have hvs8 := lst_step W7 st8 hvs7
        have hz8 := lst_step W7 st8 hz7
        have t8 := lns_step W7 st8 t7 hfar
        have pv8 := paired_mono (fun _ _ r => TK.tm tm8 r) pv7
        have nwl : wl ≠ lk := fun z => nlk (z ▸ nw1)
        refine ⟨lk, vs, r, rfl, rfl, hvs8, by rw [lv, sizeLine_eq]; omega, ?_⟩
        have tm9 : Tm H8 (upd H8 lk (.lst (vs ++ [r]))) := Tm.lst hvs8
        have W9 : WlAt (upd H8 lk (.lst (vs ++ [r]))) C p dx wl num ws (1 + sizeL acc ws size) := W8.far hvs8 nwl
        have t9 := lns_far (o := .lst (vs ++ [r])) hvs8 nlk t8
        have sH9 : Same H (upd H8 lk (.lst (vs ++ [r]))) := same_mut sH8 hlk
        have hz9 : (upd H8 lk (.lst (vs ++ [r]))) D = some (.lst zs) := (upd_ne lkD.symm).trans hz8
        have k9 : (upd H8 lk (.lst (vs ++ [r]))) lk = some (.lst (vs ++ [r])) := upd_same
        have pv9 := Paired.app (paired_mono (fun _ _ r => TK.tm tm9 r) pv8) (Paired.one (TK.tm tm9 kr))
        generalize upd H8 lk (.lst (vs ++ [r])) = H9 at *
        refine ⟨_, rfl, p, dx, _, rfl, W9.ins, rfl, p, dx, wl, num, 1 + sizeL acc ws size, ws, rfl, W9, fun hlt => badP_of (hnum _ ((hmo j tt hj htt).trans (if_pos hlt))) sH9 np, fun hn => ?_⟩
        exact ⟨_, acc ++ [tt], vs ++ [r], sizeL acc ws size, rfl, sH9, hz9, t9, k9, pv9, by rw [List.length_append]; show acc.length + 1 ≤ 4; omega, szle, hrd.trans ((hmo j tt hj htt).trans (if_neg hn))⟩
      | false =>
        refine iteF ?_
        rw [show nI size = nI (sizeL acc ws size) from congrArg nI (by unfold sizeL; rw [hae]; rfl)]
        refine ⟨_, rfl, p, dx, _, rfl, W.ins, rfl, Nat.le_of_ble_eq_true rfl, fun wa hwa => ?_⟩
        have s6 := same_new (o := .lst [V.str ("turn" : Str)]) hwa
        have k6 : (upd H' wa (.lst [V.str ("turn" : Str)])) wa = some (.lst (wTurn.map V.str)) := upd_same
        have W6 := W.same s6
        have pv6 := paired_mono (fun _ _ r => TK.tm (.of s6) r) pv
        have t6 := lns_same s6 t
        have hvs6 := s6 _ _ hvs
        have hz6 := s6 _ _ hz'
        have sH6 := s'.trans s6
        generalize upd H' wa (.lst [V.str ("turn" : Str)]) = H6 at *
        refine ⟨p, dx, wl, wa, num, 0, ws, wTurn, rfl, W6, k6, Nat.zero_le _, fun hn => badP_of (hno hn) sH6 np, fun j hj H7 st7 W7 => ?_⟩
        have tm7 := W6.tm st7
        have sH7 := same_step sH6 np st7
        have hvs7 := lst_step W6 st7 hvs6
        have hz7 := lst_step W6 st7 hz6
        have t7 := lns_step W6 st7 t6 hfar
        have pv7 := paired_mono (fun _ _ r => TK.tm tm7 r) pv6
        obtain ⟨_, _, _, _, hlt⟩ := tk1_lt hj
        refine ⟨_, rfl, .inl ⟨rfl, _, SqL.of hvs7⟩, _, rfl, p, dx, _, rfl, W7.ins, rfl, _, rfl, p, dx, wl, num, 1, sizeL acc ws size, ws, rfl, W7, hlt, szle, fun e he => badP_of (hpl j e hj he) sH7 np, fun tt htt r H8 st8 W8 hle kr => ?_⟩
        have tm8 := W7.tm st8
        have sH8 := same_step sH7 np st8
        have hvs8 := lst_step W7 st8 hvs7
        have hz8 := lst_step W7 st8 hz7
        have t8 := lns_step W7 st8 t7 hfar
        have pv8 := paired_mono (fun _ _ r => TK.tm tm8 r) pv7
        have nwl : wl ≠ lk := fun z => nlk (z ▸ nw1)
        refine ⟨lk, vs, r, rfl, rfl, hvs8, by rw [lv, sizeLine_eq]; omega, ?_⟩
        have tm9 : Tm H8 (upd H8 lk (.lst (vs ++ [r]))) := Tm.lst hvs8
        have W9 : WlAt (upd H8 lk (.lst (vs ++ [r]))) C p dx wl num ws (1 + sizeL acc ws size) := W8.far hvs8 nwl
        have t9 := lns_far (o := .lst (vs ++ [r])) hvs8 nlk t8
        have sH9 : Same H (upd H8 lk (.lst (vs ++ [r]))) := same_mut sH8 hlk
        have hz9 : (upd H8 lk (.lst (vs ++ [r]))) D = some (.lst zs) := (upd_ne lkD.symm).trans hz8
        have k9 : (upd H8 lk (.lst (vs ++ [r]))) lk = some (.lst (vs ++ [r])) := upd_same
        have pv9 := Paired.app (paired_mono (fun _ _ r => TK.tm tm9 r) pv8) (Paired.one (TK.tm tm9 kr))
        generalize upd H8 lk (.lst (vs ++ [r])) = H9 at *
        refine ⟨_, rfl, p, dx, _, rfl, W9.ins, rfl, p, dx, wl, num, 1 + sizeL acc ws size, ws, rfl, W9, fun hlt => badP_of (hnum _ ((hmo j tt hj htt).trans (if_pos hlt))) sH9 np, fun hn => ?_⟩
        exact ⟨_, acc ++ [tt], vs ++ [r], sizeL acc ws size, rfl, sH9, hz9, t9, k9, pv9, by rw [List.length_append]; show acc.length + 1 ≤ 4; omega, szle, hrd.trans ((hmo j tt hj htt).trans (if_neg hn))⟩
    · rintro σ H' ⟨y3, acc, vs, size, rfl, s', hz', pl, hvs, pv, ha4, hs9, hrd⟩
      rw [List.drop_eq_nil_of_le (Nat.le_of_eq lz.symm)] at hrd
      have hrd : rdL NL 0 [] = .ok acc := hrd
      have eve : vs.isEmpty = acc.isEmpty := by
        have lv := Paired.length pv
        cases vs <;> cases acc <;> first | rfl | cases lv
      have hLk : lockOf x = if acc.isEmpty then .error ((splS x sNl).length + 1, 1) else .ok acc := by
        unfold lockOf
        rw [hNLe, hrd]
      refine ⟨_, rfl, !vs.isEmpty, .inl ⟨vs, SqL.of hvs, rfl⟩, ?_⟩
      rw [eve]
      cases hae : acc.isEmpty with
      | true =>
        rw [hae] at hLk
        refine iteT ⟨_, rfl, ⟨x, rfl⟩, x, sNl, rfl, rfl, by decide +kernel, by rw [sizeLine_eq]; omega, fun pa hpa => ⟨pa, _, rfl, .inl (SqL.of upd_same), _, 1, rfl, rfl, ?_⟩⟩
        rw [split_nl, List.length_map]
        have ev : V.int (((splS x sNl).length : Int) + 1) = nI ((splS x sNl).length + 1) := congrArg V.int (by omega)
        dsimp only [tCons, tC, tNil]
        rw [ev]
        exact mk_read2 (v1 := nI ((splS x sNl).length + 1)) (v2 := nI 1) X1.oex X1.no1 X1.no2 (fun d H'' s h => qe _ hLk d H'' (s'.trans ((same_new hpa).trans s)) h)
      | false =>
        rw [hae] at hLk
        exact iteF ⟨_, rfl, .inl ⟨lk, vs, rfl, SqL.of hvs, fun rp hrp => qg acc hLk _ _ (s'.trans (same_new hrp)) (tt_take lk hvs rp hrp pv)⟩⟩
end
end Lt

set_option Elab.async false
set_option linter.all false
set_option maxRecDepth 100000
set_option maxHeartbeats 1000000
/-! rows.py: check_row, yes_where -/
namespace Lt
open PySem PySem.Spec PyProof.Rows L2
section
variable {P : Program} {w : World} {K : PySem.W.Frag} {mg : Str → Option Value} {base : Heap} {CR : Addr}
end
end Lt

set_option Elab.async false
set_option linter.all false
set_option maxRecDepth 100000
set_option maxHeartbeats 4000000
/-! a dict by a comprehension, its keys tuples -/
namespace L2
open PySem PySem.Spec PyProof.Rows
section
variable {X : Cx} {pins : List (Addr × Obj)} {σ : St} {H : Hp} {s : Shared}
end
section
variable {X : Cx}
end
end L2

set_option Elab.async false
set_option linter.all false
set_option maxRecDepth 100000
set_option maxHeartbeats 4000000
/-! {k: v for ..} with tuple keys, as an expression -/
namespace L2
open PySem PySem.Spec PyProof.Rows
end L2

set_option Elab.async false
set_option linter.all false
set_option maxRecDepth 100000
set_option maxHeartbeats 1000000
/-! {k: v for ..}: as many pairs as are walked, their keys unlike -/
namespace Lt
open PySem PySem.Spec PyProof.Rows L2
end Lt

set_option Elab.async false
set_option linter.all false
set_option maxRecDepth 100000
set_option maxHeartbeats 1000000
/-! the still turn is the least -/
namespace Lt
open PySem PySem.Spec PyProof.Rows L2
end Lt

set_option Elab.async false
set_option linter.all false
set_option maxRecDepth 100000
set_option maxHeartbeats 1000000
/-! tuples whose object is known: they bear no dict, so their methods are found -/
namespace L2
open PySem PySem.Spec PyProof.Rows
section
variable {X : Cx} {a : Expr} {ta : TE} {te : St → Hp → (Int → Int → Hp → Prop) → Prop} {e : Expr}
end
end L2

set_option Elab.async false
set_option linter.all false
set_option maxRecDepth 100000
set_option maxHeartbeats 1000000
namespace Lt
open PySem PySem.Spec PyProof.Rows L2
/-- a turn whose object is known -/
def TF (H : Hp) (v : V) (t : List Nat) : Prop := ∃ a o, v = .ref a ∧ H a = some (.frz o (.tup (nIs t))) ∧ o.dict = none
theorem TF.tn {H : Hp} {v : V} {t : List Nat} (h : TF H v t) : TN H v t := let ⟨a, o, e, h, _⟩ := h; ⟨a, e, .inr ⟨o, h⟩⟩
theorem TF.tm {H H' : Hp} {v : V} {t : List Nat} (e : Tm H H') (h : TF H v t) : TF H' v t := let ⟨a, o, ev, h, d⟩ := h; ⟨a, o, ev, e.2 _ _ _ h, d⟩
section
variable {P : Program} {w : World} {K : PySem.W.Frag} {mg : Str → Option Value} {base : Heap}
/-! ### _law_is -/
/-! ### _law_behind, _law_back, _law_swap -/
/-! ### _law_permutation -/
def spLawPerm (K : PySem.W.Frag) : Sp := fun vs H Q _ => ∃ (r sc : Addr) (ns : List Int) (n : Nat), vs = [.ref r, nI n] ∧ RowAt K H r sc ns ∧ n ≤ 1000 ∧ ∀ v H' t, IsP n t → StepR r H H' → RowAt K H' r sc ns → TK H' v t → Q v H'
theorem sc_law_permutation : FnScope ["row", "places", "left", "found", "turn"] ["row", "places"] (defScope s_law_permutation) := ⟨rfl, rfl, rfl, by decide +kernel, rfl, by decide +kernel, by decide +kernel⟩
theorem nIs_erase : ∀ (t : List Nat) (i : Nat), (nIs t).eraseIdx i = nIs (t.eraseIdx i)
  | [], _ => rfl
  | _ :: _, 0 => rfl
  | a :: t, i + 1 => by
    show nI a :: (nIs t).eraseIdx i = nI a :: nIs (t.eraseIdx i)
    rw [nIs_erase t i]
theorem erase_perm : ∀ (l : List Nat) (x : Nat) (h : x < l.length), (l[x] :: l.eraseIdx x).Perm l
  | [], x, h => absurd h (Nat.not_lt_zero x)
  | a :: l, 0, _ => List.Perm.refl _
  | a :: l, x + 1, h => (List.Perm.swap a (l[x]'(Nat.lt_of_succ_lt_succ h)) (l.eraseIdx x)).trans ((erase_perm l x (Nat.lt_of_succ_lt_succ h)).cons a)
theorem has_law_permutation (T : Top K mg "_law_permutation" s_law_permutation ["row", "places"]) (B : Bi mg) (hT : Has P w K mg base CX0 1 "_law_taken" ["row", "many"] (spTaken K)) : Has P w K mg base CX0 2 "_law_permutation" ["row", "places"] (spLawPerm K) := by
  refine T.ok sc_law_permutation (fun vs H Q E h => ?_) (fun f cdv A outer s H vs Q E hr h => ?_)
  · obtain ⟨r, sc, ns, n, rfl, _⟩ := h
    rfl
  · obtain ⟨r, sc, ns, n, rfl, ra, hn, q⟩ := h
    refine ⟨_, pss_cons (ps_par (i := 2) (j := 3) (by rfl) sc_law_permutation.nd rfl rfl (by decide) rfl rfl (pa_cons (pe_listRg (by rfl) (by rfl) B.list (prg_1 (by rfl) B.range (pv 1))) (pa_cons (pe_lst pa_nil) pa_nil)) (by rfl))
      (pss_cons (ps_for PassesOwn.never rfl (pi_range1 (by rfl) B.range (pa_cons (pv 1) pa_nil)) (pg_name (i := 4) sc_law_permutation.nd rfl (Or.inl rfl))
        (pss_one (ps_expr (pe_bm PySem.F.plainAttrs_list PySem.F.slot_list_append PySem.F.type_list_append mt_append (pv 3) (pa_cons
          (pe_bm PySem.F.plainAttrs_list PySem.F.slot_list_pop PySem.F.type_list_pop mt_popAt (pv 2) (pa_cons (pe_has hT hr (by rfl) (pa_cons (pv 0) (pa_cons (pe_callB call_len_seq (by rfl) B.len PySem.boot_len (pa_cons (pv 2) pa_nil)) pa_nil))) pa_nil)) pa_nil)))))
      (pss_one (ps_ret (pe_tupleOf (by rfl) B.tuple (pv 3))))), ?_⟩
    refine ⟨_, rfl, n, rfl, .of_le (by omega) (by omega) (by omega) (by omega), fun lf hlf => ?_⟩
    have s1 := same_new (o := .lst (rgV 0 n)) hlf
    refine ⟨Nat.zero_le _, fun fd hfd => ⟨_, _, rfl, ?_⟩⟩
    have s2 := s1.trans (same_new (o := .lst []) hfd)
    have hfd0 : H fd = none := s1.free hfd
    have hlfd : lf ≠ fd := fun z => by rw [← z, upd_same] at hfd; cases hfd
    refine ⟨_, rfl, (n : Int), rfl, by omega, by omega, for_range (lo := 0) (n := (n : Int).toNat) (fun i σ H' => ∃ (l f : List Nat) (y : Option V), σ = [some (.ref r), some (nI n), some (.ref lf), some (.ref fd), y] ∧ StepR r H H' ∧ RowAt K H' r sc ns ∧ H' lf = some (.lst (nIs l)) ∧ H' fd = some (.lst (nIs f)) ∧ (f ++ l).Perm (List.range n) ∧ f.length = i)
      ⟨List.range n, [], none, rfl, .of s2, ra.step s2, by rw [upd_ne hlfd, upd_same, rgV_nat], by rw [upd_same]; rfl, List.Perm.refl _, rfl⟩ ?_ ?_⟩
    · rintro i σ H' hi ⟨l, f, y, rfl, st, ra', hl, hf, pm, hfl⟩
      have hlen := pm.length_eq
      rw [List.length_append, List.length_range] at hlen
      have hl1 : 1 ≤ l.length := by omega
      refine ⟨_, rfl, .inl ⟨rfl, _, SqL.of hf⟩, _, rfl, .inl ⟨rfl, _, SqL.of hl⟩, _, rfl, _, rfl, lf, nIs l, rfl, .inl (SqL.of hl), r, sc, ns, l.length, by rw [nIs_len]; rfl, ra', hl1, by omega, fun x H2 hx st2 ra2 => ?_⟩
      have hlr : lf ≠ r := (ra.ne hlf).symm
      have hfr : fd ≠ r := (ra.ne hfd0).symm
      have hl2 := st2 _ _ hlr hl
      have hf2 := st2 _ _ hfr hf
      refine ⟨lf, nIs l, (x : Int), x, nI l[x], rfl, rfl, hl2, by omega, by omega, (ixN_seq (Evl.ixN_nat (by rw [nIs_len]; exact hx))).1, by rw [nIs_get, List.getElem?_eq_getElem hx]; rfl, ?_⟩
      have hf3 : (upd H2 lf (.lst ((nIs l).eraseIdx x))) fd = some (.lst (nIs f)) := by rw [upd_ne hlfd.symm]; exact hf2
      refine ⟨fd, nIs f, nI l[x], rfl, rfl, hf3, by rw [nIs_len, sizeLine_eq]; omega, ?_⟩
      refine ⟨l.eraseIdx x, f ++ [l[x]], _, rfl, ((st.trans st2).mut hlf).mut hfd0, RowAt.mut ra hfd0 (RowAt.mut ra hlf ra2), ?_, ?_, ?_, by rw [List.length_append, hfl]; rfl⟩
      · rw [upd_ne hlfd, upd_same, nIs_erase]
      · rw [upd_same]
        unfold nIs
        rw [List.map_append]
        rfl
      · rw [List.append_assoc]
        refine List.Perm.trans (List.Perm.append_left f ?_) pm
        exact erase_perm l x hx
    · rintro σ H' ⟨l, f, y, rfl, st, ra', hl, hf, pm, hfl⟩
      have hlen := pm.length_eq
      rw [List.length_append, List.length_range] at hlen
      have hl0 : l = [] := by
        cases l with
        | nil => rfl
        | cons a l => rw [List.length_cons] at hlen; omega
      subst hl0
      rw [List.append_nil] at pm
      refine ⟨_, rfl, .inl ⟨fd, nIs f, rfl, SqL.of hf, fun p hp => ?_⟩⟩
      have sp := same_new (o := .tup (nIs f)) hp
      exact q _ _ f pm (st.trans (.of sp)) (ra'.step sp) ⟨p, rfl, upd_same⟩
end
end Lt

set_option Elab.async false
set_option linter.all false
set_option maxRecDepth 100000
set_option maxHeartbeats 1000000
/-! k06: the law's helpers -/
namespace Lt
open PySem PySem.Spec PyProof.Rows L2
/-- a step: an input, a turn for no, a turn for yes -/
abbrev StepT := Nat × List Nat × List Nat
section
variable {P : Program} {w : World} {K : PySem.W.Frag} {mg : Str → Option Value} {base : Heap}
end
end Lt

set_option Elab.async false
set_option linter.all false
set_option maxRecDepth 100000
set_option maxHeartbeats 2000000
/-! rows.py: products -/
namespace Lt
open PySem PySem.Spec PyProof.Rows L2
section
variable {P : Program} {w : World} {K : PySem.W.Frag} {mg : Str → Option Value} {base : Heap}
/-- a step whose turns may be keys -/
def StK (H : Hp) (v : V) (s : StepT) : Prop := ∃ p x y, v = .ref p ∧ H p = some (.tup [nI s.1, x, y]) ∧ TK H x s.2.1 ∧ TK H y s.2.2
theorem StK.tm {H H' : Hp} {v : V} {s : StepT} (e : Tm H H') (h : StK H v s) : StK H' v s := let ⟨p, x, y, h1, h2, h3, h4⟩ := h; ⟨p, x, y, h1, e.1 _ _ h2, h3.tm e, h4.tm e⟩
end
end Lt

set_option Elab.async false
set_option linter.all false
set_option maxRecDepth 100000
set_option maxHeartbeats 2000000
/-! rows.py: worths, written, writes -/
namespace Lt
open PySem PySem.Spec PyProof.Rows L2
def dS (s : StepT) : PyData := .tuple [dN s.1, dT s.2.1, dT s.2.2]
theorem StK.rp {H : Hp} {v : V} {s : StepT} (h : StK H v s) : Rp H v (dS s) := by
  obtain ⟨p, x, y, rfl, hp, hx, hy⟩ := h
  exact .tup (.inl hp) (.cons (.int _) (.cons hx.tn.rp (.cons hy.tn.rp .nil)))
theorem StKs.rp {H : Hp} : ∀ {xs : List V} {ss : List StepT}, Paired (StK H) xs ss → RpAll H xs (ss.map dS)
  | _, _, .nil => .nil
  | _, _, .cons r t => .cons r.rp (StKs.rp t)
section
variable {P : Program} {w : World} {K : PySem.W.Frag} {mg : Str → Option Value} {base : Heap} {CL CM CT CN CR CK : Addr}
end
end Lt

set_option Elab.async false
set_option linter.all false
set_option maxRecDepth 100000
set_option maxHeartbeats 1000000
/-! locktexts.py: told_step, write_row -/
namespace Lt
open PySem PySem.Spec PyProof.Rows L2
section
variable {made : List (List Nat)} {n : Nat} {xs ws : List Str} {own j j2 e : Nat} {no yes : List Nat}
end
section
variable {P : Program} {w : World} {K : PySem.W.Frag} {mg : Str → Option Value} {base : Heap} {C CB CS CL CM CN CR : Addr}
end
end Lt

set_option Elab.async false
set_option linter.all false
set_option maxRecDepth 100000
set_option maxHeartbeats 1000000
/-! locktexts.py: read_row -/
namespace Lt
open PySem PySem.Spec PyProof.Rows L2 LmX
section
variable {P : Program} {w : World} {K : PySem.W.Frag} {mg : Str → Option Value} {base : Heap} {C CB CS CL CM CN : Addr}
end
end Lt

set_option Elab.async false
set_option linter.all false
set_option maxRecDepth 100000
set_option maxHeartbeats 2000000
/-! a lambda handed to a def, with defaults or not, among other arguments -/
namespace LmX
open PySem PySem.Spec PyProof.Rows L2 LamX NdefX
theorem cells_move {cl : List (Str × Addr)} {fr : List Str} {ws : List (Option V)} {h h' : Heap} {H H' : Hp} {fs : List Addr} (C : CellsAt cl fr ws h H) (un : Un fs [] H H' h h') : CellsAt cl fr ws h' H' := by
  have go : ∀ {c v}, H c = none → h.IsCell c v → h'.IsCell c v := fun {c v} n ⟨o, ho, hd⟩ => by
    obtain ⟨sl, q⟩ := un.any ho n (by simp)
    exact ⟨_, q, hd⟩
  refine ⟨C.len, fun y c e => ?_, C.inj, fun i y e => ?_⟩
  · obtain ⟨n, v, z⟩ := C.all y c e
    obtain ⟨o, ho, hd⟩ := id z
    exact ⟨un.free c o ho n (by simp), v, go n z⟩
  · obtain ⟨c, e1, q⟩ := C.has i y e
    refine ⟨c, e1, fun v hv => ?_⟩
    obtain ⟨u, r, z⟩ := q v hv
    exact ⟨u, r, go (C.all y c e1).1 z⟩
/-- a lambda's run, its captured cells as they stand -/
theorem lm_runC {X : Cx} {CX : CXT} {pins : List (Addr × Obj)} {s : Shared} {σ : L2.St} {H : Hp} {Q : VK} {E : XK} {k : Nat} {f : Addr} {F : NF} {e : Expr} {dV : Value} {N ps fr : List Str} {us : List Value} {vs : List V} {ws : List (Option V)} {tb : TE} (I : Inv X pins σ H s)
    (S : NScope N ps fr F.scope) (hf : H f = some (LmO f F e dV)) (hc : H F.c = some (CodeO F.c F.qual)) (hb : ∀ doc pm ctv, BindsTo s (lmFd F e dV doc pm ctv) ⟨[], []⟩ (ps.zip us)) (r : Vals vs us) (hl : vs.length = ps.length) (C : CellsAt F.cl fr ws s.heap H)
    (hr : Room (k + 1) X.A) (hx : PassesAt CX X σ E) (hbody : Room k (X.A.deeper (envF F f s.heap.objs.size)) → PE (ncx CX X.prog X.w X.K X.mg X.base N F f X.A X.stack s H E) e tb) (ht : tb (startF N vs ws) H Q) :
    PySem.W.FnAt f s.heap ∧ wpAny (model X.prog X.w) X.A (call (.ref f) []) (EP X pins σ Q) X.xe s := by
  obtain ⟨od, sl, doc, pm, ctv, ho⟩ := lmO_at I.hok hf
  refine ⟨⟨_, od, _, sl, ho⟩, ?_⟩
  have rc : codeAny (model X.prog X.w) X.A (.call (.ref f) ⟨[], []⟩) (CR CX X.stack X.prog X.w H s Q E) s := by
    refine PySem.W.kla_callFunE hr.depth ho rfl S.co S.gen rfl (codeO_at I.hok hc) (hb doc pm ctv _ _ _ _ ?_)
    refine wpAny_newFunctionEnv S.nocell (fun ⟨n, _⟩ hy => S.par n (List.of_mem_zip hy).1) (fun h₁ hns hsb => ⟨I.nolimit.fresh _ hsb, ?_⟩) S.kind
    show codeAny _ _ (.expr e (envF F f s.heap.objs.size)) _ _
    have kp : ∀ b o, s.heap.get? b = some o → h₁.get? b = some o := fun b o q => hsb.extBut b o (Nat.ne_of_lt (Heap.lt_size q)) (Heap.get?_push_of_some _ q)
    have J := inv_startN (CX := CX) (E := E) (f := f) (tk := s.toks + (ps.zip us).length) S hr.hd I.env0 hl r C hns kp
    refine PySem.W.kla_codeExpr (wpAny_mono ((hbody (hr.deeper _)).run [] _ _ H Q J ht) (fun v s' ⟨w', H', J', rv, q⟩ => ?_) fun e s' q => q)
    exact ⟨w', H', J'.os, J'.bare, J'.base, J'.hok, rv, q⟩
  refine wpAny_call (codeAny_mono rc fun o s' q => ?_)
  rcases o with e | fl
  · exact hx pins H s e s' I q
  · cases fl with
    | ret u => exact I.after q
    | next => exact q.elim
    | brk => exact q.elim
    | cont => exact q.elim
/-- x(a, ..), x a def to be proved at this very call: its arguments may be lambdas of the caller -/
theorem pe_fcall {X : Cx} {x : Str} {st : Stmt} {ps Ng : List Str} {k : Nat} {e : Expr} {es : List Expr} {ta : TA} {TT : List V → L2.St → Hp → VK → Prop} {p pos : Pos} (T : Lt.Top X.K X.mg x st ps) (Sg : FnScope Ng ps (defScope st)) (hr : Room (k + 1) X.A) (hg : Gl X x) (ha : PA X (e :: es) ta)
    (hG : ∀ (g : Addr) (cdg : Value) (pins : List (Addr × Obj)) (s : Shared) (σ : L2.St) (H : Hp) (vs : List V) (Q : VK), Inv X pins σ H s → Room k (X.A.deeper (envOfC x (defScope st) s.heap.objs.size g cdg)) → TT vs σ H Q →
      vs.length = ps.length ∧ ∃ t, PSs (cxOf C8.CX0 X.prog X.w X.K X.mg X.base Ng x (defScope st) g cdg X.A X.stack s H C8.E0).nox (defBody st) t ∧ t { nx := fun _ H' => Q .non H', rt := Q } (L2.start Ng vs) H)
    (hdb : (x == ("__debug__" : Str)) = false := by decide) (he : starEach (e :: es) X.env = (false, eval e X.env) :: starEach es X.env := by rfl) (hpl : (backTo pos (starEach es X.env)).any (·.1) = false := by rfl) :
    PE X (.Call (.Name x p) (e :: es) [] pos) (fun σ H Q => ta σ H fun vs H1 => TT vs σ H1 Q) := by
  obtain ⟨g, fd, hm, F, hb⟩ := T
  obtain ⟨oc, od, kV, doc, pm, an, cdv, ct, osl, rfl, lk, hcd⟩ := F.ex
  refine ⟨fun pins s σ H Q I h => ?_⟩
  refine wpAny_Call_Name_kw (ld_glob I hg hm ?_ hdb)
  refine PySem.W.callWith_K (h₀ := X.base) I.ok.mod.kin F.kp (thn (ha.run pos pins s σ H _ I h) fun us s1 ⟨vs, H1, I1, r, q⟩ => ⟨I1.kIn, ?_⟩) he hpl
  have hlen := (hG g cdv pins s1 σ H1 vs Q I1 (hr.deeper _) q).1
  have rc : codeAny (model X.prog X.w) X.A (.call (.ref g) ⟨us, []⟩) (CR C8.CX0 X.stack X.prog X.w H1 s1 Q C8.E0) s1 := by
    have hbb := hb s1 us I1.kIn (by rw [List.append_nil, ← r.length, hlen])
    rw [List.append_nil] at hbb
    refine run_ofS (N := Ng) (ps := ps) (us := us) (vs := vs) lk hcd Sg hr I1.env0 hbb r hlen fun hr' => ?_
    obtain ⟨_, t', ht', hq'⟩ := hG g cdv pins s1 σ H1 vs Q I1 hr' q
    exact ⟨t', ht'.nox, hq'⟩
  refine wpAny_call (codeAny_mono rc fun o s2 hq => ?_)
  cases o with
  | error e => exact (show False from hq).elim
  | ok fl =>
    cases fl with
    | ret u => exact I1.after hq
    | next => exact False.elim hq
    | brk => exact False.elim hq
    | cont => exact False.elim hq
end LmX

set_option Elab.async false
set_option linter.all false
set_option maxRecDepth 100000
set_option maxHeartbeats 2000000
/-! _law_said_session, with a lambda -/
namespace Lt
open PySem PySem.Spec PyProof.Rows L2 NdefX LamX LmX MaX
abbrev saidN : List Str := ["work", "e"]
theorem sc_law_said_session : FnScope saidN ["work"] (defScope s_law_said_session) := ⟨rfl, rfl, rfl, by decide +kernel, rfl, by decide +kernel, by decide +kernel⟩
def tsL (CB : Addr) (a : Addr) (cls : Value) (d : Option Addr) : TS := tRet (tTup (tCons (tXf a cls d CB "line" (tVar 1)) (tCons (tXf a cls d CB "place" (tVar 1)) tNil)))
def tsS (_ : Addr) (_ : Value) (_ : Option Addr) : TS := tRet (tC (.str "string"))
def clsW (CB CS : Addr) : List Cl := [(.ref CB, tsL CB), (.ref CS, tsS)]
/-- what the helper makes of an error -/
structure SaidK (CB CS : Addr) (Q : VK) (E : XK) : Prop where
  line : ∀ ln pl H, (∀ r H', Same H H' → TK H' r [ln, pl] → Q r H') → BadF2 CB "line" (nI ln) "place" (nI pl) H E
  str : ∀ H, (∀ H', Same H H' → Q (.str "string") H') → Bad0 CS H E
theorem saidK_of {K : PySem.W.Frag} {CB CS : Addr} {Q : VK} {D : Ends} {σ : L2.St} (hD : D.rt = Q) (hσ : ∀ a, (σ.set 1 (some (V.ref a)))[1]? = some (some (V.ref a))) (bb : PySem.W.exmOne K (.ref CB) (.ref CB) = some true) (sb : PySem.W.exmOne K (.ref CS) (.ref CB) = some false) (ss : PySem.W.exmOne K (.ref CS) (.ref CS) = some true) :
    SaidK CB CS Q (WE (wMA K 1 (fun _ _ _ _ => False) D (clsW CB CS)) σ) := by
  subst hD
  refine ⟨fun ln pl H q d H' s h => ⟨true, bb, fun _ a ha => ?_, fun z => (by cases z)⟩, fun H q H' s => ⟨false, sb, fun z => (by cases z), fun _ => ⟨true, ss, fun _ a ha => q H' s, fun z => (by cases z)⟩⟩⟩
  refine ⟨_, hσ a, rfl, rfl, d, _, nI ln, rfl, h, rfl, _, hσ a, rfl, rfl, d, _, nI pl, rfl, h, rfl, Nat.le_of_ble_eq_true rfl, fun tp htp => ?_⟩
  exact q _ _ (s.trans (same_new htp)) ⟨tp, rfl, upd_same⟩
/-- the helper's frame -/
abbrev saidX (X : Cx) (g : Addr) (cdg : Value) (s : Shared) (H : Hp) : Cx := (cxOf C8.CX0 X.prog X.w X.K X.mg X.base saidN "_law_said_session" (defScope s_law_said_session) g cdg X.A X.stack s H C8.E0).nox
section
variable {X : Cx} {CB CS : Addr}
theorem pe_said {le : Expr} {tl : TE} {p pos : Pos} {k : Nat} (T : Lt.Top X.K X.mg "_law_said_session" s_law_said_session ["work"]) (eB : ErrI2 X.prog X.w X.K X.mg X.base "BadLine" "line" "place" CB) (eS : Err0 X.K X.mg "BadString" CS) (ne : PySem.W.exmOne X.K (.ref CS) (.ref CB) = some false)
    (Rn : L2.St → XK → Addr → Hp → VK → Prop) (hr : Room (k + 1) X.A) (hg : Gl X "_law_said_session") (hl : PE X le tl)
    (hrun : ∀ (pins : List (Addr × Obj)) (s : Shared) (σ : L2.St) (H : Hp), Inv X pins σ H s → ∀ (g : Addr) (cdg : Value) (pn : List (Addr × Obj)) (xe : Value → Shared → Prop) (W : WX), Room k (saidX X g cdg s H).A → Takes ((saidX X g cdg s H).tr pn xe) W → ∀ (f : Addr) (pins2 : List (Addr × Obj)) (s2 : Shared) (σ2 : L2.St) (H2 : Hp) (Q2 : VK),
      Inv ((saidX X g cdg s H).tr pn xe) pins2 σ2 H2 s2 → Rn σ (WE W σ2) f H2 Q2 → PySem.W.FnAt f s2.heap ∧ wpAny (model X.prog X.w) (saidX X g cdg s H).A (call (.ref f) []) (EP ((saidX X g cdg s H).tr pn xe) pins2 σ2 Q2) xe s2)
    (he : starEach (le :: []) X.env = (false, eval le X.env) :: starEach [] X.env := by rfl) (hpl : (backTo pos (starEach [] X.env)).any (·.1) = false := by rfl) :
    PE X (.Call (.Name "_law_said_session" p) [le] [] pos) (fun σ H Q => tl σ H fun v H1 => ∃ f, [v] = [V.ref f] ∧ ∀ E, SaidK CB CS Q E → Rn σ E f H1 fun _ H' => Q .non H') := by
  refine pe_fcall (X := X) (TT := fun vs σ H Q => ∃ f, vs = [V.ref f] ∧ ∀ E, SaidK CB CS Q E → Rn σ E f H fun _ H' => Q .non H') (e := le) (es := []) (p := p) (pos := pos) T sc_law_said_session hr hg (pa_cons hl pa_nil he) (fun g cdg pins s σ H vs Q I hr2 tt => ?_) (by decide) he hpl
  · obtain ⟨f, rfl, h⟩ := tt
    refine ⟨rfl, _, pss_cons (ps_try_asM (n := "e") (i := 1) (l := clsW CB CS) (tb := fun W => tDrop (fun σ2 H2 Q2 => ∃ f, σ2[0]? = some (some (.ref f)) ∧ Rn σ (WE W σ2) f H2 Q2)) (Wo := fun _ _ _ _ => False) rfl rfl sc_law_said_session.nd rfl rfl L2.takes0
        (fun W pn xe tk _ => pss_one (ps_expr (pe_ap0 (fun f2 pins2 s2 σ2 H2 Q2 I2 h2 => hrun pins s σ H I g cdg pn xe W hr2 tk f2 pins2 s2 σ2 H2 Q2 I2 h2) rfl (Or.inl rfl))))
        (.cons ⟨rfl, by decide, Or.inl eB.g⟩ (fun a oe cls d pn hz hf => pss_one (ps_ret (by exact (pe_tup (pa_cons (pe_xf eB.xf eB.no1 hz hf (pv 1)) (pa_cons (pe_xf eB.xf eB.no2 hz hf (pv 1)) pa_nil))))))
        (.cons ⟨rfl, by decide, Or.inl eS.g⟩ (fun a oe cls d pn hz hf => pss_one (ps_ret pe_str)) .nil)))
      (pss_one (ps_ret pe_non)), ?_⟩
    exact ⟨f, rfl, h _ (saidK_of rfl (fun a => rfl) eB.exm ne eS.exm)⟩
abbrev LmA (cells : List (Str × Addr)) (lm : Expr) (dV : Value) (c' f : Addr) : HO := LmO f (lmF q_lam (lamP lm) (lamS lm) cells c') (lamB lm) dV
/-- a lambda without defaults, of a frame whose slots are σ -/
def Rn0 (cells : List (Str × Addr)) (lm : Expr) (N : List Str) (js : List Nat) (tb : XK → TE) : L2.St → XK → Addr → Hp → VK → Prop := fun σ E f H Q => ∃ c', H f = some (LmA cells lm .none c' f) ∧ H c' = some (CodeO c' q_lam) ∧ tb E (startF N [] (js.map (slotAt σ))) H Q
/-- .. with the default 0 -/
def Rn1 (cells : List (Str × Addr)) (lm : Expr) (N : List Str) (js : List Nat) (tb : XK → TE) : L2.St → XK → Addr → Hp → VK → Prop := fun σ E f H Q => ∃ c' p, H f = some (LmA cells lm (.ref p) c' f) ∧ H p = some (.tup [V.int 0]) ∧ H c' = some (CodeO c' q_lam) ∧ tb E (startF N [V.int 0] (js.map (slotAt σ))) H Q
theorem run0 {lm : Expr} {N fr : List Str} {js : List Nat} {tb : XK → TE} {k : Nat} (S : NScope N [] fr (lamS lm)) (lb : ndefB X.env.scope (lamS lm) fr = true) (hjs : js.map (fun j => X.N[j]?) = fr.map some) (hnd : ∀ c' doc pm ctv s, BindsTo s (lmFd (lmF q_lam (lamP lm) (lamS lm) X.env.cells c') (lamB lm) .none doc pm ctv) ⟨[], []⟩ [])
    (hbody : ∀ (c' : Addr) (A : Around) (st : List Env) (f : Addr) (s : Shared) (H : Hp) (E : XK), Room k (A.deeper (envF (lmF q_lam (lamP lm) (lamS lm) X.env.cells c') f s.heap.objs.size)) → PE (ncx (L2.CX X.prog X.w) X.prog X.w X.K X.mg X.base N (lmF q_lam (lamP lm) (lamS lm) X.env.cells c') f A st s H E) (lamB lm) (tb E))
    (pins : List (Addr × Obj)) (s : Shared) (σ : L2.St) (H : Hp) (I : Inv X pins σ H s) (g : Addr) (cdg : Value) (pn : List (Addr × Obj)) (xe : Value → Shared → Prop) (W : WX) (hr : Room (k + 1) (saidX X g cdg s H).A) (tk : Takes ((saidX X g cdg s H).tr pn xe) W) (f : Addr) (pins2 : List (Addr × Obj)) (s2 : Shared) (σ2 : L2.St) (H2 : Hp) (Q2 : VK)
    (I2 : Inv ((saidX X g cdg s H).tr pn xe) pins2 σ2 H2 s2) (h : Rn0 X.env.cells lm N js tb σ (WE W σ2) f H2 Q2) : PySem.W.FnAt f s2.heap ∧ wpAny (model X.prog X.w) (saidX X g cdg s H).A (call (.ref f) []) (EP ((saidX X g cdg s H).tr pn xe) pins2 σ2 Q2) xe s2 := by
  obtain ⟨c', h1, h2, h3⟩ := h
  have C := cells_of I (Caps.made (scope := lamS lm) (fr := fr) (js := js) I.ok (ndef_free lb) (ndef_fr lb) hjs)
  exact lm_runC (X := (saidX X g cdg s H).tr pn xe) (k := k) (us := []) (ps := []) (ws := js.map (slotAt σ)) I2 S h1 h2 (fun doc pm ctv => hnd _ doc pm ctv s2) .nil rfl (cells_move C I2.base) hr (passAt tk σ2) (fun hr2 => hbody _ _ _ _ _ _ _ hr2) h3
theorem run1 {lm : Expr} {x : Str} {N fr : List Str} {js : List Nat} {tb : XK → TE} {k : Nat} (S : NScope N [x] fr (lamS lm)) (lb : ndefB X.env.scope (lamS lm) fr = true) (hjs : js.map (fun j => X.N[j]?) = fr.map some)
    (hnd : ∀ c' doc pm ctv s p u o n, s.heap.get? p = some o → o.data = .seq #[u] n → BindsTo s (lmFd (lmF q_lam (lamP lm) (lamS lm) X.env.cells c') (lamB lm) (.ref p) doc pm ctv) ⟨[], []⟩ [(x, u)])
    (hbody : ∀ (c' : Addr) (A : Around) (st : List Env) (f : Addr) (s : Shared) (H : Hp) (E : XK), Room k (A.deeper (envF (lmF q_lam (lamP lm) (lamS lm) X.env.cells c') f s.heap.objs.size)) → PE (ncx (L2.CX X.prog X.w) X.prog X.w X.K X.mg X.base N (lmF q_lam (lamP lm) (lamS lm) X.env.cells c') f A st s H E) (lamB lm) (tb E))
    (pins : List (Addr × Obj)) (s : Shared) (σ : L2.St) (H : Hp) (I : Inv X pins σ H s) (g : Addr) (cdg : Value) (pn : List (Addr × Obj)) (xe : Value → Shared → Prop) (W : WX) (hr : Room (k + 1) (saidX X g cdg s H).A) (tk : Takes ((saidX X g cdg s H).tr pn xe) W) (f : Addr) (pins2 : List (Addr × Obj)) (s2 : Shared) (σ2 : L2.St) (H2 : Hp) (Q2 : VK)
    (I2 : Inv ((saidX X g cdg s H).tr pn xe) pins2 σ2 H2 s2) (h : Rn1 X.env.cells lm N js tb σ (WE W σ2) f H2 Q2) : PySem.W.FnAt f s2.heap ∧ wpAny (model X.prog X.w) (saidX X g cdg s H).A (call (.ref f) []) (EP ((saidX X g cdg s H).tr pn xe) pins2 σ2 Q2) xe s2 := by
  obtain ⟨c', p, h1, hp, h2, h3⟩ := h
  have C := cells_of I (Caps.made (scope := lamS lm) (fr := fr) (js := js) I.ok (ndef_free lb) (ndef_fr lb) hjs)
  obtain ⟨u, o, n, r, ho, hd⟩ := dflt_of I2 hp
  exact lm_runC (X := (saidX X g cdg s H).tr pn xe) (k := k) (us := [u]) (ps := [x]) (ws := js.map (slotAt σ)) I2 S h1 h2 (fun doc pm ctv => hnd _ doc pm ctv s2 p u o n ho hd) (.cons r .nil) rfl (cells_move C I2.base) hr (passAt tk σ2) (fun hr2 => hbody _ _ _ _ _ _ _ hr2) h3
end
end Lt

set_option Elab.async false
set_option linter.all false
set_option maxRecDepth 100000
set_option maxHeartbeats 1000000
/-! texts and their words -/
namespace Lt
open PySem PySem.Spec PyProof.Rows L2
open TL (tl spl joinL pre)
theorem e32 : tl sSp = [32] := by decide +kernel
theorem e10 : tl sNl = [10] := by decide +kernel
theorem spl_sum (S : List Nat) : ∀ (l : List Nat) (k : Nat) (acc : List Nat), ((spl S k acc l).map (·.length)).sum ≤ acc.length + l.length
  | [], k, acc => by
    rw [TL.spl_nil]
    exact Nat.le_refl _
  | d :: r, 0, acc => by
    show ((if pre S (d :: r) = true then acc :: spl S (S.length - 1) [] r else spl S 0 (acc ++ [d]) r).map (·.length)).sum ≤ acc.length + (r.length + 1)
    split
    · have := spl_sum S r (S.length - 1) []
      rw [List.map_cons, List.sum_cons]
      rw [List.length_nil] at this
      omega
    · have := spl_sum S r 0 (acc ++ [d])
      rw [List.length_append] at this
      have e : [d].length = 1 := rfl
      omega
  | d :: r, k + 1, acc => by
    have := spl_sum S r k acc
    show ((spl S k acc r).map (·.length)).sum ≤ acc.length + (r.length + 1)
    omega
theorem splS_tl (x y : Str) : (splS x y).map tl = spl (tl y) 0 [] (tl x) := by
  unfold splS
  rw [List.map_map]
  exact List.map_id _
theorem splS_sum (x y : Str) : ((splS x y).map (·.length)).sum ≤ x.length := by
  have := spl_sum (tl y) (tl x) 0 []
  rw [← splS_tl, List.map_map, List.length_nil, Nat.zero_add, ← TL.len_tl] at this
  refine Nat.le_trans (Nat.le_of_eq ?_) this
  congr 1
theorem joinS_sp {ps : List Str} (hn : ps ≠ []) (h : ∀ p ∈ ps, 32 ∉ tl p) : splS (Txt.join sSp ps) sSp = ps := by
  rw [← split_sp]
  exact TL.split_join e32 (by decide +kernel) hn h
theorem joinS_nl {ps : List Str} (hn : ps ≠ []) (h : ∀ p ∈ ps, 10 ∉ tl p) : splS (Txt.join sNl ps) sNl = ps := by
  rw [← split_nl]
  exact TL.split_join e10 (by decide +kernel) hn h
/-! ### words -/
def neW (p : List Nat) : Bool := (p.length : Int) != 0
def wd (l : List Nat) : List (List Nat) := (spl [32] 0 [] l).filter neW
theorem wordsIn_wd (x : Str) : (wordsIn x).map tl = wd (tl x) := by
  unfold wordsIn wd
  rw [← e32, ← splS_tl, List.filter_map]
  congr 1
theorem wd_any {w : List Nat} (r : List Nat) (h : 32 ∉ w) : wd (w ++ 32 :: r) = [w].filter neW ++ wd r := by
  unfold wd
  have e := TL.spl_part1 (s := 32) (S := []) (p := w) (rest := r) (acc := []) h
  rw [show w ++ 32 :: r = w ++ ([32] ++ r) from rfl, e, List.nil_append]
  show (([w] ++ spl [32] 0 [] r).filter neW) = _
  rw [List.filter_append]
theorem wd_last {w : List Nat} (h : 32 ∉ w) : wd w = [w].filter neW := by
  unfold wd
  rw [TL.spl_last1 h, List.nil_append]
theorem wd_nil : wd [] = [] := rfl
theorem filter_cons_app (p : List Nat) (L : List (List Nat)) : (p :: L).filter neW = [p].filter neW ++ L.filter neW := by
  rw [show p :: L = [p] ++ L from rfl, List.filter_append]
theorem wd_join : ∀ {ps : List (List Nat)}, (∀ p ∈ ps, 32 ∉ p) → wd (joinL [32] ps) = ps.filter neW
  | [], _ => wd_nil
  | [p], h => wd_last (h p (List.mem_cons_self ..))
  | p :: q :: r, h => by
    show wd (p ++ ([32] ++ joinL [32] (q :: r))) = _
    rw [show p ++ ([32] ++ joinL [32] (q :: r)) = p ++ 32 :: joinL [32] (q :: r) from rfl, wd_any _ (h p (List.mem_cons_self ..)), wd_join fun z hz => h z (List.mem_cons_of_mem _ hz)]
    exact (filter_cons_app p (q :: r)).symm
/-- words, no sign of which parts them -/
def Wo (w : Str) : Prop := tl w ≠ [] ∧ 32 ∉ tl w ∧ 10 ∉ tl w
theorem Wo.ne {w : Str} (h : Wo w) : neW (tl w) = true := by
  show (((tl w).length : Int) != 0) = true
  have := h.1
  cases e : tl w with
  | nil => exact absurd e this
  | cons a l =>
    refine bne_iff_ne.mpr ?_
    rw [List.length_cons]
    omega
theorem wordsIn_join {ws : List Str} (h : ∀ w ∈ ws, Wo w) : wordsIn (Txt.join sSp ws) = ws := by
  refine TL.map_tl_inj ?_
  rw [wordsIn_wd, TL.join_eq, TL.tl_join, e32, wd_join fun p hp => ?_]
  · refine List.filter_eq_self.mpr fun p hp => ?_
    obtain ⟨w, hw, rfl⟩ := List.mem_map.mp hp
    exact (h w hw).ne
  · obtain ⟨w, hw, rfl⟩ := List.mem_map.mp hp
    exact (h w hw).2.1
theorem mem_joinL {c : Nat} {S : List Nat} : ∀ {L : List (List Nat)}, c ∈ joinL S L → c ∈ S ∨ ∃ p ∈ L, c ∈ p
  | [], h => nomatch h
  | [p], h => .inr ⟨p, List.mem_cons_self .., h⟩
  | p :: q :: r, h => by
    have h : c ∈ p ++ (S ++ joinL S (q :: r)) := h
    rcases List.mem_append.mp h with h | h
    · exact .inr ⟨p, List.mem_cons_self .., h⟩
    · rcases List.mem_append.mp h with h | h
      · exact .inl h
      · rcases mem_joinL h with h | ⟨z, hz, h⟩
        · exact .inl h
        · exact .inr ⟨z, List.mem_cons_of_mem _ hz, h⟩
theorem join_free {c : Nat} {y : Str} {xs : List Str} (hy : c ∉ tl y) (h : ∀ x ∈ xs, c ∉ tl x) : c ∉ tl (Txt.join y xs) := fun z => by
  rw [TL.join_eq, TL.tl_join] at z
  rcases mem_joinL z with z | ⟨p, hp, z⟩
  · exact hy z
  · obtain ⟨x, hx, rfl⟩ := List.mem_map.mp hp
    exact h x hx z
abbrev s3 : Str := "   "
/-- what a loose text keeps -/
def SameW (x y : Str) : Prop := (linesIn x).filter (fun l => !l.isEmpty) = (linesIn y).filter (fun l => !l.isEmpty)
theorem numWs_snd (L : List (List Str)) : (numWs L).map (·.2) = L.filter fun l => !l.isEmpty := by
  unfold numWs
  rw [List.map_map]
  exact filt_range [] (fun l : List Str => !l.isEmpty) L
end Lt

set_option Elab.async false
set_option linter.all false
set_option maxRecDepth 100000
set_option maxHeartbeats 1000000
/-! the methods of Dial -/
namespace Lt
open PySem PySem.Spec PyProof.Rows L2
structure DialT (K : PySem.W.Frag) (mg : Str → Option Value) (C : Addr) : Prop where
  cl : Cls K C
  nM : NoAttr K C "_made"
  nS : NoAttr K C "_stood"
  init : InitF K mg C "Dial" (mDial 0) ["self", "lock"]
  turn : MethF K C "turn" "Dial.turn" (mDial 1) ["self", "turn"]
  step : MethF K C "step" "Dial.step" (mDial 2) ["self", "step", "bits"]
  undo : MethF K C "undo" "Dial.undo" (mDial 3) ["self"]
  home : MethF K C "home" "Dial.home" (mDial 4) ["self"]
  stands : PropF K C "stands" "Dial.stands" (mDial 5)
  done : PropF K C "done" "Dial.done" (mDial 6)
theorem putF_dial (m l : Addr) : putF "_stood" (.ref l) (putF "_made" (.ref m) []) = dF m l := by
  show (if ("_made" : Str) = "_stood" then _ else (("_made" : Str), V.ref m) :: putF "_stood" (.ref l) []) = dF m l
  rw [if_neg (by decide +kernel)]
  rfl
/-- a lock of which a dial was made -/
structure Lk (ls : List (List Nat)) (n : Nat) : Prop where
  gl : GL ls n
  few : Few ls n 63
theorem Lk.isP {ls : List (List Nat)} {n : Nat} (h : Lk ls n) {t : List Nat} (m : Mk ls n t) : IsP n t := m.isP h.gl.2.2.2.2
theorem Lk.is {ls : List (List Nat)} {n : Nat} (h : Lk ls n) (t : List Nat) : (isTurnD (LL ls n) (dT t) = true ↔ Mk ls n t) := by
  rw [isTurnD_dT, decide_eq_true_iff]
  exact LL_mem h.few (by omega) t
theorem lock_head {H : Hp} {v : V} {ls : List (List Nat)} {n : Nat} (h : TT H v ls) (hg : GL ls n) : ∃ a xs b t, v = .ref a ∧ H a = some (.tup xs) ∧ atI xs 0 = some (.ref b) ∧ RT H b (nIs t) ∧ t.length = n := by
  obtain ⟨a, xs, b, rfl, ha, _, h0, t, hb, ht⟩ := h.head hg
  exact ⟨a, xs, b, t, rfl, ha, h0, hb, ht⟩
section
variable {P : Program} {w : World} {K : PySem.W.Frag} {mg : Str → Option Value} {base : Heap} {C CL CM CT CR CN : Addr}
def spDInit (C : Addr) : Sp := fun vs H Q _ => ∃ (p dx : Addr) (v : V) (ls : List (List Nat)) (n : Nat), vs = [.ref p, v] ∧ H p = some (.ins C dx []) ∧ TT H v ls ∧ Lk ls n ∧
  ∀ H' m l, StepR p H H' → H m = none → H l = none → DialAt H' C p m l ls n [List.range n] → Q .non H'
theorem sc_DInit : FnScope ["self", "lock"] ["self", "lock"] (defScope (mDial 0)) := ⟨rfl, rfl, rfl, by decide +kernel, rfl, by decide +kernel, by decide +kernel⟩
theorem has_DInit (T : DialT K mg C) (B : Bi mg) (hM : Has P w K mg base (L2.CX P w) 5 "made_words" ["lock"] (spMade CL CM)) (hS : Has P w K mg base CX0 1 "still_of" ["size"] spStill) : HasI P w K mg base (L2.CX P w) 6 C "Dial" ["self", "lock"] (spDInit C) := by
  refine T.init.okX sc_DInit (fun vs H Q E h => ?_) (fun f cdv A outer s H vs Q E hr h => ?_)
  · obtain ⟨p, dx, v, ls, n, rfl, _⟩ := h
    rfl
  · obtain ⟨p, dx, v, ls, n, rfl, hp, tt, lk, q⟩ := h
    have hr1 : Room 1 _ := hr.mono (by decide)
    refine ⟨_, pss_cons (ps_fld (pv 0) (pe_hasL hM hr (by rfl) (pa_cons (pv 1) pa_nil)) rfl)
      (pss_one (ps_fld (pv 0) (pe_lst (pa_cons (pe_has hS hr1 (by rfl) (pa_cons (pe_callB call_len_seq (by rfl) B.len PySem.boot_len (pa_cons (pe_ix ix_tup (pv 1) pe_int (fun _ _ => rfl)) pa_nil)) pa_nil)) pa_nil)) rfl)), ?_⟩
    have g : Good H v ls n := ⟨tt, lk.gl, lk.few⟩
    refine ⟨_, rfl, v, rfl, lockIn_good tt lk.gl lk.few (by omega) fun m H1 L s1 hm hw hL _ => ?_⟩
    have hL := g.wd hL
    subst hL
    have hp1 := s1 _ _ hp
    refine ⟨_, rfl, p, C, dx, [], rfl, hp1, T.cl, T.nM, by show 0 < 1000; decide, ?_⟩
    have t1 : Tm H1 (upd H1 p (.ins C dx (putF "_made" (.ref m) []))) := .mut hp1 (fun _ z => nomatch z) fun _ _ z => nomatch z
    obtain ⟨a, xs, b, t, rfl, ha, h0, hb, ht⟩ := lock_head (tt.tm ((Tm.of s1).trans t1)) lk.gl
    have hn := lk.gl.2.2.2.1
    refine ⟨_, rfl, a, xs, 0, .ref b, rfl, rfl, SqT.of ha, h0, b, _, rfl, .inr hb.sq, n, by rw [nIs_len, ht]; rfl, by omega, fun st H2 s2 hst => ?_⟩
    refine ⟨by show 1 ≤ sizeLine; decide, fun l hl => ?_⟩
    have s3 := same_new (o := .lst [st]) hl
    have hp3 := (s2.trans s3) _ _ (upd_same (H := H1) (a := p) (o := HO.ins C dx (putF "_made" (.ref m) [])))
    refine ⟨_, rfl, p, C, dx, _, rfl, hp3, T.cl, T.nS, by show 1 < 1000; decide, ?_⟩
    rw [putF_dial]
    have hmp : m ≠ p := (ne_of_none hp hm).symm
    obtain ⟨kvs, hk1, hk2⟩ := id hw
    have hk3 := (s2.trans s3) _ _ ((upd_ne hmp).trans hk1)
    have hlp : l ≠ p := (ne_of_none (s2 _ _ (upd_same (H := H1) (a := p) (o := HO.ins C dx (putF "_made" (.ref m) [])))) hl).symm
    have hln : H l = none := by
      cases e : H l with
      | none => rfl
      | some o =>
        have := s2 _ _ ((upd_ne (o := HO.ins C dx (putF "_made" (.ref m) [])) hlp).trans (s1 _ _ e))
        rw [hl] at this
        cases this
    have t4 : Tm (upd H2 l (.lst [st])) (upd (upd H2 l (.lst [st])) p (.ins C dx (dF m l))) := .mut hp3 (fun _ z => nomatch z) fun _ _ z => nomatch z
    refine q _ m l ((((StepR.of s1).trans (StepR.put p _ _)).trans (.of (s2.trans s3))).trans (StepR.put p _ _)) hm hln ⟨⟨dx, upd_same⟩, ?_, ⟨[st], (upd_ne hlp).trans upd_same, ?_⟩, fun t ht => ?_, by simp⟩
    · exact hw.tm (t1.trans ((Tm.of (s2.trans s3)).trans t4)) ((upd_ne hmp).trans (hk3.trans hk1.symm))
    · exact .cons (hst.tn.tm ((Tm.of s3).trans t4)) .nil
    · rw [List.mem_singleton.mp ht]
      exact .still n
/-! ### turn -/
/-! ### undo, home, stands, done -/
end
end Lt

set_option Elab.async false
set_option linter.all false
set_option maxRecDepth 100000
set_option maxHeartbeats 1000000
/-! Dial.step -/
namespace Lt
open PySem PySem.Spec PyProof.Rows L2
section
variable {P : Program} {w : World} {K : PySem.W.Frag} {mg : Str → Option Value} {base : Heap} {C CT CR CN : Addr}
end
end Lt

set_option Elab.async false
set_option linter.all false
set_option maxRecDepth 100000
set_option maxHeartbeats 1000000
/-! desks.py: a desk that is told a line it has no answer to -/
namespace Lt
open PySem PySem.Spec PyProof.Rows L2
/-- a dict of the module's top, and texts that are none of its keys -/
def Kdn (K : PySem.W.Frag) (w : World) (mg : Str → Option Value) (x : Str) (no : List Str) : Prop := ∃ d es n, mg x = some (.ref d) ∧ KDict K w d es n ∧ ∀ z ∈ no, PySem.W.nsIn K d z = some none
abbrev four4 : List Str := ["turn", "all", "write", "made"]
/-- words that no desk has an answer to -/
def unkW (no ws : List Str) : Bool := ws.isEmpty || (!decide (ws.headD "" ∈ four4) && (decide (2 ≤ ws.length) || decide (ws.headD "" ∈ no)))
section
variable {P : Program} {w : World} {K : PySem.W.Frag} {mg : Str → Option Value} {base : Heap} {C CD CB CS CL CM : Addr} {no : List Str}
def spKnownW (no : List Str) : Sp := fun vs H Q _ => ∃ (wa : Addr) (ws : List Str), vs = [.ref wa] ∧ H wa = some (.lst (ws.map V.str)) ∧ unkW no ws = true ∧ ∀ H', Same H H' → Q (.bl false) H'
theorem sc_is_known : FnScope ["words"] ["words"] (defScope s_is_known) := ⟨rfl, rfl, rfl, by decide +kernel, rfl, by decide +kernel, by decide +kernel⟩
theorem has_is_known (T : Top K mg "is_known" s_is_known ["words"]) (B : Bi mg) (D1 : Kdn K w mg "LOCK_ANSWERS" no) (D2 : Kdn K w mg "DIAL_ANSWERS" no) : Has P w K mg base CX0 1 "is_known" ["words"] (spKnownW no) := by
  obtain ⟨d1, es1, n1, g1, k1, z1⟩ := D1
  obtain ⟨d2, es2, n2, g2, k2, z2⟩ := D2
  refine T.ok sc_is_known (fun vs H Q E h => ?_) (fun f cdv A outer s H vs Q E hr h => ?_)
  · obtain ⟨wa, ws, rfl, _⟩ := h
    rfl
  · obtain ⟨wa, ws, rfl, hw, hu, q⟩ := h
    refine ⟨_, pss_cons (ps_if (PW.pt (pw_and (pt_cmpR op_eq (pe_callB call_len_seq (by rfl) B.len PySem.boot_len (pa_cons (pv 0) pa_nil)) pe_int (nomark _)) (pw_and1 (PW.pt (pw_or (pt_cmpR (op_in_kd k1) (pe_ix ix_list (pv 0) pe_int (fun _ _ => rfl)) (pe_gc2 (v := .ref d1) (by rfl) ⟨_, g1, rfl⟩) (by rfl)) (pw_or1 (pt_cmpR (op_in_kd k2) (pe_ix ix_list (pv 0) pe_int (fun _ _ => rfl)) (pe_gc2 (v := .ref d2) (by rfl) ⟨_, g2, rfl⟩) (by rfl)))))))) (pss_one (ps_ret pe_bl)) pss_nil)
      (pss_one (ps_ret (pe_andT (by exact (pe_cmpR op_gt (pe_callB call_len_seq (by rfl) B.len PySem.boot_len (pa_cons (pv 0) pa_nil)) pe_int (nomark _))) (pe_one (pe_cmpR op_in_seq (pe_ix ix_list (pv 0) pe_int (fun _ _ => rfl)) (pe_tup (pa_cons pe_str (pa_cons pe_str (pa_cons pe_str (pa_cons pe_str pa_nil))))) (by rfl)))))), ?_⟩
    refine ⟨_, rfl, wa, _, rfl, .inl (SqL.of hw), rfl, decide (ws.length = 1), ?_, ?_⟩
    · rw [List.length_map]
      exact congrArg V.bl (decide_eq_decide.mpr ⟨fun h => by injection h with h; omega, fun h => by rw [h]; rfl⟩)
    match ws, hu with
    | [], _ =>
      refine iteF (iteF ⟨_, rfl, wa, _, rfl, .inl (SqL.of hw), 0, 0, rfl, rfl, false, rfl, ?_⟩)
      exact q _ (Same.refl _)
    | [z], hu =>
      have hz : z ∉ four4 ∧ z ∈ no := by
        have h : (!decide (z ∈ four4) && (decide (2 ≤ 1) || decide (z ∈ no))) = true := hu
        rw [Bool.and_eq_true, decide_eq_false (by omega : ¬ 2 ≤ 1), Bool.false_or] at h
        exact ⟨of_decide_eq_false (by cases e : decide (z ∈ four4) with | false => rfl | true => rw [e] at h; cases h.1), of_decide_eq_true h.2⟩
      refine iteT ⟨_, rfl, wa, _, 0, .str z, rfl, rfl, SqL.of hw, rfl, z, none, rfl, rfl, z1 z hz.2, false, rfl, iteF ?_⟩
      refine ⟨_, rfl, wa, _, 0, .str z, rfl, rfl, SqL.of hw, rfl, z, none, rfl, rfl, z2 z hz.2, false, rfl, iteF ?_⟩
      refine ⟨_, rfl, wa, _, rfl, .inl (SqL.of hw), 1, 0, rfl, rfl, true, rfl, ?_⟩
      refine iteT ⟨_, rfl, wa, _, 0, .str z, rfl, rfl, SqL.of hw, rfl, Nat.le_of_ble_eq_true rfl, fun tp htp => ?_⟩
      refine ⟨tp, four4.map V.str, rfl, .inr (SqT.of upd_same), rfl, flat_strs four4, ?_⟩
      rw [if_neg (by decide), inV_strs, decide_eq_false hz.1]
      exact q _ (same_new htp)
    | a :: b :: l, hu =>
      have hz : a ∉ four4 := by
        have h : (!decide (a ∈ four4) && (decide (2 ≤ l.length + 1 + 1) || decide (a ∈ no))) = true := hu
        rw [Bool.and_eq_true] at h
        exact of_decide_eq_false (by cases e : decide (a ∈ four4) with | false => rfl | true => rw [e] at h; cases h.1)
      rw [show decide ((a :: b :: l).length = 1) = false from decide_eq_false (by rw [List.length_cons, List.length_cons]; omega)]
      refine iteF (iteF ⟨_, rfl, wa, _, rfl, .inl (SqL.of hw), _, 0, rfl, rfl, true, ?_, ?_⟩)
      · show true = decide (((0 : Int)) < (((a :: b :: l).map V.str).length : Nat))
        rw [decide_eq_true]
        rw [List.length_map, List.length_cons]
        omega
      refine iteT ⟨_, rfl, wa, _, 0, .str a, rfl, rfl, SqL.of hw, by exact atI_nat (j := 0) rfl, Nat.le_of_ble_eq_true rfl, fun tp htp => ?_⟩
      refine ⟨tp, four4.map V.str, rfl, .inr (SqT.of upd_same), rfl, flat_strs four4, ?_⟩
      rw [if_neg (by decide), inV_strs, decide_eq_false hz]
      exact q _ (same_new htp)
/-! ### the desk -/
abbrev dkF (a b : V) : List (Str × V) := [("_lock", a), ("_dial", b)]
theorem dkF_put1 (a b c : V) : putF "_dial" c (dkF a b) = dkF a c := by
  show (if ("_lock" : Str) = "_dial" then _ else (("_lock" : Str), a) :: (if ("_dial" : Str) = "_dial" then _ else _)) = _
  rw [if_neg (by decide +kernel), if_pos rfl]
theorem dkF_put0 (a b c : V) : putF "_lock" c (dkF a b) = dkF c b := by
  show (if ("_lock" : Str) = "_lock" then _ else _) = _
  rw [if_pos rfl]
theorem dkF_make : putF "_dial" .non (putF "_lock" .non []) = dkF .non .non := by
  show (if ("_lock" : Str) = "_dial" then _ else (("_lock" : Str), V.non) :: [("_dial", .non)]) = _
  rw [if_neg (by decide +kernel)]
structure DeskT (K : PySem.W.Frag) (mg : Str → Option Value) (C : Addr) : Prop where
  cl : Cls K C
  nL : NoAttr K C "_lock"
  nD : NoAttr K C "_dial"
  init : InitF K mg C "Desk" m_Desk_init ["self"]
  take : MethF K C "take_lock" "Desk.take_lock" m_Desk_take_lock ["self", "text"]
  say : MethF K C "say" "Desk.say" m_Desk_say ["self", "line"]
def spDkInit (C : Addr) : Sp := fun vs H Q _ => ∃ p dx : Addr, vs = [.ref p] ∧ H p = some (.ins C dx []) ∧ ∀ H', StepR p H H' → H' p = some (.ins C dx (dkF .non .non)) → Q .non H'
theorem sc_DkInit : FnScope ["self"] ["self"] (defScope m_Desk_init) := ⟨rfl, rfl, rfl, by decide +kernel, rfl, by decide +kernel, by decide +kernel⟩
theorem has_DkInit (T : DeskT K mg C) : HasI P w K mg base (L2.CX P w) 1 C "Desk" ["self"] (spDkInit C) := by
  refine T.init.okX sc_DkInit (fun vs H Q E h => ?_) (fun f cdv A outer s H vs Q E hr h => ?_)
  · obtain ⟨p, dx, rfl, _⟩ := h
    rfl
  · obtain ⟨p, dx, rfl, hp, q⟩ := h
    refine ⟨_, pss_cons (ps_fld (pv 0) pe_non rfl) (pss_one (ps_fld (pv 0) pe_non rfl)), ?_⟩
    refine ⟨_, rfl, p, C, dx, [], rfl, hp, T.cl, T.nL, by show 0 < 1000; decide, ?_⟩
    refine ⟨_, rfl, p, C, dx, _, rfl, upd_same, T.cl, T.nD, by show 1 < 1000; decide, ?_⟩
    refine q _ ((StepR.put _ _ _).trans (StepR.put _ _ _)) ?_
    rw [upd_same]
    exact congrArg (fun z => some (HO.ins C dx z)) dkF_make
def spDkTake (C : Addr) : Sp := fun vs H Q _ => ∃ (p dx : Addr) (a b : V) (x : Str) (ls : List (List Nat)) (n : Nat), vs = [.ref p, .str x] ∧ H p = some (.ins C dx (dkF a b)) ∧ x.length ≤ 80000 ∧ lockOf x = .ok ls ∧ Lk ls n ∧ ∀ u v H', StepR p H H' → H' p = some (.ins C dx (dkF u v)) → Q .non H'
theorem sc_DkTake : FnScope ["self", "text", "lock"] ["self", "text"] (defScope m_Desk_take_lock) := ⟨rfl, rfl, rfl, by decide +kernel, rfl, by decide +kernel, by decide +kernel⟩
theorem has_DkTake (T : DeskT K mg C) (hR : Has P w K mg base (L2.CX P w) 5 "read_lock" ["text"] (spReadLock CB CS)) (hI : HasI P w K mg base (L2.CX P w) 6 CD "Dial" ["self", "lock"] (spDInit CD)) : HasM P w K mg base (L2.CX P w) 8 C "take_lock" ["self", "text"] (spDkTake C) := by
  refine T.take.okX sc_DkTake (fun vs H Q E h => ?_) (fun f cdv A outer s H vs Q E hr h => ?_)
  · obtain ⟨p, dx, a, b, x, ls, n, rfl, _⟩ := h
    rfl
  · obtain ⟨p, dx, a, b, x, ls, n, rfl, hp, hx, hok, lk, q⟩ := h
    refine ⟨_, pss_cons (ps_set (i := 2) sc_DkTake.nd rfl (Or.inl rfl) (pe_hasL hR (hr.mono (by decide)) (by rfl) (pa_cons (pv 1) pa_nil)))
      (pss_cons (ps_fld (pv 0) (pe_hasI hI hr (by rfl) passL (pa_cons (pv 2) pa_nil)) rfl)
      (pss_one (ps_fld (pv 0) (pv 2) rfl))), ?_⟩
    refine ⟨_, rfl, .str x, rfl, .str x, .str _, (fun z => nomatch z), fun y hy => ?_⟩
    injection hy with hy
    subst hy
    refine ⟨rfl, hx, fun e he => ?_, fun ts hs rv H1 s1 tv => ?_⟩
    · have := he.symm.trans hok
      cases this
    have hs : (Except.ok ts : Except (Nat × Nat) (List (List Nat))) = .ok ls := hs.symm.trans hok
    injection hs with hs
    subst hs
    refine ⟨_, rfl, fun px dxx nx ndx nex => ⟨px, dxx, rv, ts, n, rfl, upd_same, ?_, lk, fun H5 m l st5 hm5 hl5 d5 => ⟨rfl, ?_⟩⟩⟩
    · exact tv.tt.tm ((Tm.new ndx).trans (Tm.new ((upd_ne nex.symm).trans nx)))
    have s15 : Same H1 H5 := fun b o h => st5 b o (ne_of_none h nx) ((upd_ne (ne_of_none h nx)).trans ((upd_ne (ne_of_none h ndx)).trans h))
    have hp5 := s15 _ _ (s1 _ _ hp)
    refine ⟨_, rfl, p, C, dx, _, rfl, hp5, T.cl, T.nD, by show 2 < 1000; decide, ?_⟩
    rw [dkF_put1]
    refine ⟨_, rfl, _, rfl, p, C, dx, _, rfl, upd_same, T.cl, T.nL, by show 2 < 1000; decide, ?_⟩
    rw [dkF_put0]
    exact q _ _ _ (((StepR.of (s1.trans s15)).trans (StepR.put _ _ _)).trans (StepR.put _ _ _)) upd_same
theorem pss_never {X : Cx} {st : List Stmt} : PSs X st (fun _ _ _ => False) := ⟨fun _ _ _ _ _ _ h => h.elim⟩
/-- a line that no desk has an answer to -/
def spDkSay (no : List Str) : Sp := fun vs H Q _ => ∃ (p : V) (x : Str), vs = [p, .str x] ∧ x.length ≤ 80000 ∧ unkW no (wordsIn x) = true ∧ ∀ H', Same H H' → Q (.str "what") H'
theorem sc_DkSay : FnScope ["self", "line", "words", "answer"] ["self", "line"] (defScope m_Desk_say) := ⟨rfl, rfl, rfl, by decide +kernel, rfl, by decide +kernel, by decide +kernel⟩
theorem has_DkSay (T : DeskT K mg C) (B : Bi mg) (hW : Has P w K mg base CX0 1 "words_in" ["line"] spWordsIn) (hK : Has P w K mg base CX0 1 "is_known" ["words"] (spKnownW no)) : HasM P w K mg base (L2.CX P w) 2 C "say" ["self", "line"] (spDkSay no) := by
  refine T.say.okX sc_DkSay (fun vs H Q E h => ?_) (fun f cdv A outer s H vs Q E hr h => ?_)
  · obtain ⟨p, x, rfl, _⟩ := h
    rfl
  · obtain ⟨p, x, rfl, hx, hu, q⟩ := h
    refine ⟨_, pss_cons (ps_set (i := 2) sc_DkSay.nd rfl (Or.inl rfl) (pe_ifExp (pt_val (pe_callB call_isi (by rfl) B.isinstance PyProof.Rows.boot_isinstance (pa_cons (pv 1) (pa_cons (pe_bltn (by rfl) B.str PyProof.Rows.boot_str (rr_ty "str")) pa_nil)))) (pe_has hW hr (by rfl) (pa_cons (pv 1) pa_nil)) (pe_lst pa_nil)))
      (pss_cons (ps_if (pt_not (pt_val (pe_has hK hr (by rfl) (pa_cons (pv 2) pa_nil)))) (pss_one (ps_ret pe_str)) pss_nil)
      pss_never), ?_⟩
    refine ⟨_, rfl, .str x, .ty "str", _, _, true, rfl, .ty _, rp_ty (.str x), kit_ty (kit_str (.str x)), true, rfl, iteT ⟨_, rfl, x, rfl, by omega, fun D H1 s1 n1 h1 => ?_⟩⟩
    exact ⟨_, rfl, D, wordsIn x, rfl, h1, hu, fun H2 s2 => ⟨false, rfl, iteT (q H2 (s1.trans s2))⟩⟩
end
end Lt

set_option Elab.async false
set_option linter.all false
set_option maxRecDepth 100000
set_option maxHeartbeats 1000000
/-! sessions.py: Session -/
namespace Lt
open PySem PySem.Spec PyProof.Rows L2
abbrev ssF (d l g : V) : List (Str × V) := [("_desk", d), ("_lock", l), ("_log", g)]
theorem ssF1 (d : V) : putF "_desk" d [] = [(("_desk" : Str), d)] := rfl
theorem ssF2 (d l : V) : putF "_lock" l [(("_desk" : Str), d)] = [(("_desk" : Str), d), (("_lock" : Str), l)] := by
  show (if ("_desk" : Str) = "_lock" then _ else (("_desk" : Str), d) :: [(("_lock" : Str), l)]) = _
  rw [if_neg (by decide +kernel)]
theorem ssF3 (d l g : V) : putF "_log" g [(("_desk" : Str), d), (("_lock" : Str), l)] = ssF d l g := by
  show (if ("_desk" : Str) = "_log" then _ else (("_desk" : Str), d) :: (if ("_lock" : Str) = "_log" then _ else (("_lock" : Str), l) :: [(("_log" : Str), g)])) = _
  rw [if_neg (by decide +kernel), if_neg (by decide +kernel)]
/-- what was said, and the answer -/
def PrAt (H : Hp) (v : V) (b : Str × Str) : Prop := ∃ q, v = .ref q ∧ H q = some (.tup [.str b.1, .str b.2])
theorem PrAt.tm {H H' : Hp} {v : V} {b : Str × Str} (e : Tm H H') (h : PrAt H v b) : PrAt H' v b := let ⟨q, h1, h2⟩ := h; ⟨q, h1, e.1 _ _ h2⟩
/-- a session at p -/
structure SsAt (H : Hp) (C CD p dk ll : Addr) (ls : List (List Nat)) (log : List (Str × Str)) : Prop where
  ins : ∃ dx lv, H p = some (.ins C dx (ssF (.ref dk) lv (.ref ll))) ∧ TTK H lv ls
  desk : ∃ dx a b, H dk = some (.ins CD dx (dkF a b))
  log : ∃ xs, H ll = some (.lst xs) ∧ Paired (PrAt H) xs log
theorem SsAt.same {H H' : Hp} {C CD p dk ll : Addr} {ls : List (List Nat)} {log : List (Str × Str)} (h : SsAt H C CD p dk ll ls log) (s : Same H H') : SsAt H' C CD p dk ll ls log := by
  obtain ⟨⟨dx, lv, h1, a, xs, e, ha, pa⟩, ⟨dx2, u, v, h2⟩, ys, h3, py⟩ := h
  exact ⟨⟨dx, lv, s _ _ h1, a, xs, e, s _ _ ha, paired_mono (fun _ _ r => r.tm (.of s)) pa⟩, ⟨dx2, u, v, s _ _ h2⟩, ys, s _ _ h3, paired_mono (fun _ _ r => r.tm (.of s)) py⟩
structure SessT (K : PySem.W.Frag) (mg : Str → Option Value) (C : Addr) : Prop where
  cl : Cls K C
  nD : NoAttr K C "_desk"
  nL : NoAttr K C "_lock"
  nG : NoAttr K C "_log"
  init : InitF K mg C "Session" m_Session_init ["self", "text"]
  say : MethF K C "say" "Session.say" m_Session_say ["self", "line"]
  text : MethF K C "text" "Session.text" m_Session_text ["self"]
  log : PropF K C "log" "Session.log" m_Session_log
section
variable {X : Cx} {CX : CXT}
theorem pe_hasI0 {k : Nat} {C : Addr} {x : Str} {ps : List Str} {sp : Sp} {p pos : Pos} {E : XK} (h : HasI X.prog X.w X.K X.mg X.base CX k C x ps sp) (hr : Room (k + 1) X.A) (hg : Gl X x) (hx : Passes CX X E) (hdb : (x == ("__debug__" : Str)) = false := by decide) : PE X (.Call (.Name x p) [] [] pos) (tMake C sp [] E tNil) := by
  obtain ⟨f, fd, hm, hk, hb, F⟩ := h
  exact pe_make0 hk F hr hg hm hb .nil hx hdb
end
section
variable {P : Program} {w : World} {K : PySem.W.Frag} {mg : Str → Option Value} {base : Heap} {C CD CB CS : Addr} {no : List Str}
def spSsInit (C CD : Addr) : Sp := fun vs H Q _ => ∃ (p dx : Addr) (x : Str) (ls : List (List Nat)) (n : Nat), vs = [.ref p, .str x] ∧ H p = some (.ins C dx []) ∧ x.length ≤ 80000 ∧ lockOf x = .ok ls ∧ Lk ls n ∧
  ∀ dk ll H', StepR p H H' → H dk = none → H ll = none → SsAt H' C CD p dk ll ls [] → Q .non H'
theorem sc_SsInit : FnScope ["self", "text"] ["self", "text"] (defScope m_Session_init) := ⟨rfl, rfl, rfl, by decide +kernel, rfl, by decide +kernel, by decide +kernel⟩
theorem has_SsInit (T : SessT K mg C) (TD : DeskT K mg CD) (hR : Has P w K mg base (L2.CX P w) 5 "read_lock" ["text"] (spReadLock CB CS)) (hI : HasI P w K mg base (L2.CX P w) 1 CD "Desk" ["self"] (spDkInit CD)) (hT : HasM P w K mg base (L2.CX P w) 8 CD "take_lock" ["self", "text"] (spDkTake CD)) : HasI P w K mg base (L2.CX P w) 9 C "Session" ["self", "text"] (spSsInit C CD) := by
  refine T.init.okX sc_SsInit (fun vs H Q E h => ?_) (fun f cdv A outer s H vs Q E hr h => ?_)
  · obtain ⟨p, dx, x, ls, n, rfl, _⟩ := h
    rfl
  · obtain ⟨p, dx, x, ls, n, rfl, hp, hx, hok, lk, q⟩ := h
    refine ⟨_, pss_cons (ps_fld (pv 0) (pe_hasI0 hI (hr.mono (by decide)) (by rfl) passL) rfl)
      (pss_cons (ps_expr (pe_hasM hT TD.cl hr passL (pe_fld (pv 0) rfl) (pa_cons (pv 1) pa_nil)))
      (pss_cons (ps_fld (pv 0) (pe_hasL hR (hr.mono (by decide)) (by rfl) (pa_cons (pv 1) pa_nil)) rfl)
      (pss_one (ps_fld (pv 0) (pe_lst pa_nil) rfl)))), ?_⟩
    refine fun px dxx nx ndx nex => ⟨px, dxx, rfl, upd_same, fun H2 st2 h2 => ⟨rfl, ?_⟩⟩
    have s2 : Same H H2 := fun b o h => st2 b o (ne_of_none h nx) ((upd_ne (ne_of_none h nx)).trans ((upd_ne (ne_of_none h ndx)).trans h))
    refine ⟨_, rfl, p, C, dx, _, rfl, s2 _ _ hp, T.cl, T.nD, by show 0 < 1000; decide, ?_⟩
    rw [ssF1]
    have npx : p ≠ px := ne_of_none hp nx
    have hp3 : (upd H2 p (.ins C dx [(("_desk" : Str), V.ref px)])) p = some (.ins C dx [(("_desk" : Str), V.ref px)]) := upd_same
    have h3 : (upd H2 p (.ins C dx [(("_desk" : Str), V.ref px)])) px = some (.ins CD dxx (dkF .non .non)) := (upd_ne npx.symm).trans h2
    have st3 : StepR p H (upd H2 p (.ins C dx [(("_desk" : Str), V.ref px)])) := (StepR.of s2).trans (StepR.put _ _ _)
    generalize upd H2 p (.ins C dx [(("_desk" : Str), V.ref px)]) = H3 at *
    refine ⟨_, rfl, p, C, dx, _, _, rfl, hp3, T.cl, T.nD, rfl, px, dxx, _, rfl, h3, rfl, _, rfl, px, dxx, .non, .non, x, ls, n, rfl, h3, hx, hok, lk, fun u v H4 st4 h4 => ?_⟩
    have hp4 := st4 _ _ npx hp3
    have st04 : StepR p H H4 := fun b o nb e => st4 b o (ne_of_none e nx) (st3 b o nb e)
    refine ⟨_, rfl, .str x, rfl, .str x, .str _, (fun z => nomatch z), fun y hy => ?_⟩
    injection hy with hy
    subst hy
    refine ⟨rfl, hx, fun e he => ?_, fun ts hs rv H5 s5 tv => ?_⟩
    · have := he.symm.trans hok
      cases this
    have hs : (Except.ok ts : Except (Nat × Nat) (List (List Nat))) = .ok ls := hs.symm.trans hok
    injection hs with hs
    subst hs
    refine ⟨_, rfl, p, C, dx, _, rfl, s5 _ _ hp4, T.cl, T.nL, by show 1 < 1000; decide, ?_⟩
    rw [ssF2]
    have hp6 : (upd H5 p (.ins C dx [(("_desk" : Str), V.ref px), (("_lock" : Str), rv)])) p = some (.ins C dx [(("_desk" : Str), V.ref px), (("_lock" : Str), rv)]) := upd_same
    have st6 : StepR p H (upd H5 p (.ins C dx [(("_desk" : Str), V.ref px), (("_lock" : Str), rv)])) := (st04.trans (.of s5)).trans (StepR.put _ _ _)
    have h6 : (upd H5 p (.ins C dx [(("_desk" : Str), V.ref px), (("_lock" : Str), rv)])) px = some (.ins CD dxx (dkF u v)) := (upd_ne npx.symm).trans (s5 _ _ h4)
    have tm6 : Tm H5 (upd H5 p (.ins C dx [(("_desk" : Str), V.ref px), (("_lock" : Str), rv)])) := .mut (s5 _ _ hp4) (fun _ z => nomatch z) fun _ _ z => nomatch z
    obtain ⟨ta, tx, rfl, hta, pta⟩ := tv
    have hta6 := tm6.1 _ _ hta
    have pta6 := paired_mono (fun _ _ r => TK.tm tm6 r) pta
    generalize upd H5 p (.ins C dx [(("_desk" : Str), V.ref px), (("_lock" : Str), V.ref ta)]) = H6 at *
    refine ⟨Nat.zero_le _, fun ll hll => ?_⟩
    have s7 := same_new (o := .lst []) hll
    have k7 : (upd H6 ll (.lst [])) ll = some (.lst ([] : List V)) := upd_same
    have npl : p ≠ ll := ne_of_none hp6 hll
    have hl0 : H ll = none := by
      cases e : H ll with
      | none => rfl
      | some o => rw [st6 _ _ npl.symm e] at hll; cases hll
    refine ⟨_, rfl, p, C, dx, _, rfl, s7 _ _ hp6, T.cl, T.nG, by show 2 < 1000; decide, ?_⟩
    rw [ssF3]
    have tm8 : Tm (upd H6 ll (.lst [])) (upd (upd H6 ll (.lst [])) p (.ins C dx (ssF (.ref px) (.ref ta) (.ref ll)))) := .mut (s7 _ _ hp6) (fun _ z => nomatch z) fun _ _ z => nomatch z
    refine q px ll _ ((st6.trans (.of s7)).trans (StepR.put _ _ _)) nx hl0 ⟨⟨dx, .ref ta, upd_same, ta, tx, rfl, tm8.1 _ _ (s7 _ _ hta6), paired_mono (fun _ _ r => TK.tm tm8 (TK.tm (.of s7) r)) pta6⟩, ⟨dxx, u, v, (upd_ne npx.symm).trans (s7 _ _ h6)⟩, [], (upd_ne npl.symm).trans k7, .nil⟩
def spSsSay (C CD CS : Addr) (no : List Str) : Sp := fun vs H Q E => ∃ (p dk ll : Addr) (ls : List (List Nat)) (log : List (Str × Str)) (x : Str), vs = [.ref p, .str x] ∧ SsAt H C CD p dk ll ls log ∧ log.length ≤ 1000 ∧ x.length ≤ 80000 ∧ (10 ∈ x.cps.toList → Bad0 CS H E) ∧
  (10 ∉ x.cps.toList → unkW no (wordsIn x) = true ∧ ∀ H', StepR ll H H' → SsAt H' C CD p dk ll ls (log ++ [(x, ("what" : Str))]) → Q (.str "what") H')
theorem sc_SsSay : FnScope ["self", "line", "answer"] ["self", "line"] (defScope m_Session_say) := ⟨rfl, rfl, rfl, by decide +kernel, rfl, by decide +kernel, by decide +kernel⟩
theorem has_SsSay (T : SessT K mg C) (TD : DeskT K mg CD) (B : Bi mg) (X0 : Err0 K mg "BadString" CS) (hT : HasM P w K mg base (L2.CX P w) 2 CD "say" ["self", "line"] (spDkSay no)) : HasM P w K mg base (L2.CX P w) 3 C "say" ["self", "line"] (spSsSay C CD CS no) := by
  refine T.say.okX sc_SsSay (fun vs H Q E h => ?_) (fun f cdv A outer s H vs Q E hr h => ?_)
  · obtain ⟨p, dk, ll, ls, log, x, rfl, _⟩ := h
    rfl
  · obtain ⟨p, dk, ll, ls, log, x, rfl, S, hlog, hx, bad, good⟩ := h
    refine ⟨_, pss_cons (ps_if (PW.pt (pw_or (pt_not (pt_val (pe_callB call_isi (by rfl) B.isinstance PyProof.Rows.boot_isinstance (pa_cons (pv 1) (pa_cons (pe_bltn (by rfl) B.str PyProof.Rows.boot_str (rr_ty "str")) pa_nil))))) (pw_or1 (pt_cmpR op_in_sign pe_str (pv 1) (by rfl))))) (pss_one (ps_raise rfl (takes_of rfl rfl rfl rfl) (pmk_err0 X0 (by rfl)))) pss_nil)
      (pss_cons (ps_set (i := 2) sc_SsSay.nd rfl (Or.inl rfl) (pe_hasM hT TD.cl hr passL (pe_fld (pv 0) rfl) (pa_cons (pv 1) pa_nil)))
      (pss_cons (ps_expr (pe_bm PySem.F.plainAttrs_list PySem.F.slot_list_append PySem.F.type_list_append mt_append (pe_fld (pv 0) rfl) (pa_cons (pe_tup (pa_cons (pv 1) (pa_cons (pv 2) pa_nil))) pa_nil)))
      (pss_one (ps_ret (pv 2))))), ?_⟩
    obtain ⟨⟨dx, lv, hp, la, lx, rfl, hla, pla⟩, ⟨dd, u, v, hd⟩, xs, hl, pl⟩ := S
    have e10 : sNl = ⟨#[10]⟩ := by decide +kernel
    refine ⟨_, rfl, .str x, .ty "str", _, _, true, rfl, .ty _, rp_ty (.str x), kit_ty (kit_str (.str x)), true, rfl, iteF ⟨_, rfl, 10, x, congrArg V.str e10, rfl, decide (10 ∈ x.cps.toList), rfl, ?_⟩⟩
    by_cases h : 10 ∈ x.cps.toList
    · rw [decide_eq_true h]
      exact iteT (bad h H (Same.refl _))
    rw [decide_eq_false h]
    obtain ⟨hu, q⟩ := good h
    refine iteF ⟨_, rfl, p, C, dx, _, _, rfl, hp, T.cl, T.nD, rfl, dk, dd, _, rfl, hd, rfl, _, rfl, .ref dk, x, rfl, hx, hu, fun H1 s1 => ?_⟩
    have hp1 := s1 _ _ hp
    have hl1 := s1 _ _ hl
    refine ⟨_, rfl, p, C, dx, _, _, rfl, hp1, T.cl, T.nG, rfl, .inl ⟨rfl, _, SqL.of hl1⟩, _, rfl, _, rfl, Nat.le_of_ble_eq_true rfl, fun tp htp => ?_⟩
    have s2 := same_new (o := .tup [V.str x, V.str ("what" : Str)]) htp
    have k2 : (upd H1 tp (.tup [V.str x, V.str ("what" : Str)])) tp = some (.tup [V.str x, V.str ("what" : Str)]) := upd_same
    have s02 := s1.trans s2
    have lg := Paired.length pl
    generalize upd H1 tp (.tup [V.str x, V.str ("what" : Str)]) = H2 at *
    have hl2 := s02 _ _ hl
    refine ⟨ll, xs, .ref tp, rfl, rfl, hl2, by rw [lg, sizeLine_eq]; omega, ?_⟩
    have tm3 : Tm H2 (upd H2 ll (.lst (xs ++ [.ref tp]))) := Tm.lst hl2
    have tm03 := (Tm.of s02).trans tm3
    refine ⟨_, rfl, q _ ((StepR.of s02).trans (StepR.put _ _ _)) ⟨⟨dx, .ref la, (upd_ne (ne_of (s02 _ _ hp) hl2 (fun z => nomatch z))).trans (s02 _ _ hp), la, lx, rfl, tm03.1 _ _ hla, paired_mono (fun _ _ r => TK.tm tm03 r) pla⟩, ⟨dd, u, v, (upd_ne (ne_of (s02 _ _ hd) hl2 (fun z => nomatch z))).trans (s02 _ _ hd)⟩, _, upd_same, Paired.app (paired_mono (fun _ _ r => PrAt.tm tm03 r) pl) (Paired.one ⟨tp, rfl, tm3.1 _ _ k2⟩)⟩⟩
end
end Lt

set_option Elab.async false
set_option linter.all false
set_option maxRecDepth 100000
set_option maxHeartbeats 1000000
/-! k12: the law's helpers -/
namespace Lt
open PySem PySem.Spec PyProof.Rows L2
section
variable {P : Program} {w : World} {K : PySem.W.Frag} {mg : Str → Option Value} {base : Heap}
abbrev rApp : V → V → Hp → VK → Prop := fun x y H Q => ∃ i j, x = .str i ∧ y = .str j ∧ i.length + j.length ≤ sizeLine ∧ Q (.str (i ++ j)) H
end
end Lt

set_option Elab.async false
set_option linter.all false
set_option maxRecDepth 100000
set_option maxHeartbeats 1000000
/-! k12: loose and bent texts -/
namespace Lt
open PySem PySem.Spec PyProof.Rows L2
open TL (tl)
section
variable {P : Program} {w : World} {K : PySem.W.Frag} {mg : Str → Option Value} {base : Heap}
end
end Lt

set_option Elab.async false
set_option linter.all false
set_option maxRecDepth 100000
set_option maxHeartbeats 1000000
/-! k12: bent texts -/
namespace Lt
open PySem PySem.Spec PyProof.Rows L2
open TL (tl)
section
variable {P : Program} {w : World} {K : PySem.W.Frag} {mg : Str → Option Value} {base : Heap}
end
end Lt

set_option Elab.async false
set_option linter.all false
set_option maxRecDepth 100000
set_option maxHeartbeats 1000000
/-! what is read from what was written -/
namespace Lt
open PySem PySem.Spec PyProof.Rows L2
open TL (tl spl joinL)
instance (w : Str) : Decidable (Wo w) := by unfold Wo; exact inferInstance
theorem sN_wo : ∀ i, i < 10 → Wo (sN i) := by decide +kernel
theorem figs_ix : ∀ n, n < 10 → ∀ q, q < n → sN q ∈ figs n ∧ (figs n).idxOf (sN q) = q := by decide +kernel
/-! ### a word at a time -/
theorem drop_next {α : Type} {l r : List α} {i : Nat} {a : α} (h : l.drop i = a :: r) : l.drop (i + 1) = r := by
  have z := congrArg (List.drop 1) h
  rw [List.drop_drop] at z
  exact z
theorem dropg {α : Type} {l r : List α} {i : Nat} {a : α} (h : l.drop i = a :: r) : l[i]? = some a := by
  have z : (l.drop i)[0]? = some a := by rw [h]; rfl
  rw [List.getElem?_drop] at z
  exact z
theorem tk1_go {ws r wanted : List Str} {i : Nat} {w : Str} (h : ws.drop i = w :: r) (hw : w ∈ wanted) : tk1 ws i wanted = some (wanted.idxOf w) := by
  unfold tk1
  rw [dropg h]
  exact if_pos hw
theorem tkP_go {ws r : List Str} {n : Nat} (hn : n < 10) : ∀ (t : List Nat) (i : Nat) (acc : List Nat), ws.drop i = t.map sN ++ r → (∀ x ∈ t, x < n) → (acc ++ t).Nodup → tkP ws (figs n) i t.length acc = .ok (acc ++ t) ∧ ws.drop (i + t.length) = r
  | [], i, acc, h, _, _ => by
    rw [List.append_nil]
    exact ⟨rfl, h⟩
  | a :: t, i, acc, h, ha, hd => by
    have h : ws.drop i = sN a :: (t.map sN ++ r) := h
    obtain ⟨f1, f2⟩ := figs_ix n hn a (ha a (List.mem_cons_self ..))
    have h1 := tk1_go h f1
    rw [f2] at h1
    have hna : a ∉ acc := fun z => by
      have := (List.nodup_append.mp hd).2.2 a z a (List.mem_cons_self ..)
      exact this rfl
    obtain ⟨g1, g2⟩ := tkP_go hn t (i + 1) (acc ++ [a]) (drop_next h) (fun x hx => ha x (List.mem_cons_of_mem _ hx)) (by rw [List.append_assoc]; exact hd)
    refine ⟨?_, ?_⟩
    · rw [List.length_cons, tkP_step h1 hna, g1, List.append_assoc]
      rfl
    · rw [List.length_cons, ← Nat.add_assoc, Nat.add_right_comm]
      exact g2
/-! ### lines -/
def lineL (t : List Nat) : List Str := ("turn" : Str) :: t.map sN
theorem joinL_app {S : List Nat} : ∀ {l m : List (List Nat)}, l ≠ [] → m ≠ [] → joinL S (l ++ m) = joinL S l ++ (S ++ joinL S m)
  | [], _, h, _ => absurd rfl h
  | [a], b :: m, _, _ => rfl
  | [a], [], _, h => absurd rfl h
  | a :: b :: l, m, _, h => by
    show a ++ (S ++ joinL S (b :: l ++ m)) = (a ++ (S ++ joinL S (b :: l))) ++ _
    rw [joinL_app (l := b :: l) (fun z => nomatch z) h, List.append_assoc, List.append_assoc]
theorem tl_spT (t : List Nat) : tl (spT t) = joinL [32] ((t.map sN).map tl) := by
  unfold spT
  rw [TL.join_eq, TL.tl_join, e32]
theorem lnT_join {t : List Nat} (h : t ≠ []) : lnT t = Txt.join sSp (lineL t) := by
  refine TL.ext_tl ?_
  unfold lnT lineL
  rw [TL.tl_append, tl_spT, TL.join_eq, TL.tl_join, e32]
  have e : tl ("turn " : Str) = tl ("turn" : Str) ++ [32] := by decide +kernel
  rw [e, List.append_assoc]
  exact (joinL_app (l := [tl ("turn" : Str)]) (m := (t.map sN).map tl) (fun z => nomatch z) (fun z => h (List.map_eq_nil_iff.mp (List.map_eq_nil_iff.mp z)))).symm
theorem lineL_wo {t : List Nat} (h : ∀ x ∈ t, x < 10) : ∀ w ∈ lineL t, Wo w := fun w hw => by
  rcases List.mem_cons.mp hw with rfl | hw
  · decide +kernel
  · obtain ⟨x, hx, rfl⟩ := List.mem_map.mp hw
    exact sN_wo x (h x hx)
/-! ### steps -/
end Lt

set_option Elab.async false
set_option linter.all false
set_option maxRecDepth 100000
set_option maxHeartbeats 1000000
/-! texts of rows and locks, loose and bent -/
namespace Lt
open PySem PySem.Spec PyProof.Rows L2
open TL (tl spl joinL)
/-! ### rows -/
theorem isP_ne {n : Nat} {t : List Nat} (h : IsP n t) (hn : 2 ≤ n) : t ≠ [] := fun z => by
  have := h.len
  rw [z, List.length_nil] at this
  omega
theorem join_wo10 {ws : List Str} (h : ∀ w ∈ ws, Wo w) : 10 ∉ tl (Txt.join sSp ws) := join_free (by decide +kernel) fun w hw => (h w hw).2.2
section
variable {made : List (List Nat)} {n k : Nat} {ss : List StepT}
end
end Lt

set_option Elab.async false
set_option linter.all false
set_option maxRecDepth 100000
set_option maxHeartbeats 1000000
/-! texts of locks, loose and bent -/
namespace Lt
open PySem PySem.Spec PyProof.Rows L2
open TL (tl spl joinL)
theorem sizeL_at {acc : List (List Nat)} {n size : Nat} {t : List Nat} (h2 : 2 ≤ n) (h9 : n ≤ 9) (hl : t.length = n) (hs : acc = [] ∨ size = n) : sizeL acc (lineL t) size = n := by
  unfold sizeL
  rcases hs with rfl | rfl
  · show max 2 (min 9 (((t.map sN).length + 1) - 1)) = n
    rw [List.length_map, hl]
    omega
  · split
    · show max 2 (min 9 (((t.map sN).length + 1) - 1)) = size
      rw [List.length_map, hl]
      omega
    · rfl
theorem rdL_go {n : Nat} (h2 : 2 ≤ n) (h9 : n ≤ 9) : ∀ {NL : List (Nat × List Str)} {ts : List (List Nat)} (size : Nat) (acc : List (List Nat)), NL.map (·.2) = ts.map lineL → (∀ t ∈ ts, IsP n t) → acc.length + ts.length ≤ 4 → (acc = [] ∨ size = n) → rdL NL size acc = .ok (acc ++ ts)
  | [], [], size, acc, _, _, _, _ => by
    rw [List.append_nil]
    rfl
  | b :: NL, t :: ts, size, acc, h, hp, hl, hs => by
    injection h with h1 h3
    have pt := hp t (List.mem_cons_self ..)
    have hb : b = (b.1, lineL t) := by rw [← h1]
    have ez := sizeL_at (acc := acc) h2 h9 pt.len hs
    have d0 : (lineL t).drop 0 = ("turn" : Str) :: t.map sN := rfl
    have a1 := tk1_go (wanted := wTurn) d0 (List.mem_cons_self ..)
    obtain ⟨a2, a3⟩ := tkP_go (ws := lineL t) (r := []) (by omega : n < 10) t 1 [] (by rw [List.append_nil]; rfl) pt.lt pt.nd
    rw [pt.len] at a2
    have ll : (lineL t).length = n + 1 := by
      show (t.map sN).length + 1 = _
      rw [List.length_map, pt.len]
    rw [List.length_cons] at hl
    rw [hb, rdL_more (b := (b.1, lineL t)) (by omega) a1 (t := t) (by dsimp only; rw [ez]; exact a2)]
    dsimp only
    rw [ez, if_neg (by omega), rdL_go h2 h9 n (acc ++ [t]) h3 (fun t ht => hp t (List.mem_cons_of_mem _ ht)) (by rw [List.length_append]; show acc.length + 1 + _ ≤ 4; omega) (.inr rfl), List.append_assoc]
    rfl
  | [], t :: ts, _, _, h, _, _, _ => nomatch h
  | b :: NL, [], _, _, h, _, _, _ => nomatch h
section
variable {ls : List (List Nat)} {n : Nat}
theorem lnT_words {t : List Nat} (hn : 2 ≤ n) (n9 : n ≤ 9) (h : IsP n t) : wordsIn (lnT t) = lineL t ∧ splS (lnT t) sSp = lineL t ∧ 10 ∉ tl (lnT t) := by
  have w := lineL_wo (t := t) fun x hx => by have := h.lt x hx; omega
  rw [lnT_join (isP_ne h hn)]
  exact ⟨wordsIn_join w, joinS_sp (fun z => nomatch z) (fun p hp => (w p hp).2.1), join_wo10 w⟩
theorem lockTx_lines (g : GL ls n) : splS (lockTx ls) sNl = ls.map lnT := by
  obtain ⟨l1, _, n2, n9, hp⟩ := g
  unfold lockTx
  refine joinS_nl (fun z => ?_) fun p hm => ?_
  · rw [List.map_eq_nil_iff.mp z] at l1
    cases l1
  · obtain ⟨t, ht, rfl⟩ := List.mem_map.mp hm
    exact (lnT_words n2 n9 (hp t ht)).2.2
theorem lockTx_ne (g : GL ls n) : (linesIn (lockTx ls)).filter (fun l => !l.isEmpty) = ls.map lineL := by
  unfold linesIn
  rw [lockTx_lines g, List.map_map, show ls.map (wordsIn ∘ lnT) = ls.map lineL from List.map_congr_left fun t ht => (lnT_words g.2.2.1 g.2.2.2.1 (g.2.2.2.2 t ht)).1]
  refine List.filter_eq_self.mpr fun l hl => ?_
  obtain ⟨s, hs, rfl⟩ := List.mem_map.mp hl
  rfl
theorem lockOf_ok {y : Str} {ts : List (List Nat)} (h : rdL (numWs (linesIn y)) 0 [] = .ok ts) (hne : ts ≠ []) : lockOf y = .ok ts := by
  unfold lockOf
  rw [h]
  cases ts with
  | nil => exact absurd rfl hne
  | cons a l => rfl
theorem lock_loose (g : GL ls n) {y : Str} (hy : SameW y (lockTx ls)) : lockOf y = .ok ls := by
  have e : (numWs (linesIn y)).map (·.2) = ls.map lineL := by
    rw [numWs_snd, show (linesIn y).filter (fun l => !l.isEmpty) = _ from hy, lockTx_ne g]
  obtain ⟨l1, l4, n2, n9, hp⟩ := g
  refine lockOf_ok (rdL_go n2 n9 0 [] e hp (by rw [List.length_nil]; omega) (.inl rfl)) fun z => ?_
  rw [z] at l1
  cases l1
end
end Lt

set_option Elab.async false
set_option linter.all false
set_option maxRecDepth 100000
set_option maxHeartbeats 1000000
/-! sessions.py: the text of a session, its log -/
namespace Lt
open PySem PySem.Spec PyProof.Rows L2
def prL (b : Str × Str) : List Str := [("> " : Str) ++ b.1, ("< " : Str) ++ b.2]
def sessL (ls : List (List Nat)) (log : List (Str × Str)) : List Str := ls.map (fun t => ("| " : Str) ++ lnT t) ++ (log.map prL).flatten
def sessTx (ls : List (List Nat)) (log : List (Str × Str)) : Str := Txt.join sNl (sessL ls log)
theorem lnT_len {t : List Nat} {n : Nat} (h : IsP n t) (n9 : n ≤ 9) : (lnT t).length ≤ 23 := by
  have sl := spT_len (t := t) fun x hx => by have := h.lt x hx; omega
  have l4 : ("turn " : Str).length = 5 := by decide +kernel
  have := h.len
  show (("turn " : Str) ++ spT t).length ≤ 23
  rw [app_len, l4]
  omega
theorem lockTx_len {ls : List (List Nat)} {n : Nat} (g : GL ls n) : (lockTx ls).length ≤ 380 := by
  obtain ⟨_, g4, _, n9, hp⟩ := g
  have w1 : sNl.length = 1 := by decide +kernel
  have sm := sum_le (fun x : Str => x.length) 23 (l := ls.map lnT) fun z hz => by
    obtain ⟨t, ht, rfl⟩ := List.mem_map.mp hz
    exact lnT_len (hp t ht) n9
  have := joinS_len sNl (ls.map lnT)
  rw [w1, List.length_map] at this
  rw [List.length_map] at sm
  unfold lockTx
  omega
theorem flat_len (log : List (Str × Str)) : ((log.map prL).flatten).length = 2 * log.length := by
  induction log with
  | nil => rfl
  | cons b l ih =>
    rw [List.map_cons, List.flatten_cons, List.length_append, ih, List.length_cons]
    show 2 + _ = _
    omega
theorem sessL_mem {ls : List (List Nat)} {n : Nat} {log : List (Str × Str)} (g : GL ls n) (hlen : ∀ b ∈ log, b.1.length ≤ 100 ∧ b.2.length ≤ 100) : ∀ z ∈ sessL ls log, z.length ≤ 102 := fun z hz => by
  have w1 : ("| " : Str).length = 2 := by decide +kernel
  have w2 : ("> " : Str).length = 2 := by decide +kernel
  have w3 : ("< " : Str).length = 2 := by decide +kernel
  rcases List.mem_append.mp hz with h | h
  · obtain ⟨t, ht, rfl⟩ := List.mem_map.mp h
    have := lnT_len (g.2.2.2.2 t ht) g.2.2.2.1
    rw [app_len, w1]
    omega
  · obtain ⟨m, hm, hz⟩ := List.mem_flatten.mp h
    obtain ⟨b, hb, rfl⟩ := List.mem_map.mp hm
    obtain ⟨h1, h2⟩ := hlen b hb
    rcases List.mem_cons.mp hz with rfl | hz
    · rw [app_len, w2]
      omega
    · rw [List.mem_singleton.mp hz, app_len, w3]
      omega
section
variable {P : Program} {w : World} {K : PySem.W.Frag} {mg : Str → Option Value} {base : Heap} {C CD CB CS : Addr} {no : List Str}
def spSsLog (C CD : Addr) : Sp := fun vs H Q _ => ∃ (p dk ll : Addr) (ls : List (List Nat)) (log : List (Str × Str)), vs = [.ref p] ∧ SsAt H C CD p dk ll ls log ∧ ∀ tp xs H', Same H H' → H' tp = some (.tup xs) → Paired (PrAt H') xs log → Q (.ref tp) H'
theorem sc_SsLog : FnScope ["self"] ["self"] (defScope m_Session_log) := ⟨rfl, rfl, rfl, by decide +kernel, rfl, by decide +kernel, by decide +kernel⟩
theorem has_SsLog (T : SessT K mg C) (B : Bi mg) : HasP P w K mg base CX0 1 C "log" (spSsLog C CD) := by
  refine T.log.ok sc_SsLog (fun vs H Q E h => ?_) (fun f cdv A outer s H vs Q E hr h => ?_)
  · obtain ⟨p, dk, ll, ls, log, rfl, _⟩ := h
    rfl
  · obtain ⟨p, dk, ll, ls, log, rfl, ⟨⟨dx, lv, hp, _⟩, _, xs, hl, pl⟩, q⟩ := h
    refine ⟨_, pss_one (ps_ret (pe_tupleOf (by rfl) B.tuple (pe_fld (pv 0) rfl))), ?_⟩
    exact ⟨_, rfl, p, C, dx, _, _, rfl, hp, T.cl, T.nG, rfl, .inl ⟨ll, xs, rfl, SqL.of hl, fun tp htp => q tp xs _ (same_new htp) upd_same (paired_mono (fun _ _ r => PrAt.tm (.of (same_new htp)) r) pl)⟩⟩
def spSsText (C CD : Addr) : Sp := fun vs H Q _ => ∃ (p dk ll : Addr) (ls : List (List Nat)) (n : Nat) (log : List (Str × Str)), vs = [.ref p] ∧ SsAt H C CD p dk ll ls log ∧ Lk ls n ∧ log.length ≤ 20 ∧ (∀ b ∈ log, b.1.length ≤ 100 ∧ b.2.length ≤ 100) ∧ ∀ H', Same H H' → Q (.str (sessTx ls log)) H'
abbrev stN : List Str := ["self", "lines", "line", "answer"]
theorem sc_SsText : FnScope stN ["self"] (defScope m_Session_text) := ⟨rfl, rfl, rfl, by decide +kernel, rfl, by decide +kernel, by decide +kernel⟩
theorem has_SsText (T : SessT K mg C) (G1 : ∃ u, mg "LOCK_MARK" = some u ∧ RelV (.str "| ") u) (G2 : ∃ u, mg "LINE_MARK" = some u ∧ RelV (.str "> ") u) (G3 : ∃ u, mg "ANSWER_MARK" = some u ∧ RelV (.str "< ") u)
    (hW : Has P w K mg base (L2.CX P w) 6 "write_lock" ["lock"] spWriteLock) : HasM P w K mg base (L2.CX P w) 7 C "text" ["self"] (spSsText C CD) := by
  refine T.text.okX sc_SsText (fun vs H Q E h => ?_) (fun f cdv A outer s H vs Q E hr h => ?_)
  · obtain ⟨p, dk, ll, ls, n, log, rfl, _⟩ := h
    rfl
  · obtain ⟨p, dk, ll, ls, n, log, rfl, S, lk, hlog, hlen, q⟩ := h
    refine ⟨_, pss_cons (ps_setLc (i := 1) (own := [("line", 2)]) (g := gName 2) (te := tOp rApp (tC (.str "| ")) (tVar 2)) (by rfl) sc_SsText.nd rfl rfl (sw_true rfl rfl rfl (by decide +kernel)) (pi_list (pe_split (pe_hasL hW hr (by rfl) (pa_cons (pe_fld (pv 0) rfl) pa_nil)) pe_str)) (blkOk_by (own := [("line", 2)]) (N := stN) (sc := defScope m_Session_text) (by decide +kernel))
        (fun _ _ _ _ _ => pg_name (i := 2) sc_SsText.nd rfl (Or.inl rfl)) (fun _ _ _ _ _ => pts_nil) (fun _ _ _ _ _ => pe_op op_add_str (pe_gc2 (by rfl) G1) (pv 2)))
      (pss_cons (ps_for (passes_of rfl) rfl (pi_list (pe_fld (pv 0) rfl)) (pg_tup rfl (pgs_cons (pg_name (i := 2) sc_SsText.nd rfl (Or.inl rfl)) (pgs_cons (pg_name (i := 3) sc_SsText.nd rfl (Or.inl rfl)) pgs_nil)))
        (pss_one (ps_expr (pe_bm PySem.F.plainAttrs_list PySem.F.slot_list_extend PySem.F.type_list_extend mt_extend (pv 1) (pa_cons (pe_lst (pa_cons (pe_op op_add_str (pe_gc2 (by rfl) G2) (pv 2)) (pa_cons (pe_op op_add_str (pe_gc2 (by rfl) G3) (pv 3)) pa_nil))) pa_nil)))))
      (pss_one (ps_ret (pe_join pe_str (pv 1))))), ?_⟩
    obtain ⟨⟨dx, lv, hp, tv⟩, hdk, xs, hl, pl⟩ := id S
    have w1 : ("| " : Str).length = 2 := by decide +kernel
    have w2 : ("> " : Str).length = 2 := by decide +kernel
    have w3 : ("< " : Str).length = 2 := by decide +kernel
    have w4 : sNl.length = 1 := by decide +kernel
    have ltx := lockTx_len lk.gl
    obtain ⟨g1, g4, n2, n9, hls⟩ := id lk.gl
    refine ⟨_, rfl, p, C, dx, _, _, rfl, hp, T.cl, T.nL, rfl, lv, ls, n, rfl, ⟨tv.tt, lk.gl, lk.few⟩, fun H1 s1 => ⟨⟨lockTx ls, rfl⟩, lockTx ls, sNl, rfl, rfl, by decide +kernel, by rw [sizeLine_eq]; omega, fun pa hpa => ?_⟩⟩
    rw [split_nl, lockTx_lines lk.gl]
    have s2 := same_new (o := .lst ((ls.map lnT).map V.str)) hpa
    have k2 : (upd H1 pa (.lst ((ls.map lnT).map V.str))) pa = some (.lst ((ls.map lnT).map V.str)) := upd_same
    have s02 := s1.trans s2
    generalize upd H1 pa (.lst ((ls.map lnT).map V.str)) = H2 at *
    refine ⟨pa, rfl, ⟨_, SqL.of k2⟩, fun D hD => lc_genF (J := Itl K pa) (n := ls.length) RStr (fun _ => true) (fun i => ("| " : Str) ++ lnT (ls.getD i [])) (fun _ _ _ _ _ r => r) (by omega) hD
      (fun i H3 hi s3 => ⟨_, .str (lnT (ls.getD i [])), SqL.of (s3 _ _ k2), by rw [List.getElem?_map, List.getElem?_map, getD_of (d := []) hi]; rfl⟩) (fun H3 s3 => ⟨_, SqL.of (s3 _ _ k2), by rw [List.length_map, List.length_map]; exact Nat.le_refl _⟩) (fun i H3 x' H4 hi s3 y => ?_) (fun H3 zs s3 hz pr => ?_)⟩
    · obtain ⟨rfl, hx'⟩ := y
      have hx' := hx' _ (SqL.of (s3 _ _ k2))
      rw [List.getElem?_map, List.getElem?_map, getD_of (d := []) hi] at hx'
      have hx' := (Option.some.inj hx').symm
      subst hx'
      have := lnT_len (hls _ (List.mem_of_getElem? (getD_of (d := []) hi))) n9
      exact ⟨Same.refl _, _, fun Kk q => q, rfl, fun Q q => q _ (Same.refl _), fun hp H5 s5 Q q => ⟨_, rfl, _, _, rfl, rfl, by rw [sizeLine_eq, w1]; omega, q _ H5 (Same.refl _) rfl⟩⟩
    have e1 : ((List.range ls.length).filter fun _ => true).map (fun i => ("| " : Str) ++ lnT (ls.getD i [])) = ls.map fun t => ("| " : Str) ++ lnT t := by
      rw [List.filter_eq_self.mpr fun _ _ => rfl]
      conv => rhs; rw [← getDd_range ([] : List Nat) ls, List.map_map]
      rfl
    rw [e1] at pr
    rw [RStr.all pr] at hz
    have s03 := s02.trans s3
    have lg := Paired.length pl
    have hD0 : H D = none := s02.free hD
    have nlD : ll ≠ D := ne_of_none hl hD0
    refine ⟨_, rfl, p, C, dx, _, _, rfl, s03 _ _ hp, T.cl, T.nG, rfl, ll, rfl, ⟨_, SqL.of (s03 _ _ hl)⟩, for_list (K := K) (a := ll) (xs := xs) (fun i σ H' => ∃ y2 y3, σ = [some (.ref p), some (.ref D), y2, y3] ∧ Same H H' ∧ H' D = some (.lst ((sessL ls (log.take i)).map V.str)))
      ⟨none, none, rfl, s03, ?_⟩ (fun i σ H' _ ⟨_, _, _, s, _⟩ => SqL.of (s _ _ hl)) ?_ ?_⟩
    · rw [hz]
      unfold sessL
      rw [List.take_zero]
      show _ = some (HO.lst ((ls.map _ ++ []).map V.str))
      rw [List.append_nil]
    · rintro i xv σ H' hi ⟨y2, y3, rfl, s', hD'⟩
      obtain ⟨b, hb, tq, rfl, htq⟩ := Lt.Paired.getL pl hi
      obtain ⟨h1, h2⟩ := hlen b (List.mem_of_getElem? hb)
      have ht : log.take (i + 1) = log.take i ++ [b] := by rw [List.take_add_one, hb]; rfl
      refine ⟨tq, _, rfl, SqT.of (s' _ _ htq), rfl, _, _, rfl, _, _, rfl, rfl, ?_⟩
      refine ⟨_, rfl, .inl ⟨rfl, _, SqL.of hD'⟩, _, rfl, _, _, rfl, rfl, by rw [sizeLine_eq, w2]; omega, _, rfl, _, _, rfl, rfl, by rw [sizeLine_eq, w3]; omega, Nat.le_of_ble_eq_true rfl, fun te hte => ?_⟩
      have s4 := same_new (o := .lst [V.str (("> " : Str) ++ b.1), V.str (("< " : Str) ++ b.2)]) hte
      have hl4 : (sessL ls (log.take i)).length ≤ 1000 := by
        unfold sessL
        rw [List.length_append, List.length_map, flat_len, List.length_take]
        omega
      refine ⟨D, te, _, _, rfl, rfl, s4 _ _ hD', upd_same, by rw [List.length_map, sizeLine_eq]; show _ + 2 ≤ _; omega, _, _, rfl, same_mut (s'.trans s4) hD0, ?_⟩
      rw [upd_same, ht]
      unfold sessL
      rw [List.map_append (l₂ := [b]), List.flatten_append, ← List.append_assoc, List.map_append (l₂ := ([b].map prL).flatten)]
      rfl
    · rintro σ H' ⟨y2, y3, rfl, s', hD'⟩
      rw [lg, List.take_length] at hD'
      have sm := sum_le (fun z : Str => z.length) 102 (sessL_mem lk.gl hlen)
      have hl5 : (sessL ls log).length ≤ 44 := by
        unfold sessL
        rw [List.length_append, List.length_map, flat_len]
        omega
      exact ⟨⟨_, rfl⟩, _, rfl, sNl, D, sessL ls log, rfl, rfl, .inl (SqL.of hD'), by rw [w4]; omega, q H' s'⟩
end
end Lt

set_option Elab.async false
set_option linter.all false
set_option maxRecDepth 100000
set_option maxHeartbeats 1000000
/-! sessions.py: check_marks, unmarked -/
namespace Lt
open PySem PySem.Spec PyProof.Rows L2
open TL (tl)
def mkM (d : Nat) : Str := if d % 2 = 1 then "< " else "> "
def gdM (lines : List Str) (start i : Nat) : Bool := Txt.startswith (lines.getD i ("" : Str)) (mkM (i - start))
theorem cutS_two {a x : Str} (h : a.length = 2) : cutS (a ++ x) (some 2) none = x := by
  refine TL.ext_tl ?_
  unfold cutS
  have e : tl (a ++ x) = tl a ++ tl x := TL.tl_append a x
  have hl : (a ++ x).length = 2 + x.length := by rw [app_len, h]
  have e2 : HT.sIx (a ++ x).length 0 (some (2 : Int)) = 2 := (HT.sIx_nat _ _ 2).trans (by rw [hl]; omega)
  rw [e2, HT.sIx_none]
  show ((tl (a ++ x)).drop 2).take ((a ++ x).length - 2) = tl x
  rw [e, List.drop_left' (by rw [← TL.len_tl, h]), hl]
  exact List.take_of_length_le (by rw [← TL.len_tl]; omega)
section
variable {P : Program} {w : World} {K : PySem.W.Frag} {mg : Str → Option Value} {base : Heap} {C CD CB CS : Addr}
def spUnmarked : Sp := fun vs H Q _ => ∃ x : Str, vs = [.str x] ∧ x.length ≤ 80000 ∧ Q (.str (cutS x (some 2) none)) H
theorem sc_unmarked : FnScope ["line"] ["line"] (defScope s_unmarked) := ⟨rfl, rfl, rfl, by decide +kernel, rfl, by decide +kernel, by decide +kernel⟩
theorem has_unmarked (T : Top K mg "unmarked" s_unmarked ["line"]) (B : Bi mg) (G2 : ∃ u, mg "LINE_MARK" = some u ∧ RelV (.str "> ") u) : Has P w K mg base CX0 1 "unmarked" ["line"] spUnmarked := by
  refine T.ok sc_unmarked (fun vs H Q E h => ?_) (fun f cdv A outer s H vs Q E hr h => ?_)
  · obtain ⟨x, rfl, _⟩ := h
    rfl
  · obtain ⟨x, rfl, hx, q⟩ := h
    refine ⟨_, pss_one (ps_ret (pe_slice sl_str (pv 0) (po_some (pe_callB call_len_str (by rfl) B.len PySem.boot_len (pa_cons (pe_gc2 (by rfl) G2) pa_nil))) po_none)), ?_⟩
    have w2 : ("> " : Str).length = 2 := by decide +kernel
    refine ⟨_, rfl, ("> " : Str), rfl, by rw [w2, sizeLine_eq]; omega, ((("> " : Str).length : Nat) : Int), rfl, x, rfl, by rw [sizeLine_eq]; omega, ?_⟩
    rw [w2]
    exact q
def spMarks (CB : Addr) : Sp := fun vs H Q E => ∃ (la : Addr) (lines : List Str) (start : Nat), vs = [.ref la, nI start] ∧ H la = some (.lst (lines.map V.str)) ∧ start ≤ lines.length ∧ lines.length ≤ 100000 ∧
  ((∃ b, start ≤ b ∧ b < lines.length ∧ (∀ i, start ≤ i → i < b → gdM lines start i = true) ∧ gdM lines start b = false ∧ BadF2 CB "line" (nI (b + 1)) "place" (nI 1) H E) ∨
   ((∀ i, start ≤ i → i < lines.length → gdM lines start i = true) ∧ (((lines.length - start) % 2 = 1 ∧ BadF2 CB "line" (nI (lines.length + 1)) "place" (nI 1) H E) ∨ ((lines.length - start) % 2 = 0 ∧ ∀ H', Same H H' → Q .non H'))))
abbrev cmN : List Str := ["lines", "start", "place", "mark"]
theorem sc_check_marks : FnScope cmN ["lines", "start"] (defScope s_check_marks) := ⟨rfl, rfl, rfl, by decide +kernel, rfl, by decide +kernel, by decide +kernel⟩
theorem has_check_marks (T : Top K mg "check_marks" s_check_marks ["lines", "start"]) (B : Bi mg) (X1 : ErrI2 P w K mg base "BadLine" "line" "place" CB) (G2 : ∃ u, mg "LINE_MARK" = some u ∧ RelV (.str "> ") u) (G3 : ∃ u, mg "ANSWER_MARK" = some u ∧ RelV (.str "< ") u) : Has P w K mg base (L2.CX P w) 3 "check_marks" ["lines", "start"] (spMarks CB) := by
  refine T.okX sc_check_marks (fun vs H Q E h => ?_) (fun f cdv A outer s H vs Q E hr h => ?_)
  · obtain ⟨la, lines, start, rfl, _⟩ := h
    rfl
  · obtain ⟨la, lines, start, rfl, hl, hst, hlen, cs⟩ := h
    refine ⟨_, pss_cons (ps_for (passes_of rfl) rfl (pi_range2 (by rfl) B.range (pa_cons (pv 1) (pa_cons (pe_callB call_len_seq (by rfl) B.len PySem.boot_len (pa_cons (pv 0) pa_nil)) pa_nil))) (pg_name (i := 2) sc_check_marks.nd rfl (Or.inl rfl))
        (pss_cons (ps_set (i := 3) sc_check_marks.nd rfl (Or.inl rfl) (pe_ifExp (pt_cmpR op_eq (by exact (pe_op op_andM (pe_op op_sub (pv 2) (pv 1)) pe_int)) pe_int (nomark _)) (pe_gc2 (by rfl) G3) (pe_gc2 (by rfl) G2)))
        (pss_one (ps_if (pt_not (pt_val (pe_m1 PySem.F.slot_str_startswith PySem.F.type_str_startswith mt_startswith (pe_ix ix_list (pv 0) (pv 2) (fun _ _ => rfl)) (pv 3)))) (pss_one (ps_raise rfl (takes_of rfl rfl rfl rfl) (pmk_errI2 X1 hr (by rfl) (pa_cons (pe_op op_add (pv 2) pe_int) (pa_cons pe_int pa_nil))))) pss_nil))))
      (pss_one (ps_if (pt_cmpR op_eq (by exact (pe_op op_andM (pe_op op_sub (pe_callB call_len_seq (by rfl) B.len PySem.boot_len (pa_cons (pv 0) pa_nil)) (pv 1)) pe_int)) pe_int (nomark _)) (pss_one (ps_raise rfl (takes_of rfl rfl rfl rfl) (pmk_errI2 X1 hr (by rfl) (pa_cons (pe_op op_add (pe_callB call_len_seq (by rfl) B.len PySem.boot_len (pa_cons (pv 0) pa_nil)) pe_int) (pa_cons pe_int pa_nil))))) pss_nil)), ?_⟩
    have hN : (((lines.length : Nat) : Int) - (start : Int)).toNat = lines.length - start := by omega
    refine ⟨_, rfl, _, rfl, la, _, rfl, .inl (SqL.of hl), (start : Int), (((lines.map V.str).length : Nat) : Int), rfl, ⟨by omega, by omega, by rw [List.length_map]; omega, by rw [List.length_map]; omega⟩, ?_⟩
    rw [List.length_map]
    refine for_range (lo := (start : Int)) (n := (((lines.length : Nat) : Int) - (start : Int)).toNat) (fun i σ H' => ∃ y2 y3, σ = [some (.ref la), some (nI start), y2, y3] ∧ Same H H' ∧ ∀ j, start ≤ j → j < start + i → gdM lines start j = true) ⟨none, none, rfl, Same.refl _, fun j h1 h2 => by omega⟩ ?_ ?_
    · rintro i σ H' hi ⟨y2, y3, rfl, s', hg⟩
      have hil : start + i < lines.length := by omega
      have e1 : V.int ((start : Int) + (i : Nat)) = nI (start + i) := congrArg V.int (by omega)
      rw [e1]
      have ed : ((start + i : Nat) : Int) - (start : Int) = (i : Int) := by omega
      have em : ((i : Nat) : Int) % 2 ^ 1 = ((i % 2 : Nat) : Int) := by omega
      refine ⟨_, rfl, _, rfl, ((start + i : Nat) : Int), (start : Int), rfl, rfl, _, 1, rfl, rfl, rfl, decide (i % 2 = 1), ?_, ?_⟩
      · rw [ed, em]
        exact congrArg V.bl (decide_eq_decide.mpr ⟨fun h => by injection h with h; omega, fun h => by rw [h]; rfl⟩)
      have gl : (lines.map V.str)[start + i]? = some (.str (lines.getD (start + i) ("" : Str))) := by rw [List.getElem?_map, getD_of hil]; rfl
      have eg : gdM lines start (start + i) = Txt.startswith (lines.getD (start + i) ("" : Str)) (mkM i) := by
        unfold gdM
        rw [Nat.add_sub_cancel_left]
      by_cases h2 : i % 2 = 1
      · rw [decide_eq_true h2]
        refine iteT ?_
        rw [show ("< " : Str) = mkM i from (if_pos h2).symm]
        refine ⟨_, rfl, _, rfl, la, _, ((start + i : Nat) : Int), .str (lines.getD (start + i) ("" : Str)), rfl, rfl, SqL.of (s' _ _ hl), atI_nat gl, ⟨_, rfl⟩, _, rfl, _, _, rfl, rfl, Txt.startswith (lines.getD (start + i) ("" : Str)) (mkM i), rfl, ?_⟩
        rw [← eg]
        cases hgd : gdM lines start (start + i) with
        | true =>
          refine iteF ⟨_, _, rfl, s', fun j h1 h3 => ?_⟩
          by_cases e : j = start + i
          · rw [e]
            exact hgd
          · exact hg j h1 (by omega)
        | false =>
          have bad : BadF2 CB "line" (nI (start + i + 1)) "place" (nI 1) H E := by
            rcases cs with ⟨b, b1, b2, b3, b4, bd⟩ | ⟨all, _⟩
            · have eb : b = start + i := by
                rcases Nat.lt_trichotomy b (start + i) with h | h | h
                · rw [hg b b1 h] at b4
                  cases b4
                · exact h
                · rw [b3 (start + i) (by omega) h] at hgd
                  cases hgd
              subst eb
              exact bd
            · rw [all (start + i) (by omega) hil] at hgd
              cases hgd
          refine iteT ⟨_, rfl, ((start + i : Nat) : Int), 1, rfl, rfl, ?_⟩
          have ev : V.int (((start + i : Nat) : Int) + 1) = nI (start + i + 1) := congrArg V.int (by omega)
          dsimp only [tCons, tC, tNil]
          rw [ev]
          exact mk_read2 (v1 := nI (start + i + 1)) (v2 := nI 1) X1.oex X1.no1 X1.no2 (bad.same s')
      · rw [decide_eq_false h2]
        refine iteF ?_
        rw [show ("> " : Str) = mkM i from (if_neg h2).symm]
        refine ⟨_, rfl, _, rfl, la, _, ((start + i : Nat) : Int), .str (lines.getD (start + i) ("" : Str)), rfl, rfl, SqL.of (s' _ _ hl), atI_nat gl, ⟨_, rfl⟩, _, rfl, _, _, rfl, rfl, Txt.startswith (lines.getD (start + i) ("" : Str)) (mkM i), rfl, ?_⟩
        rw [← eg]
        cases hgd : gdM lines start (start + i) with
        | true =>
          refine iteF ⟨_, _, rfl, s', fun j h1 h3 => ?_⟩
          by_cases e : j = start + i
          · rw [e]
            exact hgd
          · exact hg j h1 (by omega)
        | false =>
          have bad : BadF2 CB "line" (nI (start + i + 1)) "place" (nI 1) H E := by
            rcases cs with ⟨b, b1, b2, b3, b4, bd⟩ | ⟨all, _⟩
            · have eb : b = start + i := by
                rcases Nat.lt_trichotomy b (start + i) with h | h | h
                · rw [hg b b1 h] at b4
                  cases b4
                · exact h
                · rw [b3 (start + i) (by omega) h] at hgd
                  cases hgd
              subst eb
              exact bd
            · rw [all (start + i) (by omega) hil] at hgd
              cases hgd
          refine iteT ⟨_, rfl, ((start + i : Nat) : Int), 1, rfl, rfl, ?_⟩
          have ev : V.int (((start + i : Nat) : Int) + 1) = nI (start + i + 1) := congrArg V.int (by omega)
          dsimp only [tCons, tC, tNil]
          rw [ev]
          exact mk_read2 (v1 := nI (start + i + 1)) (v2 := nI 1) X1.oex X1.no1 X1.no2 (bad.same s')
    · rintro σ H' ⟨y2, y3, rfl, s', hg⟩
      rw [hN] at hg
      have hg2 : ∀ j, start ≤ j → j < lines.length → gdM lines start j = true := fun j h1 h3 => hg j h1 (by omega)
      have ed : ((lines.length : Nat) : Int) - (start : Int) = ((lines.length - start : Nat) : Int) := by omega
      have em : ((lines.length - start : Nat) : Int) % 2 ^ 1 = (((lines.length - start) % 2 : Nat) : Int) := by omega
      refine ⟨_, rfl, la, _, rfl, .inl (SqL.of (s' _ _ hl)), _, rfl, (((lines.map V.str).length : Nat) : Int), (start : Int), rfl, rfl, _, 1, rfl, rfl, rfl, decide ((lines.length - start) % 2 = 1), ?_, ?_⟩
      · rw [List.length_map, ed, em]
        exact congrArg V.bl (decide_eq_decide.mpr ⟨fun h => by injection h with h; omega, fun h => by rw [h]; rfl⟩)
      rcases cs with ⟨b, b1, b2, b3, b4, bd⟩ | ⟨_, ⟨hodd, bd⟩ | ⟨heven, q⟩⟩
      · rw [hg2 b b1 b2] at b4
        cases b4
      · rw [decide_eq_true hodd]
        refine iteT ⟨_, rfl, la, _, rfl, .inl (SqL.of (s' _ _ hl)), (((lines.map V.str).length : Nat) : Int), 1, rfl, rfl, ?_⟩
        have ev : V.int ((((lines.map V.str).length : Nat) : Int) + 1) = nI (lines.length + 1) := by rw [List.length_map]; exact congrArg V.int (by omega)
        dsimp only [tCons, tC, tNil]
        rw [ev]
        exact mk_read2 (v1 := nI (lines.length + 1)) (v2 := nI 1) X1.oex X1.no1 X1.no2 (bd.same s')
      · rw [decide_eq_false (by omega)]
        exact iteF (q H' s')
end
end Lt

set_option Elab.async false
set_option linter.all false
set_option maxRecDepth 100000
set_option maxHeartbeats 1000000
/-! xs[i::2] of a list -/
namespace L2
open PySem PySem.Spec PyProof.Rows
def ev2 {α : Type} : List α → List α
  | [] => []
  | [a] => [a]
  | a :: _ :: l => a :: ev2 l
theorem ev2_cons {α : Type} (a : α) (l : List α) : ev2 (a :: l) = a :: ev2 (l.drop 1) := by
  cases l <;> rfl
theorem ev2_len {α : Type} : ∀ l : List α, (ev2 l).length = (l.length + 1) / 2
  | [] => by
    show 0 = (0 + 1) / 2
    omega
  | [a] => by
    show 1 = (0 + 1 + 1) / 2
    omega
  | a :: b :: l => by
    show (ev2 l).length + 1 = _
    rw [ev2_len l, List.length_cons, List.length_cons]
    omega
theorem ev2_map {α β : Type} (f : α → β) : ∀ l : List α, ev2 (l.map f) = (ev2 l).map f
  | [] => rfl
  | [a] => rfl
  | a :: b :: l => by
    show f a :: ev2 (l.map f) = f a :: (ev2 l).map f
    rw [ev2_map f l]
theorem Vals.ev2 : ∀ {xs : List V} {us : List Value}, Vals xs us → Vals (L2.ev2 xs) (L2.ev2 us)
  | _, _, .nil => .nil
  | _, _, .cons r .nil => .cons r .nil
  | _, _, .cons r (.cons _ t) => .cons r (Vals.ev2 t)
theorem pick_ev2 {α : Type} (its : List α) : ∀ (m a : Nat), its.length - a ≤ m → ((List.range ((its.length - a + 1) / 2)).map (fun k => a + 2 * k)).filterMap (its.toArray[·]?) = L2.ev2 (its.drop a)
  | 0, a, h => by
    have e : (its.length - a + 1) / 2 = 0 := by omega
    rw [e, List.drop_of_length_le (by omega)]
    rfl
  | m + 1, a, h => by
    by_cases ha : a < its.length
    · have e : (its.length - a + 1) / 2 = (its.length - (a + 2) + 1) / 2 + 1 := by omega
      rw [e, List.range_succ_eq_map, List.map_cons, List.map_map]
      have e2 : ((fun k => a + 2 * k) ∘ Nat.succ) = fun k => (a + 2) + 2 * k := by
        funext k
        show a + 2 * (k + 1) = _
        omega
      rw [e2, List.drop_eq_getElem_cons ha, ev2_cons, List.drop_drop]
      have ih := pick_ev2 its m (a + 2) (by omega)
      have g : its.toArray[a + 2 * 0]? = some its[a] := by simp [ha]
      rw [List.filterMap_cons, g]
      show its[a] :: _ = its[a] :: _
      rw [ih]
    · have e : (its.length - a + 1) / 2 = 0 := by omega
      rw [e, List.drop_of_length_le (by omega)]
      rfl
theorem slicePick_ev2 (its : List Value) (i : Nat) : slicePick its.toArray (some (i : Int)) none (some 2) = (L2.ev2 (its.drop i)).toArray := by
  have e : sliceBounds (some (i : Int)) none (some 2) its.toArray.size = (((min i its.length : Nat) : Int), ((its.length : Nat) : Int), 2) := by
    simp only [sliceBounds, Option.getD_some, List.size_toArray]
    have h1 : ¬ ((i : Int) < 0) := by omega
    simp only [h1, if_false, show (2 : Int) > 0 by decide, if_true]
    congr 1
    omega
  unfold slicePick
  rw [e]
  have hr : sliceRange ((min i its.length : Nat) : Int) ((its.length : Nat) : Int) 2 = (List.range ((its.length - min i its.length + 1) / 2)).map (fun k => min i its.length + 2 * k) := by
    unfold sliceRange
    simp only [show (2 : Int) > 0 by decide, if_true]
    by_cases h : ((min i its.length : Nat) : Int) < ((its.length : Nat) : Int)
    · have e : ((((its.length : Nat) : Int) - ((min i its.length : Nat) : Int) + 2 - 1) / 2).toNat = (its.length - min i its.length + 1) / 2 := by omega
      rw [if_pos h, e]
      apply List.map_congr_left
      intro k _
      omega
    · have e : (its.length - min i its.length + 1) / 2 = 0 := by omega
      rw [if_neg h, e]
      rfl
  rw [hr]
  have := pick_ev2 its its.length (min i its.length) (by omega)
  rw [this]
  by_cases h : i ≤ its.length
  · rw [Nat.min_eq_left h]
  · rw [Nat.min_eq_right (by omega), List.drop_of_length_le (by omega : its.length ≤ its.length), List.drop_of_length_le (by omega : its.length ≤ i)]
def tSl2 (K : PySem.W.Frag) (te : TE) (tl ts : TO) : TE := fun σ H Q => te σ H fun x H1 => tl σ H1 fun l H2 => ts σ H2 fun k H3 => ∃ a xs i, x = .ref a ∧ SqL K H3 a xs ∧ l = some ((i : Nat) : Int) ∧ k = some 2 ∧ ∀ p, H3 p = none → Q (.ref p) (upd H3 p (.lst (ev2 (xs.drop i))))
theorem pe_slice2 {X : Cx} {e st : Expr} {te : TE} {lo : Option Expr} {tl ts : TO} {pos p2 : Pos} (he : PE X e te) (hl : PO X lo tl) (hs : PO X (some st) ts) : PE X (.Subscript e (.Slice lo none (some st) p2) pos) (tSl2 X.K te tl ts) := by
  refine ⟨fun pins s σ H Q I h => ?_⟩
  refine Subscript_ (thn (he.run pins s σ H _ I h) fun v s1 ⟨x, H1, I1, r1, q1⟩ => ?_)
  refine wpAny_Slice (thn (hl.run pins s1 σ H1 _ I1 q1) fun vl s2 ⟨l, H2, I2, pl, q2⟩ => ?_)
  rw [evalPart_none]
  refine wpAny_pure (thn (hs.run pins s2 σ H2 _ I2 q2) fun vs s3 ⟨k, H3, I3, pk, q3⟩ => ?_)
  obtain ⟨a, xs, i, rfl, hx, rfl, rfl, q⟩ := q3
  have I4 : Inv X pins σ H3 { s3 with heap := s3.heap.push { cls := .type "slice", data := .fields #[vl, .none, vs] } } := I3.kept (t' := s3.toks) fun b ob q => Heap.get?_push_of_some _ q
  cases r1
  obtain ⟨its, r, ht, hz⟩ := I4.list hx
  have hlen := r.length
  show wpAny (model X.prog X.w) X.A (subscriptTail e (.Slice lo none (some st) p2) (.ref a) (.ref s3.heap.objs.size)) (EP X pins σ Q) X.xe { s3 with heap := s3.heap.push { cls := .type "slice", data := .fields #[vl, .none, vs] } }
  refine tail_any (ops := [.ref a, .ref s3.heap.objs.size]) ht.isList.typeIs slot_list_getitem.lookup ?_ (by with_unfolding_all rfl)
  refine wpAny_getItem_list_slice ht.isList (Heap.IsSliceOf.new ..) pl .none pk (by simp) ?_ (by rw [List.size_toArray] <;> omega)
  rw [slicePick_ev2]
  refine ⟨.ref (s3.heap.push { cls := .type "slice", data := .fields #[vl, .none, vs] }).objs.size, _, I4.laid (t' := s3.toks) (o := .lst (ev2 (xs.drop i))) (fun b ob q => Heap.get?_push_of_some _ q) (Nat.le_refl _) ?_, rfl, q _ (I4.hok.fresh (Nat.le_refl _))⟩
  exact ⟨by rw [ev2_len, List.length_drop]; omega, _, 0, (r.drop i).ev2, Heap.get?_push_size _ rfl⟩
end L2

set_option Elab.async false
set_option linter.all false
set_option maxRecDepth 100000
set_option maxHeartbeats 1000000
/-! the lines of a session's text, without their marks -/
namespace Lt
open PySem PySem.Spec PyProof.Rows L2
def toldL (ls : List (List Nat)) (log : List (Str × Str)) : List Str := ls.map lnT ++ (log.map fun b => [b.1, b.2]).flatten
theorem unmark_sessL (ls : List (List Nat)) (log : List (Str × Str)) : (sessL ls log).map (fun x => cutS x (some 2) none) = toldL ls log := by
  have w1 : ("| " : Str).length = 2 := by decide +kernel
  have w2 : ("> " : Str).length = 2 := by decide +kernel
  have w3 : ("< " : Str).length = 2 := by decide +kernel
  unfold sessL toldL
  rw [List.map_append, List.map_map]
  congr 1
  · exact List.map_congr_left fun t _ => cutS_two w1
  · induction log with
    | nil => rfl
    | cons b l ih =>
      rw [List.map_cons, List.flatten_cons, List.map_append, ih, List.map_cons, List.flatten_cons]
      congr 1
      show [cutS (("> " : Str) ++ b.1) (some 2) none, cutS (("< " : Str) ++ b.2) (some 2) none] = _
      rw [cutS_two w2, cutS_two w3]
theorem ev2_fst : ∀ log : List (Str × Str), ev2 (log.map fun b => [b.1, b.2]).flatten = log.map Prod.fst
  | [] => rfl
  | b :: l => by
    show b.1 :: ev2 (l.map fun b => [b.1, b.2]).flatten = b.1 :: l.map Prod.fst
    rw [ev2_fst l]
theorem ev2_snd : ∀ log : List (Str × Str), ev2 ((log.map fun b => [b.1, b.2]).flatten.drop 1) = log.map Prod.snd
  | [] => rfl
  | b :: l => by
    show ev2 (b.2 :: (l.map fun b => [b.1, b.2]).flatten) = b.2 :: l.map Prod.snd
    rw [ev2_cons, ev2_snd l]
theorem told_fst (ls : List (List Nat)) (log : List (Str × Str)) : ev2 ((toldL ls log).drop ls.length) = log.map Prod.fst := by
  unfold toldL
  rw [List.drop_left' (by rw [List.length_map]), ev2_fst]
theorem told_snd (ls : List (List Nat)) (log : List (Str × Str)) : ev2 ((toldL ls log).drop (ls.length + 1)) = log.map Prod.snd := by
  unfold toldL
  rw [← List.drop_drop, List.drop_left' (by rw [List.length_map]), ev2_snd]
end Lt

set_option Elab.async false
set_option linter.all false
set_option maxRecDepth 100000
set_option maxHeartbeats 1000000
/-! which marks the lines of a session's text begin with -/
namespace Lt
open PySem PySem.Spec PyProof.Rows L2
open TL (tl)
theorem stw_app {a b : Str} (x : Str) (h : a.length = b.length) : Txt.startswith (a ++ x) b = (a.cps == b.cps) := by
  have e : (a ++ x).cps.extract 0 (0 + b.length) = a.cps := by
    apply Array.toList_inj.mp
    rw [Array.toList_extract]
    show List.extract (tl (a ++ x)) 0 (0 + b.length) = tl a
    rw [TL.tl_append, Nat.zero_add, List.extract_eq_drop_take, Nat.sub_zero, List.drop_zero]
    exact List.take_left' (by rw [← TL.len_tl, h])
  have l : decide (0 + b.length ≤ (a ++ x).length) = true := decide_eq_true (by rw [app_len, h]; omega)
  unfold Txt.startswith
  show (decide (0 + b.length ≤ (a ++ x).length) && ((a ++ x).cps.extract 0 (0 + b.length) == b.cps)) = _
  rw [l, e, Bool.true_and]
theorem mark_flat : ∀ (log : List (Str × Str)) (j : Nat), j < 2 * log.length → Txt.startswith ((log.map prL).flatten.getD j ("" : Str)) (mkM j) = true
  | [], j, h => by
    exfalso
    simp at h
  | b :: l, 0, _ => by
    show Txt.startswith (("> " : Str) ++ b.1) ("> " : Str) = true
    rw [stw_app b.1 rfl]
    decide +kernel
  | b :: l, 1, _ => by
    show Txt.startswith (("< " : Str) ++ b.2) ("< " : Str) = true
    rw [stw_app b.2 rfl]
    decide +kernel
  | b :: l, j + 2, h => by
    have e : mkM (j + 2) = mkM j := by
      unfold mkM
      rw [Nat.add_mod_right]
    rw [e]
    show Txt.startswith ((l.map prL).flatten.getD j ("" : Str)) (mkM j) = true
    exact mark_flat l j (by rw [List.length_cons] at h; omega)
theorem gdM_sess (ls : List (List Nat)) (log : List (Str × Str)) (i : Nat) (h1 : ls.length ≤ i) (h2 : i < ls.length + 2 * log.length) : gdM (sessL ls log) ls.length i = true := by
  unfold gdM sessL
  have e : (ls.map (fun t => ("| " : Str) ++ lnT t) ++ (log.map prL).flatten).getD i ("" : Str) = (log.map prL).flatten.getD (i - ls.length) ("" : Str) := by
    rw [List.getD_eq_getElem?_getD, List.getD_eq_getElem?_getD, List.getElem?_append_right (by rw [List.length_map]; exact h1), List.length_map]
  rw [e]
  exact mark_flat log _ (by omega)
end Lt

set_option Elab.async false
set_option linter.all false
set_option maxRecDepth 100000
set_option maxHeartbeats 2000000
/-! list(zip(xs, ys)) of two lists -/
namespace Lt
open PySem PySem.Spec PyProof.Rows L2
theorem zg_no_len : typeLookup (.type "zip") "__len__" = pure none := am_miss_of_fast (by decide +kernel)
theorem zg_no_hint : typeLookup (.type "zip") "__length_hint__" = pure none := am_miss_of_fast (by decide +kernel)
/-- the tuples that were handed out, one above the other -/
structure ZgG (us ws : List Value) (lo : Addr) (h : Heap) (as : List Addr) : Prop where
  up : as.Pairwise (· < ·)
  lo : ∀ a ∈ as, lo < a
  at' : ∀ (j : Nat) (a : Addr), as[j]? = some a → ∃ x y, us[j]? = some x ∧ ws[j]? = some y ∧ IsPair h a x y
theorem ZgG.lt {us ws : List Value} {lo : Addr} {h : Heap} {as : List Addr} (g : ZgG us ws lo h as) {a : Addr} (ha : a ∈ as) : a < h.objs.size := by
  obtain ⟨j, hj⟩ := List.mem_iff_getElem?.mp ha
  obtain ⟨_, _, _, _, e⟩ := g.at' j a hj
  exact Heap.lt_size e
/-- where the zip at z stands, while all that it handed out is held -/
def ZgSt (h : Heap) (S z TI TO i1 i2 l1 l2 : Addr) (i : Nat) : Prop :=
  IsPair h TI (.ref i1) (.ref i2) ∧ h.IsListIter i1 l1 i ∧ h.IsListIter i2 l2 i ∧
  ((IsZip h z TI TO .none ∧ ∃ a b, IsPair h TO a b) ∨ ∃ T f oT, IsZipHeld h z TI TO T f ∧ h.get? T = some oT ∧ T ≠ z ∧ T ≠ i1 ∧ T ≠ i2 ∧ T ≠ S)
/-- none of the zip's own objects is S -/
structure ZgAp (S z TI TO i1 i2 l1 l2 : Addr) : Prop where
  D : ZipApart z TI TO i1 i2 l1 l2
  z : z ≠ S
  ti : TI ≠ S
  to : TO ≠ S
  i1 : i1 ≠ S
  i2 : i2 ≠ S
  l1 : l1 ≠ S
  l2 : l2 ≠ S
theorem ZgSt.keep {h h' : Heap} {S z TI TO i1 i2 l1 l2 : Addr} {i : Nat} (P : ZgAp S z TI TO i1 i2 l1 l2) (x : ZgSt h S z TI TO i1 i2 l1 l2 i) (hk : ∀ b o, b ≠ S → h.get? b = some o → h'.get? b = some o) : ZgSt h' S z TI TO i1 i2 l1 l2 i := by
  obtain ⟨h1, h2, h3, h4⟩ := x
  refine ⟨hk _ _ P.ti h1, h2.at fun o e => hk _ o P.i1 e, h3.at fun o e => hk _ o P.i2 e, ?_⟩
  rcases h4 with ⟨hz, a, b, ht⟩ | ⟨T, f, oT, hz, hT, n1, n2, n3, n4⟩
  · exact .inl ⟨hk _ _ P.z hz, a, b, hk _ _ P.to ht⟩
  · exact .inr ⟨T, f, oT, hk _ _ P.z hz, hk _ _ n4 hT, n1, n2, n3, n4⟩
section
variable {prog : Program} {w : World} {A : Around} {E : Value → Shared → Prop} {s : Shared} {S z TI TO i1 i2 l1 l2 : Addr} {us ws : Array Value}
theorem zg_item {i : Nat} {x y : Value} {Q : Option Value → Shared → Prop} (P : ZgAp S z TI TO i1 i2 l1 l2) (hst : ZgSt s.heap S z TI TO i1 i2 l1 l2 i) (hS : S < s.heap.objs.size) (hl1 : s.heap.IsList l1 us) (hl2 : s.heap.IsList l2 ws) (hx : us[i]? = some x) (hy : ws[i]? = some y)
    (hQ : ∀ h', ZgSt h' S z TI TO i1 i2 l1 l2 (i + 1) → IsPair h' s.heap.objs.size x y → h'.objs.size = s.heap.objs.size + 1 → (∀ c o, c ≠ z → c ≠ TO → c ≠ i1 → c ≠ i2 → s.heap.get? c = some o → h'.get? c = some o) → Q (some (.ref s.heap.objs.size)) { s with heap := h' }) :
    wpAny (model prog w) A (pyNext (.ref z)) Q E s := by
  obtain ⟨h1, h2, h3, h4⟩ := hst
  have lz : ∀ {c o}, s.heap.get? c = some o → s.heap.objs.size ≠ c := fun e => Nat.ne_of_gt (Heap.lt_size e)
  have li1 : s.heap.objs.size ≠ i1 := let ⟨_, e, _⟩ := h2; lz e
  have li2 : s.heap.objs.size ≠ i2 := let ⟨_, e, _⟩ := h3; lz e
  rcases h4 with ⟨hz, a, b, ht⟩ | ⟨T, f, oT, hz, hT, n1, n2, n3, n4⟩
  · exact wpAny_pyNext_zip_item P.D hz h1 ht h2 h3 hl1 hl2 hx hy fun h' hz' _ h2' h3' hT' hsz hk => hQ h' ⟨hk _ _ P.D.TIz P.D.TITO P.D.TIi1 P.D.TIi2 h1, h2', h3', .inr ⟨_, false, _, hz', hT', lz hz, li1, li2, Nat.ne_of_gt hS⟩⟩ hT' hsz hk
  · exact wpAny_pyNext_zip_item_held P.D hz hT h1 h2 h3 hl1 hl2 hx hy fun h' hz' h2' h3' hT' hsz hk => hQ h' ⟨hk _ _ P.D.TIz P.D.TIi1 P.D.TIi2 h1, h2', h3', .inr ⟨T, true, oT, hz', hk _ _ n1 n2 n3 hT, n1, n2, n3, n4⟩⟩ hT' hsz fun c o c1 _ c3 c4 => hk c o c1 c3 c4
theorem zg_done {i : Nat} {Q : Option Value → Shared → Prop} (hh : A.handled = none) (P : ZgAp S z TI TO i1 i2 l1 l2) (hst : ZgSt s.heap S z TI TO i1 i2 l1 l2 i) (hl1 : s.heap.IsList l1 us) (hl2 : s.heap.IsList l2 ws) (hx : us[i]? = none ∨ ws[i]? = none)
    (hQ : ∀ h', (∀ c o, c ≠ z → c ≠ TO → c ≠ i1 → c ≠ i2 → s.heap.get? c = some o → h'.get? c = some o) → Q none { s with heap := h' }) : wpAny (model prog w) A (pyNext (.ref z)) Q E s := by
  obtain ⟨h1, h2, h3, h4⟩ := hst
  rcases h4 with ⟨hz, a, b, ht⟩ | ⟨T, f, oT, hz, hT, n1, n2, n3, n4⟩
  · exact wpAny_pyNext_zip_end hh P.D hz h1 ht h2 h3 hl1 hl2 hx hQ
  · exact wpAny_pyNext_zip_end_held hh P.D hz hT h1 h2 h3 hl1 hl2 hx fun h' hk => hQ h' fun c o c1 _ c3 c4 => hk c o c1 c3 c4
end
section
variable {prog : Program} {w : World} {A : Around} {s : Shared} {R : Result → Shared → Prop} {S z TI TO i1 i2 l1 l2 : Addr} {us ws : List Value}
/-- all objects of the zip and of its lists lie at most at z -/
structure ZgLow (z TI TO i1 i2 l1 l2 S : Addr) : Prop where
  ti : TI ≤ z
  to : TO ≤ z
  i1 : i1 ≤ z
  i2 : i2 ≤ z
theorem zg_loop (hh : A.handled = none) (P : ZgAp S z TI TO i1 i2 l1 l2) (L : ZgLow z TI TO i1 i2 l1 l2 S) (hzS : z < S) (res : Value) {h₁ : Heap} (hln : us.length = ws.length) (hn : us.length ≤ sizeLine)
    (hR : ∀ h' tk acc c as, (∀ b o, b ≠ S → b ≠ z → b ≠ TO → b ≠ i1 → b ≠ i2 → h₁.get? b = some o → h'.get? b = some o) → h'.get? S = some { cls := .type "list", dict := none, data := .seq acc c, slots := #[] } → as.length = us.length → ZgG us ws S h' as →
      acc.toList = as.map Value.ref → R (.ok (.ret res)) { s with heap := h', toks := tk }) :
    ∀ (k i : Nat) (h : Heap) (tk c : Nat) (acc : Array Value) (as : List Addr), us.length - i = k → i ≤ us.length → ZgSt h S z TI TO i1 i2 l1 l2 i → h.IsList l1 us.toArray → h.IsList l2 ws.toArray → (∀ b o, b ≠ S → b ≠ z → b ≠ TO → b ≠ i1 → b ≠ i2 → h₁.get? b = some o → h.get? b = some o) →
      h.get? S = some { cls := .type "list", dict := none, data := .seq acc c, slots := #[] } → acc.toList = as.map Value.ref → as.length = i → ZgG us ws S h as →
      codeAny (model prog w) A (.builtin "list.extend.loop" ⟨[.ref S, .ref z, res], []⟩) R { s with heap := h, toks := tk } := by
  have hi1S := Nat.lt_of_le_of_lt L.i1 hzS
  have hi2S := Nat.lt_of_le_of_lt L.i2 hzS
  have htoS := Nat.lt_of_le_of_lt L.to hzS
  intro k
  induction k with
  | zero =>
    intro i h tk c acc as hk hi hst hl1 hl2 hkeep hS hacc hal hG
    have hin : i = us.length := by omega
    refine codeAny_builtin PySem.F.entry_extend_loop (Around.under_plainId PySem.F.plain_extend_loop _ ▸ ?_)
    show wpAny _ A.in1 (pyNext (.ref z) >>= _) _ _ _
    have hnone : us.toArray[i]? = none := by rw [List.getElem?_toArray]; exact List.getElem?_eq_none (by omega)
    refine wpAny_bind (zg_done (s := { s with heap := h, toks := tk }) (A := A.in1) hh P hst hl1 hl2 (.inl hnone) fun h' he => ?_)
    refine wpAny_pure (hR h' tk acc c as (fun b o h1 h2 h3 h4 h5 e => he b o h2 h3 h4 h5 (hkeep b o h1 h2 h3 h4 h5 e)) (he S _ (Nat.ne_of_gt hzS) (Nat.ne_of_gt htoS) (Nat.ne_of_gt hi1S) (Nat.ne_of_gt hi2S) hS) (by omega) ⟨hG.up, hG.lo, fun j a hj => ?_⟩ hacc)
    obtain ⟨x, y, e1, e2, e3⟩ := hG.at' j a hj
    have lo := hG.lo a (List.mem_of_getElem? hj)
    exact ⟨x, y, e1, e2, he a _ (Nat.ne_of_gt (Nat.lt_trans hzS lo)) (Nat.ne_of_gt (Nat.lt_trans htoS lo)) (Nat.ne_of_gt (Nat.lt_trans hi1S lo)) (Nat.ne_of_gt (Nat.lt_trans hi2S lo)) e3⟩
  | succ k ih =>
    intro i h tk c acc as hk hi hst hl1 hl2 hkeep hS hacc hal hG
    have hlt : i < us.length := by omega
    obtain ⟨x, hx⟩ : ∃ x, us[i]? = some x := ⟨us[i], List.getElem?_eq_getElem hlt⟩
    obtain ⟨y, hy⟩ : ∃ y, ws[i]? = some y := ⟨ws[i]'(by omega), List.getElem?_eq_getElem (by omega)⟩
    have hsz : acc.size = i := by rw [← Array.length_toList, hacc, List.length_map, hal]
    have hSl : S < h.objs.size := Heap.lt_size hS
    refine codeAny_builtin PySem.F.entry_extend_loop (Around.under_plainId PySem.F.plain_extend_loop _ ▸ ?_)
    show wpAny _ A.in1 (pyNext (.ref z) >>= _) _ _ _
    refine wpAny_bind (zg_item (s := { s with heap := h, toks := tk }) (x := x) (y := y) P hst hSl hl1 hl2 (by rw [List.getElem?_toArray]; exact hx) (by rw [List.getElem?_toArray]; exact hy) fun h' hst' ht hz hkp => ?_)
    dsimp only at ht hz hkp ⊢
    have hS' := hkp S _ (Nat.ne_of_gt hzS) (Nat.ne_of_gt htoS) (Nat.ne_of_gt hi1S) (Nat.ne_of_gt hi2S) hS
    have up : ∀ b o, b ≠ S → h'.get? b = some o → (h'.update S (Obj.mapSeq (·.push (Value.ref h.objs.size)))).get? b = some o := fun b o nb q => (Heap.get?_update_other _ _ (Ne.symm nb)).trans q
    have hl1' : h'.IsList l1 us.toArray := hl1.at fun o e => hkp _ o P.D.l1z P.D.l1TO P.D.l1i1 P.D.l1i2 e
    have hl2' : h'.IsList l2 ws.toArray := hl2.at fun o e => hkp _ o P.D.l2z P.D.l2TO P.D.l2i1 P.D.l2i2 e
    show wpAny _ A.in1 (updateSeq S (·.push (Value.ref h.objs.size)) >>= _) _ _ _
    refine wpAny_bind (wpAny_updateSeq hS' rfl (wpAny_pure ⟨plainId_quiet PySem.F.plain_extend_loop _, ih (i + 1) _ tk _ (acc.push (Value.ref h.objs.size)) (as ++ [h.objs.size]) (by omega) hlt (hst'.keep P up) (hl1'.at fun o e => up l1 o P.l1 e) (hl2'.at fun o e => up l2 o P.l2 e)
      (fun b o h1 h2 h3 h4 h5 e => up b o h1 (hkp b o h2 h3 h4 h5 (hkeep b o h1 h2 h3 h4 h5 e))) (Heap.get?_update_self _ hS' rfl) (by rw [Array.toList_push, hacc, List.map_append]; rfl) (by rw [List.length_append, hal]; rfl) ⟨?_, ?_, ?_⟩⟩) (by rw [hsz]; omega) (by show (acc.push (Value.ref h.objs.size)).size ≤ sizeLine + 1; rw [Array.size_push, hsz]; omega))
    · refine List.pairwise_append.mpr ⟨hG.up, List.pairwise_singleton _ _, fun a ha b hb => ?_⟩
      exact List.mem_singleton.mp hb ▸ hG.lt ha
    · intro a ha
      rcases List.mem_append.mp ha with m | m
      · exact hG.lo a m
      · exact List.mem_singleton.mp m ▸ hSl
    · intro j b hj
      rcases Nat.lt_trichotomy j as.length with q | q | q
      · rw [List.getElem?_append_left q] at hj
        obtain ⟨x', y', e1, e2, e3⟩ := hG.at' j b hj
        have lo := hG.lo b (List.mem_of_getElem? hj)
        exact ⟨x', y', e1, e2, up b _ (Nat.ne_of_gt lo) (hkp b _ (Nat.ne_of_gt (Nat.lt_trans hzS lo)) (Nat.ne_of_gt (Nat.lt_trans htoS lo)) (Nat.ne_of_gt (Nat.lt_trans hi1S lo)) (Nat.ne_of_gt (Nat.lt_trans hi2S lo)) e3)⟩
      · subst q
        have hb : h.objs.size = b := by simpa using hj
        subst hb
        exact ⟨x, y, hal ▸ hx, hal ▸ hy, up _ _ (Nat.ne_of_gt hSl) ht⟩
      · have no : (as ++ [h.objs.size])[j]? = none := List.getElem?_eq_none (by rw [List.length_append, List.length_singleton]; omega)
        rw [no] at hj
        cases hj
end
section
variable {prog : Program} {w : World} {A : Around} {E : Value → Shared → Prop} {s : Shared} {z TI TO i1 i2 l1 l2 : Addr} {us ws : List Value}
theorem zg_call {Q : Value → Shared → Prop} (hh : A.handled = none) (D : ZipApart z TI TO i1 i2 l1 l2) (L : ZgLow z TI TO i1 i2 l1 l2 z) (hz : IsZip s.heap z TI TO .none) (hti : IsPair s.heap TI (.ref i1) (.ref i2)) (hto : ∃ a b, IsPair s.heap TO a b) (h1 : s.heap.IsListIter i1 l1 0) (h2 : s.heap.IsListIter i2 l2 0)
    (hl1 : s.heap.IsList l1 us.toArray) (hl2 : s.heap.IsList l2 ws.toArray) (hln : us.length = ws.length) (hn : us.length ≤ sizeLine)
    (hQ : ∀ h' tk acc c as, (∀ b o, b ≠ z → b ≠ TO → b ≠ i1 → b ≠ i2 → s.heap.get? b = some o → h'.get? b = some o) → h'.get? s.heap.objs.size = some { cls := .type "list", dict := none, data := .seq acc c, slots := #[] } → as.length = us.length → ZgG us ws s.heap.objs.size h' as → acc.toList = as.map Value.ref → Q (.ref s.heap.objs.size) { s with heap := h', toks := tk }) :
    wpAny (model prog w) A (call (.type "list") [.ref z]) Q E s := by
  refine callType_codes (Q₁ := fun q t => q = .ref s.heap.objs.size ∧ t = { s with heap := s.heap.push { cls := .type "list", data := .seq #[] } }) PySem.F.called_list (PySem.F.typeCall_list_1 _) PySem.F.entry_list_init (code_list_new _ ⟨rfl, rfl⟩) fun q t ht => ?_
  obtain ⟨rfl, rfl⟩ := ht
  have hS : (s.heap.push { cls := .type "list", data := .seq #[] }).get? s.heap.objs.size = some { cls := .type "list", data := .seq #[] } := Heap.get?_push_size _ rfl
  have pu : ∀ b o, s.heap.get? b = some o → (s.heap.push { cls := .type "list", data := .seq #[] }).get? b = some o := fun b o e => Heap.get?_push_of_some _ e
  have lzS : z < s.heap.objs.size := Heap.lt_size hz
  have P : ZgAp s.heap.objs.size z TI TO i1 i2 l1 l2 := ⟨D, Nat.ne_of_lt lzS, Nat.ne_of_lt (Heap.lt_size hti), Nat.ne_of_lt (let ⟨_, _, e⟩ := hto; Heap.lt_size e), Nat.ne_of_lt (let ⟨_, e, _⟩ := h1; Heap.lt_size e), Nat.ne_of_lt (let ⟨_, e, _⟩ := h2; Heap.lt_size e), Nat.ne_of_lt (let ⟨_, e, _⟩ := hl1; Heap.lt_size e), Nat.ne_of_lt (let ⟨_, e, _⟩ := hl2; Heap.lt_size e)⟩
  have st0 : ZgSt s.heap s.heap.objs.size z TI TO i1 i2 l1 l2 0 := ⟨hti, h1, h2, .inl ⟨hz, hto⟩⟩
  refine ⟨⟨_, hS, rfl⟩, PySem.F.args_list_init_2 _ _, ?_⟩
  have nS : ∀ b o, s.heap.get? b = some o → b ≠ s.heap.objs.size := fun b o e => Nat.ne_of_lt (Heap.lt_size e)
  have fin : ∀ (h : Heap) (c₁ tk : Nat), (∀ b o, b ≠ s.heap.objs.size → s.heap.get? b = some o → h.get? b = some o) → h.get? s.heap.objs.size = some { cls := .type "list", data := .seq #[] c₁ } →
      codeAny (model prog w) A.in1 (.builtin "list.extend.loop" ⟨[.ref s.heap.objs.size, .ref z, .none], []⟩) (wants (fun r s₂ => r = .none ∧ Q (.ref s.heap.objs.size) s₂) E) { s with heap := h, toks := tk } := fun h c₁ tk hk hS₁ =>
    zg_loop (A := A.in1) (us := us) (ws := ws) (h₁ := s.heap) hh P ⟨L.ti, L.to, L.i1, L.i2⟩ lzS .none hln hn (fun h' tk' acc c as hk' hS' hl hG hacc => ⟨rfl, hQ h' tk' acc c as (fun b o e1 e2 e3 e4 e => hk' b o (nS b o e) e1 e2 e3 e4 e) hS' hl hG hacc⟩)
      us.length 0 h tk c₁ #[] [] (Nat.sub_zero _) (Nat.zero_le _) (st0.keep P hk) (hl1.at fun o e => hk _ o P.l1 e) (hl2.at fun o e => hk _ o P.l2 e) (fun b o nb _ _ _ _ e => hk b o nb e) hS₁ rfl rfl ⟨List.Pairwise.nil, (fun _ m => nomatch m), (fun j a hj => by simp at hj)⟩
  have hTz : ∀ h : Heap, (∀ b o, b ≠ s.heap.objs.size → s.heap.get? b = some o → h.get? b = some o) → ∃ o, h.get? z = some o ∧ o.cls = .type "zip" := fun h hk => ⟨_, hk _ _ P.z hz, rfl⟩
  have ot : ∀ (h : Heap) (f : Array Value → Array Value), (∀ b o, b ≠ s.heap.objs.size → s.heap.get? b = some o → h.get? b = some o) → ∀ b o, b ≠ s.heap.objs.size → s.heap.get? b = some o → (h.update s.heap.objs.size (Obj.mapSeq f)).get? b = some o := fun h f hk b o nb e => (Heap.get?_update_other _ _ (Ne.symm nb)).trans (hk b o nb e)
  show wpAny _ _ (do let old ← Builtin.List.listItems (.ref s.heap.objs.size); Builtin.List.listUpdate (.ref s.heap.objs.size) (fun _ => #[]); letGo old.toList.reverse; Builtin.List.listExtendWith (.ref s.heap.objs.size) (.ref z) .none) _ _ _
  refine wpAny_bind ?_
  unfold Builtin.List.listItems
  refine wpAny_bind (wpAny_seqItems hS rfl (wpAny_pure ?_))
  show wpAny _ _ (updateSeq s.heap.objs.size (fun _ => #[]) >>= fun _ => letGo (#[] : Array Value).toList.reverse >>= fun _ => Builtin.List.listExtendWith (.ref s.heap.objs.size) (.ref z) .none) _ _ _
  refine wpAny_bind (wpAny_updateSeq hS rfl (wpAny_bind (wpAny_letGo ?_)))
  have hS2 := Heap.get?_update_self (Obj.mapSeq (fun _ => (#[] : Array Value))) hS rfl
  have k2 := ot _ (fun _ => (#[] : Array Value)) fun b o _ e => pu b o e
  generalize (s.heap.push { cls := .type "list", data := .seq #[] }).update s.heap.objs.size (Obj.mapSeq fun _ => (#[] : Array Value)) = h2 at *
  unfold Builtin.List.listExtendWith
  refine wpAny_bind (wpAny_typeOf (T := "zip") (hTz h2 k2) ?_)
  have q1 : Builtin.List.listSameRef (.ref s.heap.objs.size) (.ref z) = false := by simp [Builtin.List.listSameRef, Ne.symm P.z]
  have q2 : (Value.type "zip" == Value.type "list") = false := by decide
  have q3 : (Value.type "zip" == Value.type "tuple") = false := by decide
  simp only [q1, q2, q3, Bool.or_false, Bool.false_eq_true, if_false]
  refine wpAny_bind (wpAny_pyIter_zip (k2 _ _ P.z hz) (wpAny_bind (wpAny_holding ?_)))
  unfold Builtin.List.listLengthHint
  refine wpAny_bind (wpAny_specialOf (hTz h2 k2) zg_no_len ?_)
  show wpAny _ _ (specialOf (Value.ref z) (Str.ofString "__length_hint__") >>= _) _ _ _
  refine wpAny_bind (wpAny_specialOf (hTz h2 k2) zg_no_hint (wpAny_pure ?_))
  show wpAny _ _ (rule "list.extend.makes-room" >>= fun _ => Builtin.List.listTouch (.ref s.heap.objs.size) >>= fun _ => again (.builtin "list.extend.loop" ⟨[.ref s.heap.objs.size, .ref z, .none], []⟩)) _ _ _
  refine wpAny_bind (wpAny_rule (wpAny_bind ?_))
  show wpAny _ _ (updateSeq s.heap.objs.size (·.push .none) >>= fun _ => updateSeq s.heap.objs.size (·.pop)) _ _ _
  have hS3 := Heap.get?_update_self (Obj.mapSeq (·.push Value.none)) hS2 rfl
  refine wpAny_bind (wpAny_updateSeq hS2 rfl (wpAny_updateSeq (hz := by seq_fits) hS3 rfl ?_))
  have hS4 := Heap.get?_update_self (Obj.mapSeq (·.pop)) hS3 rfl
  exact wpAny_pure ⟨plainId_quiet PySem.F.plain_extend_loop _, fin _ _ _ (ot _ _ (ot _ _ k2)) hS4⟩
end
/-! ### as a rule for expressions -/
/-- the tuples tracked at their addresses -/
def laidT : Hp → List Addr → List (V × V) → Hp
  | H, a :: as, p :: ps => laidT (upd H a (.tup [p.1, p.2])) as ps
  | H, _, _ => H
theorem laidT_off {b : Addr} : ∀ (as : List Addr) (ps : List (V × V)) (H : Hp), b ∉ as → laidT H as ps b = H b
  | [], _, _, _ => rfl
  | _ :: _, [], _, _ => rfl
  | a :: as, p :: ps, H, h => (laidT_off as ps _ (fun m => h (List.mem_cons_of_mem _ m))).trans (upd_ne (fun e => h (e ▸ List.mem_cons_self)))
theorem laidT_at : ∀ (as : List Addr) (ps : List (V × V)) (H : Hp), as.length = ps.length → as.Nodup → Paired (fun (t : Addr) (p : V × V) => laidT H as ps t = some (.tup [p.1, p.2])) as ps
  | [], [], _, _, _ => .nil
  | [], _ :: _, _, h, _ => by cases h
  | _ :: _, [], _, h, _ => by cases h
  | a :: as, p :: ps, H, h, hn => by
    obtain ⟨n1, n2⟩ := List.nodup_cons.mp hn
    exact .cons ((laidT_off as ps _ n1).trans upd_same) (laidT_at as ps _ (Nat.succ.inj h) n2)
def tListZip (K : PySem.W.Frag) (ta : TA) : TE := fun σ H Q => ta σ H fun vs H1 => ∃ a b xs ys, vs = [.ref a, .ref b] ∧ SqL K H1 a xs ∧ SqL K H1 b ys ∧ xs.length = ys.length ∧
  ∀ (H' : Hp) (p : Addr) (ts : List Addr), Same H1 H' → H1 p = none → H' p = some (.lst (ts.map V.ref)) → Paired (fun (t : Addr) (q : V × V) => H' t = some (.tup [q.1, q.2])) ts (xs.zip ys) → Q (.ref p) H'
section
variable {X : Cx} {e e2 : Expr} {ta : TA} {p p2 cpos pos : Pos}
theorem zg_laid {pins : List (Addr × Obj)} {σ : L2.St} {H : Hp} {s : Shared} {h' : Heap} {tk c S : Nat} {xs ys : List V} {us ws : List Value} {acc : Array Value} {as : List Addr} (I : Inv X pins σ H s) (hlo : s.heap.objs.size ≤ S) (hl0 : xs.length ≤ sizeLine) (hln : xs.length = ys.length) (rx : Vals xs us) (ry : Vals ys ws)
    (hk : ∀ b o, s.heap.get? b = some o → h'.get? b = some o) (hS : h'.get? S = some { cls := .type "list", dict := none, data := .seq acc c, slots := #[] }) (hl : as.length = us.length) (hG : ZgG us ws S h' as) (hacc : acc.toList = as.map Value.ref) :
    ∃ H' : Hp, Same H H' ∧ H S = none ∧ H' S = some (.lst (as.map V.ref)) ∧ Paired (fun (t : Addr) (q : V × V) => H' t = some (.tup [q.1, q.2])) as (xs.zip ys) ∧ Inv X pins σ H' { s with heap := h', toks := tk } := by
  have hn : as.length = (xs.zip ys).length := by rw [hl, ← rx.length, List.length_zip, ← hln, Nat.min_self]
  have hSn : S ∉ as := fun m => Nat.lt_irrefl _ (hG.lo _ m)
  have nd : as.Nodup := hG.up.imp fun q => Nat.ne_of_lt q
  have new : ∀ t ∈ as, H t = none := fun t m => I.hok.fresh (Nat.le_trans hlo (Nat.le_of_lt (hG.lo t m)))
  have newS : H S = none := I.hok.fresh hlo
  have atP := laidT_at as (xs.zip ys) (upd H S (.lst (as.map V.ref))) hn nd
  have off : ∀ b, b ∉ as → b ≠ S → laidT (upd H S (.lst (as.map V.ref))) as (xs.zip ys) b = H b := fun b h1 h2 => (laidT_off as _ _ h1).trans (upd_ne h2)
  have kp : ∀ b u, H b = some u → (laidT (upd H S (.lst (as.map V.ref))) as (xs.zip ys)) b = some u := fun b u q => (off b (fun m => by rw [new b m] at q; cases q) (fun m => by rw [m, newS] at q; cases q)).trans q
  have eS : laidT (upd H S (.lst (as.map V.ref))) as (xs.zip ys) S = some (.lst (as.map V.ref)) := (laidT_off as _ _ hSn).trans upd_same
  refine ⟨_, kp, newS, eS, atP, ?_⟩
  refine I.call' (ch := []) rfl ⟨fun b o q _ _ _ => hk b o q, fun b o q _ _ _ => ⟨o.slots, hk b o q⟩, fun b o q n _ => ?_, fun b o q _ => ⟨o, hk b o q⟩, fun b l q => kp b _ q, fun b o u q => kp b _ q, fun b l q => ⟨#[], by rw [kp b _ q]; simp⟩⟩ (fun b u q => ?_) I.bare fun b m => by simp at m
  · have lt : b < s.heap.objs.size := Heap.lt_size q
    exact (off b (fun m => Nat.lt_irrefl _ (Nat.lt_trans lt (Nat.lt_of_le_of_lt hlo (hG.lo b m)))) (fun m => Nat.lt_irrefl b (Nat.lt_of_lt_of_le lt (m ▸ hlo)))).trans n
  · by_cases hb : b ∈ as
    · obtain ⟨j, pk, e1, e2, e3⟩ := LiI.paired_ix atP hb
      rw [e3] at q
      cases q
      obtain ⟨x, y, f1, f2, f3⟩ := hG.at' j b e1
      rw [List.getElem?_zip_eq_some] at e2
      obtain ⟨x', g1, r1⟩ := rx.get e2.1
      obtain ⟨y', g2, r2⟩ := ry.get e2.2
      rw [f1] at g1
      rw [f2] at g2
      cases g1
      cases g2
      exact ⟨by show 2 ≤ sizeLine; decide, [x, y], .cons r1 (.cons r2 .nil), ⟨_, f3, rfl, _, rfl⟩⟩
    · by_cases hb2 : b = S
      · rw [hb2] at q ⊢
        rw [eS] at q
        cases q
        refine ⟨by rw [List.length_map, hl, ← rx.length]; omega, acc.toList, c, by rw [hacc]; exact LiI.vals_refs as, ?_⟩
        rw [Array.toArray_toList]
        exact hS
      · rw [off b hb hb2] at q
        exact (I.hok b u q).stay (fun d v _ y => hk d v y) (fun d y => kp d _ y) fun d l y => kp d _ y
theorem pe_listZip (hc : X.calm = true) (ha : PA X [e, e2] ta) (hg : Gl X "list") (hm : X.mg "list" = none) (hv : bootBuiltins "list" = some (.type "list")) (hg2 : Gl X "zip") (hm2 : X.mg "zip" = none)
    (hs2 : starEach [e, e2] X.env = (false, eval e X.env) :: starEach [e2] X.env := by rfl) (hpl2 : (backTo cpos (starEach [e2] X.env)).any (·.1) = false := by rfl)
    (hs : starEach [.Call (.Name "zip" p2) [e, e2] [] cpos] X.env = (false, eval (.Call (.Name "zip" p2) [e, e2] [] cpos) X.env) :: starEach [] X.env := by rfl) :
    PE X (.Call (.Name "list" p) [.Call (.Name "zip" p2) [e, e2] [] cpos] [] pos) (tListZip X.K ta) := by
  refine ⟨fun pins s σ H Q I hq => ?_⟩
  refine wpAny_Call_Name_kw (ld_blt I hg hm hv (PyProof.Rows.callWith_type1 ?_ hs rfl))
  rw [hs]
  show wpAny _ _ (spliced ((false, eval (.Call (.Name "zip" p2) [e, e2] [] cpos) X.env) :: backTo pos (starEach [] X.env))) _ _ s
  refine Calls.spliced_cons (Call_ (ld_blt I hg2 hm2 PyProof.Rows.boot_zip (PyProof.Rows.callWith_type1 (thn (ha.run cpos pins s σ H _ I hq) fun vs s1 ⟨ws, H1, I1, r1, q1⟩ => ?_) hs2 hpl2)))
  obtain ⟨a, b, xs, ys, ex, hqx, hqy, hln, q⟩ := q1
  subst ex
  obtain ⟨v1, v2, rfl, e1, e2'⟩ := vals2 r1
  obtain rfl : v1 = Value.ref a := e1
  obtain rfl : v2 = Value.ref b := e2'
  obtain ⟨us, rx, px, hx0⟩ := I1.list hqx
  obtain ⟨us2, ry, py, _⟩ := I1.list hqy
  refine call_zip_2 px.isList py.isList fun h' hz hTI hTO g1 g2 hsz hk => Calls.spliced_nil ?_
  have la : a < s1.heap.objs.size := (let ⟨_, e, _⟩ := px.isList; Heap.lt_size e)
  have lb : b < s1.heap.objs.size := (let ⟨_, e, _⟩ := py.isList; Heap.lt_size e)
  have I2 : Inv X pins σ H1 { s1 with heap := h' } := I1.kept (t' := s1.toks) hk
  have gt : ∀ c, c ≥ s1.heap.objs.size → ∀ {d o}, s1.heap.get? d = some o → d ≠ c := fun c hc d o e => Nat.ne_of_lt (Nat.lt_of_lt_of_le (Heap.lt_size e) hc)
  refine zg_call (s := { s1 with heap := h' }) (us := us) (ws := us2) (I1.ok.hd hc) (z := s1.heap.objs.size + 4) (TI := s1.heap.objs.size + 2) (TO := s1.heap.objs.size + 3) (i1 := s1.heap.objs.size) (i2 := s1.heap.objs.size + 1) (l1 := a) (l2 := b) ?_ ?_ hz hTI ⟨_, _, hTO⟩ g1 g2 (px.isList.at fun o e => hk _ o e) (py.isList.at fun o e => hk _ o e) (by rw [← rx.length, ← ry.length]; exact hln) ?_ fun h2 tk acc c as hk2 hS hl hG hacc => ?_
  · have g : ∀ k : Nat, 0 < k → ∀ {c : Addr}, c < s1.heap.objs.size → c ≠ s1.heap.objs.size + k := fun k _ c h => Nat.ne_of_lt (Nat.lt_of_lt_of_le h (Nat.le_add_right _ _))
    have g0 : ∀ {c : Addr}, c < s1.heap.objs.size → c ≠ s1.heap.objs.size := fun h => Nat.ne_of_lt h
    have d : ∀ a b : Nat, a ≠ b → s1.heap.objs.size + a ≠ s1.heap.objs.size + b := fun a b h q => h (Nat.add_left_cancel q)
    exact ⟨d 2 4 (by decide), d 3 4 (by decide), d 0 4 (by decide), d 1 4 (by decide), d 2 3 (by decide), d 2 0 (by decide), d 2 1 (by decide), d 3 0 (by decide), d 3 1 (by decide), d 0 1 (by decide), g 4 (by decide) la, g 3 (by decide) la, g0 la, g 1 (by decide) la, g 4 (by decide) lb, g 3 (by decide) lb, g0 lb, g 1 (by decide) lb⟩
  · exact ⟨Nat.add_le_add_left (by decide) _, Nat.add_le_add_left (by decide) _, Nat.le_add_right _ _, Nat.add_le_add_left (by decide) _⟩
  · exact rx.length ▸ hx0
  · have hS' : h2.get? h'.objs.size = _ := hS
    obtain ⟨H', k1, k2, k3, k4, J⟩ := zg_laid (s := s1) (tk := tk) (S := h'.objs.size) I1 (by omega) hx0 hln rx ry (fun b o e => hk2 b o (gt _ (by omega) e) (gt _ (by omega) e) (gt _ (by omega) e) (gt _ (by omega) e) (hk b o e)) hS' hl hG hacc
    exact ⟨.ref _, H', J, rfl, q H' _ as k1 k2 k3 k4⟩
end
end Lt

set_option Elab.async false
set_option linter.all false
set_option maxRecDepth 100000
set_option maxHeartbeats 1000000
/-! sessions.py: read_session -/
namespace Lt
open PySem PySem.Spec PyProof.Rows L2
def isLk (x : Str) : Bool := Txt.startswith x ("| " : Str)
/-- how many lines a lock's mark begins -/
def stL (lines : List Str) : Nat := (lines.takeWhile isLk).length
theorem stL_le (lines : List Str) : stL lines ≤ lines.length := (List.takeWhile_sublist _).length_le
theorem stL_in : ∀ (lines : List Str) (i : Nat), i < stL lines → isLk (lines.getD i ("" : Str)) = true
  | [], i, h => by cases h
  | x :: l, i, h => by
    unfold stL at h
    rw [List.takeWhile_cons] at h
    cases e : isLk x with
    | false => rw [e] at h; cases h
    | true =>
      rw [e] at h
      cases i with
      | zero => exact e
      | succ i => exact stL_in l i (Nat.lt_of_succ_lt_succ h)
theorem stL_at : ∀ (lines : List Str), stL lines < lines.length → isLk (lines.getD (stL lines) ("" : Str)) = false
  | [], h => by cases h
  | x :: l, h => by
    unfold stL at h ⊢
    rw [List.takeWhile_cons] at h ⊢
    cases e : isLk x with
    | false => exact e
    | true =>
      rw [e] at h
      exact stL_at l (Nat.lt_of_succ_lt_succ h)
def cut2 (x : Str) : Str := cutS x (some 2) none
theorem cut2_len (x : Str) : (cut2 x).length ≤ x.length := by
  unfold cut2 cutS
  show (List.toArray _).size ≤ x.length
  rw [List.size_toArray, List.length_take, List.length_drop]
  have : x.cps.toList.length = x.length := Array.length_toList
  omega
theorem sum_len_le : ∀ (l : List Str) (f : Str → Str), (∀ x, (f x).length ≤ x.length) → ((l.map f).map (·.length)).sum ≤ (l.map (·.length)).sum
  | [], _, _ => Nat.le_refl _
  | x :: l, f, h => by
    have := sum_len_le l f h
    have := h x
    rw [List.map_cons, List.map_cons, List.sum_cons, List.map_cons, List.sum_cons]
    omega
theorem sum_take_le : ∀ (l : List Str) (k : Nat), ((l.take k).map (·.length)).sum ≤ (l.map (·.length)).sum
  | [], k => by rw [List.take_nil]; exact Nat.le_refl _
  | x :: l, 0 => Nat.zero_le _
  | x :: l, k + 1 => by
    have := sum_take_le l k
    rw [List.take_succ_cons, List.map_cons, List.sum_cons, List.map_cons, List.sum_cons]
    omega
/-- the words of a lock in a session's lines -/
def lkTx (lines : List Str) : Str := Txt.join sNl ((lines.map cut2).take (stL lines))
/-- what was said, and answered -/
def saidL (lines : List Str) : List (Str × Str) := (ev2 ((lines.map cut2).drop (stL lines))).zip (ev2 ((lines.map cut2).drop (stL lines + 1)))
/-- a lock and pairs -/
def SsR (H : Hp) (r : V) (ts : List (List Nat)) (log : List (Str × Str)) : Prop := ∃ a lv pa xs, r = .ref a ∧ H a = some (.tup [lv, .ref pa]) ∧ TTK H lv ts ∧ H pa = some (.tup xs) ∧ Paired (PrAt H) xs log
theorem cutV_take (xs : List V) {k : Nat} (h : k ≤ xs.length) : cutV xs none (some (k : Int)) = xs.take k := by
  unfold cutV
  rw [HT.sIx_none, HT.sIx_nat, Nat.min_eq_left h, List.drop_zero, Nat.sub_zero]
theorem zip_strs : ∀ (a b : List Str), (a.map V.str).zip (b.map V.str) = (a.zip b).map fun p => (V.str p.1, V.str p.2)
  | [], _ => rfl
  | _ :: _, [] => rfl
  | x :: a, y :: b => by
    show (V.str x, V.str y) :: (a.map V.str).zip (b.map V.str) = _
    rw [zip_strs a b]
    rfl
theorem paired_map {α β γ : Type} {F : α → γ → Prop} {f : β → γ} : ∀ {xs : List α} {ys : List β}, Paired F xs (ys.map f) → Paired (fun a b => F a (f b)) xs ys
  | _, [], .nil => .nil
  | _, _ :: _, .cons h t => .cons h (paired_map t)
theorem paired_ref {H : Hp} : ∀ {as : List Addr} {log : List (Str × Str)}, Paired (fun (t : Addr) (p : Str × Str) => H t = some (.tup [V.str p.1, V.str p.2])) as log → Paired (PrAt H) (as.map V.ref) log
  | _, _, .nil => .nil
  | _, _, .cons h t => .cons ⟨_, rfl, h⟩ (paired_ref t)
theorem ttk_tm {H H' : Hp} {v : V} {ts : List (List Nat)} (s : Tm H H') (h : TTK H v ts) : TTK H' v ts := let ⟨a, xs, e, ha, p⟩ := h; ⟨a, xs, e, s.1 _ _ ha, paired_mono (fun _ _ r => TK.tm s r) p⟩
theorem ttk_same {H H' : Hp} {v : V} {ts : List (List Nat)} (s : Same H H') (h : TTK H v ts) : TTK H' v ts := ttk_tm (.of s) h
section
variable {P : Program} {w : World} {K : PySem.W.Frag} {mg : Str → Option Value} {base : Heap} {C CD CB CS : Addr}
/-- what read_session does with the lines of a text -/
def RsOk (CB : Addr) (H : Hp) (Q : VK) (E : XK) (lines : List Str) : Prop :=
  (∃ b, stL lines ≤ b ∧ b < lines.length ∧ (∀ i, stL lines ≤ i → i < b → gdM lines (stL lines) i = true) ∧ gdM lines (stL lines) b = false ∧ BadF2 CB "line" (nI (b + 1)) "place" (nI 1) H E) ∨
   ((∀ i, stL lines ≤ i → i < lines.length → gdM lines (stL lines) i = true) ∧ (((lines.length - stL lines) % 2 = 1 ∧ BadF2 CB "line" (nI (lines.length + 1)) "place" (nI 1) H E) ∨ ((lines.length - stL lines) % 2 = 0 ∧
     (lkTx lines).length ≤ 80000 ∧ (∀ e, lockOf (lkTx lines) = .error e → BadF2 CB "line" (nI e.1) "place" (nI e.2) H E) ∧ ∀ ts, lockOf (lkTx lines) = .ok ts → ∀ r H', Same H H' → SsR H' r ts (saidL lines) → Q r H')))
def spRdSess (CB CS : Addr) : Sp := fun vs H Q E => ∃ v, vs = [v] ∧ TxIn CS H E v fun x => RsOk CB H Q E (splS x sNl)
abbrev rsN : List Str := ["text", "lines", "start", "told", "lock", "line"]
theorem sc_read_session : FnScope rsN ["text"] (defScope s_read_session) := ⟨rfl, rfl, rfl, by decide +kernel, rfl, by decide +kernel, by decide +kernel⟩
theorem has_read_session (T : Top K mg "read_session" s_read_session ["text"]) (B : Bi mg) (bz : mg "zip" = none) (bl : mg "list" = none) (G1 : ∃ u, mg "LOCK_MARK" = some u ∧ RelV (.str "| ") u)
    (hC : Has P w K mg base (L2.CX P w) 1 "check_text" ["text"] (spCheckTx CS)) (hM : Has P w K mg base (L2.CX P w) 3 "check_marks" ["lines", "start"] (spMarks CB)) (hU : Has P w K mg base CX0 1 "unmarked" ["line"] spUnmarked)
    (hR : Has P w K mg base (L2.CX P w) 5 "read_lock" ["text"] (spReadLock CB CS)) : Has P w K mg base (L2.CX P w) 6 "read_session" ["text"] (spRdSess CB CS) := by
  refine T.okX sc_read_session (fun vs H Q E h => ?_) (fun f cdv A outer s H vs Q E hr h => ?_)
  · obtain ⟨v, rfl, _⟩ := h
    rfl
  · obtain ⟨v, rfl, d, hd, badS, good⟩ := h
    have hr1 : Room 1 _ := hr.mono (by decide)
    have hr3 : Room 3 _ := hr.mono (by decide)
    have hr5 : Room 5 _ := hr.mono (by decide)
    refine ⟨_, pss_cons (ps_expr (pe_hasX (E := E) hC hr1 (by rfl) (passes_call (takes_of rfl rfl rfl rfl) (fun _ _ _ _ h => h)) (pa_cons (pv 0) pa_nil)))
      (pss_cons (ps_set (i := 1) sc_read_session.nd rfl (Or.inl rfl) (pe_split (pv 0) pe_str))
      (pss_cons (ps_set (i := 2) sc_read_session.nd rfl (Or.inl rfl) pe_int)
      (C8.pss_cut (ps_while (passes_of rfl) (PW.pt (pw_and (pt_cmpR op_lt (pv 2) (pe_callB call_len_seq (by rfl) B.len PySem.boot_len (pa_cons (pv 1) pa_nil)) (by rfl)) (pw_and1 (pt_val (pe_m1 PySem.F.slot_str_startswith PySem.F.type_str_startswith mt_startswith (pe_ix ix_list (pv 1) (pv 2) (fun _ _ => rfl)) (pe_gc2 (by rfl) G1))))))
        (pss_one (ps_aug (i := 2) sc_read_session.nd rfl (Or.inl rfl) pe_int ip_add)))
      (pss_cons (ps_expr (pe_hasX (E := E) hM hr3 (by rfl) (passes_call (takes_of rfl rfl rfl rfl) (fun _ _ _ _ h => h)) (pa_cons (pv 1) (pa_cons (pv 2) pa_nil))))
      (pss_cons (ps_setLc (i := 3) (own := [("line", 5)]) (g := gName 5) (te := tCall spUnmarked [] E0 (tCons (tVar 5) tNil)) (by rfl) sc_read_session.nd rfl rfl (sw_true rfl rfl rfl (by decide +kernel)) (pi_list (pv 1)) (blkOk_by (own := [("line", 5)]) (N := rsN) (sc := defScope s_read_session) (by decide +kernel))
        (fun _ _ _ _ _ => pg_name (i := 5) sc_read_session.nd rfl (Or.inl rfl)) (fun _ _ _ _ _ => pts_nil) (fun _ _ _ _ _ => pe_has hU hr1 (by rfl) (pa_cons (pv 5) pa_nil)))
      (pss_cons (ps_set (i := 4) sc_read_session.nd rfl (Or.inl rfl) (pe_hasX (E := E) hR hr5 (by rfl) (passes_call (takes_of rfl rfl rfl rfl) (fun _ _ _ _ h => h)) (pa_cons (pe_join pe_str (pe_slice sl_list (pv 3) po_none (po_some (pv 2)))) pa_nil)))
      (pss_one (ps_ret (pe_tup (pa_cons (pv 4) (pa_cons (pe_tupleOf (by rfl) B.tuple (pe_listZip (by rfl) (pa_cons (pe_slice2 (pv 3) (po_some (pv 2)) (po_some pe_int)) (pa_cons (pe_slice2 (pv 3) (po_some (pe_op op_add (pv 2) pe_int)) (po_some pe_int)) pa_nil)) (by rfl) bl PyProof.Rows.boot_list (by rfl) bz)) pa_nil))))))))))), ?_⟩
    refine ⟨_, rfl, v, d, rfl, hd, ?_⟩
    cases hs : isStr d with
    | false => exact .inr ⟨rfl, badS hs⟩
    | true =>
      refine .inl ⟨rfl, ?_⟩
      obtain ⟨x, rfl⟩ : ∃ x, d = .str x := by
        cases d <;> first | exact ⟨_, rfl⟩ | cases hs
      obtain ⟨rfl, hx, q⟩ := good x rfl
      refine ⟨_, rfl, ⟨x, rfl⟩, x, sNl, rfl, rfl, by decide +kernel, by rw [sizeLine_eq]; omega, fun pa hpa => ?_⟩
      rw [split_nl]
      have s1 := same_new (o := .lst ((splS x sNl).map V.str)) hpa
      have k1 : (upd H pa (.lst ((splS x sNl).map V.str))) pa = some (.lst ((splS x sNl).map V.str)) := upd_same
      generalize upd H pa (.lst ((splS x sNl).map V.str)) = H1 at *
      have hn := splS_len x sNl
      have hxs : ∀ y ∈ splS x sNl, y.length ≤ x.length := fun y hy => splS_mem hy
      have hsum := splS_sum x sNl
      generalize splS x sNl = lines at *
      have hst := stL_le lines
      refine ⟨fun σ H' => σ = [some (.str x), some (.ref pa), some (nI (stL lines)), none, none, none] ∧ H' = H1, ?_, ?_⟩
      · refine ⟨fun m σ H' => ∃ i, σ = [some (.str x), some (.ref pa), some (nI i), none, none, none] ∧ H' = H1 ∧ i ≤ stL lines ∧ m = lines.length - i, ⟨lines.length, 0, rfl, rfl, Nat.zero_le _, rfl⟩, ?_⟩
        rintro m σ H' ⟨i, rfl, rfl, hi, rfl⟩
        refine ⟨_, rfl, _, rfl, pa, _, rfl, .inl (SqL.of k1), (i : Int), ((lines.map V.str).length : Nat), rfl, rfl, decide (i < lines.length), ?_, ?_⟩
        · rw [List.length_map]
          exact congrArg V.bl (decide_eq_decide.mpr (by omega))
        by_cases h : i < lines.length
        · rw [decide_eq_true h]
          refine iteT ?_
          refine ⟨_, rfl, _, rfl, pa, _, (i : Int), .str (lines.getD i ("" : Str)), rfl, rfl, SqL.of k1, atI_nat (by rw [List.getElem?_map, getD_of (d := ("" : Str)) h]; rfl), ⟨_, rfl⟩, _, _, rfl, rfl, isLk (lines.getD i ("" : Str)), rfl, ?_⟩
          cases hk : isLk (lines.getD i ("" : Str)) with
          | true =>
            have hi1 : i < stL lines := by
              rcases Nat.lt_or_ge i (stL lines) with z | z
              · exact z
              · have e : i = stL lines := by omega
                have := stL_at lines (by omega)
                rw [← e, hk] at this
                cases this
            refine iteT ⟨fun σ2 H2 => σ2 = [some (.str x), some (.ref pa), some (nI (i + 1)), none, none, none] ∧ H2 = H', fun σ2 H2 ⟨e1, e2⟩ => ⟨lines.length - (i + 1), by omega, i + 1, e1, e2, hi1, rfl⟩, ?_⟩
            exact ⟨_, rfl, _, _, rfl, rfl, rfl, rfl⟩
          | false =>
            have hi1 : i = stL lines := by
              rcases Nat.lt_or_ge i (stL lines) with z | z
              · have := stL_in lines i z
                rw [hk] at this
                cases this
              · omega
            subst hi1
            refine iteF ?_
            exact ⟨rfl, rfl⟩
        · have hi1 : i = stL lines := by omega
          subst hi1
          rw [decide_eq_false h]
          refine iteF (iteF ?_)
          exact ⟨rfl, rfl⟩
      · rintro σ H' ⟨rfl, rfl⟩
        refine ⟨_, rfl, _, rfl, pa, lines, stL lines, rfl, k1, hst, by omega, ?_⟩
        rcases q with ⟨b, b1, b2, b3, b4, bd⟩ | ⟨all, od | ⟨ev, hlk, qe, qg⟩⟩
        · exact .inl ⟨b, b1, b2, b3, b4, bd.same s1⟩
        · exact .inr ⟨all, .inl ⟨od.1, od.2.same s1⟩⟩
        refine .inr ⟨all, .inr ⟨ev, fun H2 s2 => ?_⟩⟩
        have k2 := s2 _ _ k1
        refine ⟨_, rfl, pa, rfl, ⟨_, SqL.of k2⟩, fun D hD => lc_genF (J := Itl K pa) (n := lines.length) RStr (fun _ => true) (fun i => cut2 (lines.getD i "")) (fun _ _ _ _ _ r => r) (by omega) hD
          (fun i H3 hi s3 => ⟨_, .str (lines.getD i ""), SqL.of (s3 _ _ k2), by rw [List.getElem?_map, getD_of hi]; rfl⟩) (fun H3 s3 => ⟨_, SqL.of (s3 _ _ k2), by rw [List.length_map]; exact Nat.le_refl _⟩) (fun i H3 x' H4 hi s3 y => ?_) (fun H3 zs s3 hz pr => ?_)⟩
        · obtain ⟨rfl, hx'⟩ := y
          have hx' := hx' _ (SqL.of (s3 _ _ k2))
          rw [List.getElem?_map, getD_of (d := ("" : Str)) hi] at hx'
          have hx' := (Option.some.inj hx').symm
          subst hx'
          have hm : (lines.getD i "").length ≤ x.length := hxs _ (List.mem_of_getElem? (getD_of hi))
          exact ⟨Same.refl _, _, fun Kk q => q, rfl, fun Q q => q _ (Same.refl _), fun hp H5 s5 Q q => ⟨_, rfl, _, rfl, by omega, q _ H5 (Same.refl _) rfl⟩⟩
        have e1 : ((List.range lines.length).filter fun _ => true).map (fun i => cut2 (lines.getD i "")) = lines.map cut2 := by
          rw [List.filter_eq_self.mpr fun _ _ => rfl]
          conv => rhs; rw [← getDd_range ("" : Str) lines, List.map_map]
          rfl
        rw [e1] at pr
        rw [RStr.all pr] at hz
        have hD0 : H' D = none := s2.free hD
        have s03 := s1.trans (s2.trans s3)
        have ht := cutV_take ((lines.map cut2).map V.str) (k := stL lines) (by rw [List.length_map, List.length_map]; exact hst)
        rw [← List.map_take] at ht
        have w1 : sNl.length = 1 := by decide +kernel
        have hbd : (((lines.map cut2).take (stL lines)).map fun z => z.length).sum + ((lines.map cut2).take (stL lines)).length * sNl.length ≤ 16777216 := by
          have q1 := sum_take_le (lines.map cut2) (stL lines)
          have q2 := sum_len_le lines cut2 cut2_len
          have q3 : ((lines.take (stL lines)).length) ≤ lines.length := by rw [List.length_take]; omega
          rw [w1, List.length_take, List.length_map]
          have q4 := hsum
          omega
        refine ⟨⟨_, rfl⟩, _, rfl, _, rfl, _, rfl, D, (lines.map cut2).map V.str, rfl, SqL.of hz, fun p hp => ?_⟩
        rw [ht]
        have s4 := same_new (o := .lst (((lines.map cut2).take (stL lines)).map V.str)) hp
        refine ⟨sNl, p, (lines.map cut2).take (stL lines), rfl, rfl, .inl (SqL.of upd_same), hbd, ?_⟩
        have hz4 := s4 _ _ hz
        generalize upd H3 p _ = H4 at *
        refine ⟨_, rfl, .str (lkTx lines), .str _, (fun z => nomatch z), fun y hy => ?_⟩
        injection hy with hy
        subst hy
        have s04 := s03.trans s4
        refine ⟨rfl, hlk, fun e he => (qe e he).same s04, fun ts hts rv H5 s5 tv => ?_⟩
        have hz5 := s5 _ _ hz4
        have s05 := s04.trans s5
        refine ⟨_, rfl, _, rfl, _, rfl, _, rfl, _, rfl, D, (lines.map cut2).map V.str, stL lines, rfl, SqL.of hz5, rfl, rfl, fun p6 hp6 => ?_⟩
        rw [← List.map_drop, ev2_map]
        have s6 := same_new (o := .lst ((ev2 ((lines.map cut2).drop (stL lines))).map V.str)) hp6
        have k6 : (upd H5 p6 (.lst ((ev2 ((lines.map cut2).drop (stL lines))).map V.str))) p6 = some (.lst ((ev2 ((lines.map cut2).drop (stL lines))).map V.str)) := upd_same
        have hz6 := s6 _ _ hz5
        generalize upd H5 p6 (.lst ((ev2 ((lines.map cut2).drop (stL lines))).map V.str)) = H6 at *
        refine ⟨_, rfl, _, rfl, _, _, rfl, rfl, _, rfl, _, rfl, D, (lines.map cut2).map V.str, stL lines + 1, rfl, SqL.of hz6, rfl, rfl, fun p7 hp7 => ?_⟩
        rw [← List.map_drop, ev2_map]
        have s7 := same_new (o := .lst ((ev2 ((lines.map cut2).drop (stL lines + 1))).map V.str)) hp7
        have k7 : (upd H6 p7 (.lst ((ev2 ((lines.map cut2).drop (stL lines + 1))).map V.str))) p7 = some (.lst ((ev2 ((lines.map cut2).drop (stL lines + 1))).map V.str)) := upd_same
        generalize upd H6 p7 (.lst ((ev2 ((lines.map cut2).drop (stL lines + 1))).map V.str)) = H7 at *
        have k67 := s7 _ _ k6
        refine ⟨p6, p7, _, _, rfl, SqL.of k67, SqL.of k7, by rw [List.length_map, List.length_map, ev2_len, ev2_len, List.length_drop, List.length_drop, List.length_map]; omega, fun H8 p8 ts8 s8 hp8 h8 pr8 => ?_⟩
        rw [zip_strs] at pr8
        have pr9 := paired_ref (paired_map (F := fun (t : Addr) (q : V × V) => H8 t = some (.tup [q.1, q.2])) (f := fun p : Str × Str => (V.str p.1, V.str p.2)) pr8)
        refine .inl ⟨p8, _, rfl, SqL.of h8, fun p9 hp9 => ⟨Nat.le_of_ble_eq_true rfl, fun p10 hp10 => ?_⟩⟩
        have s9 := same_new (o := .tup (ts8.map V.ref)) hp9
        have s10 := same_new (o := .tup [rv, V.ref p9]) hp10
        have s5a := (s6.trans s7).trans (s8.trans (s9.trans s10))
        exact qg ts hts _ _ (s05.trans s5a) ⟨p10, rv, p9, _, rfl, upd_same, ttk_same s5a tv, s10 _ _ upd_same, paired_mono (fun _ _ r => r.tm (.of (s9.trans s10))) pr9⟩
end
end Lt

set_option Elab.async false
set_option linter.all false
set_option maxRecDepth 100000
set_option maxHeartbeats 2000000
/-! for i, (x, y) in enumerate(zip(xs, ys)), of two tuples -/
namespace Lt
open PySem PySem.Spec PyProof.Rows L2
/-- the zip at z, whether what it handed out is held or not -/
def ZipG (h : Heap) (z TI TO : Addr) : Prop := ∃ f0 fl, (f0 = Value.none ∨ ∃ T : Addr, f0 = rawInt T) ∧ h.get? z = some { cls := .type "zip", dict := none, data := .fields #[f0, .bool fl, .bool false, .ref TI, .ref TO], slots := #[] }
theorem ZipG.type {s : Shared} {z TI TO : Addr} (h : ZipG s.heap z TI TO) : s.TypeIs (.ref z) "zip" := let ⟨_, _, _, e⟩ := h; ⟨_, e, rfl⟩
theorem ZipG.at' {h h' : Heap} {z TI TO : Addr} (g : ZipG h z TI TO) (k : ∀ o, h.get? z = some o → h'.get? z = some o) : ZipG h' z TI TO := let ⟨f0, fl, q, e⟩ := g; ⟨f0, fl, q, k _ e⟩
section
variable {prog : Program} {w : World} {A : Around} {E : Value → Shared → Prop} {s : Shared} {z TI TO i1 i2 : Addr} {fp1 fp2 : List Addr} {n1 n2 i : Nat} {P1 P2 : Nat → Value → Prop} {St1 St2 : Nat → Heap → Prop} {a1 a2 : Value}
theorem zg_alive {a : Addr} {Q : Option Obj → Shared → Prop} (h : Q (s.heap.get? a) s) : wpAny (model prog w) A (loadIfAlive a) Q E s := fun _ _ _ => h
theorem zipG_free {Q : Bool → Shared → Prop} (g : ZipG s.heap z TI TO) (h : ∀ b h', ZipG h' z TI TO → Heap.SameBut z s.heap h' → Q b { s with heap := h' }) : wpAny (model prog w) A (Builtin.SmallTypes.ownedTupleIsFree (.ref z)) Q E s := by
  obtain ⟨f0, fl, hf, hz⟩ := g
  unfold Builtin.SmallTypes.ownedTupleIsFree
  rcases hf with rfl | ⟨T, rfl⟩
  · exact wpAny_bind (wpAny_field hz rfl (x := .none) rfl (wpAny_pure (h true s.heap ⟨.none, fl, .inl rfl, hz⟩ (Heap.SameBut.refl _ _))))
  · refine wpAny_bind (wpAny_field hz rfl (x := rawInt T) rfl ?_)
    show wpAny _ _ (loadIfAlive ((T : Int).toNat) >>= _) _ _ _
    rw [Int.toNat_natCast]
    refine wpAny_bind (zg_alive ?_)
    cases hT : s.heap.get? T with
    | none =>
      simp only [Option.isNone_none, if_true]
      exact wpAny_pure (h true s.heap ⟨_, fl, .inr ⟨T, rfl⟩, hz⟩ (Heap.SameBut.refl _ _))
    | some o =>
      simp only [Option.isNone_some, if_false, Bool.false_eq_true]
      refine wpAny_bind (wpAny_field hz rfl (x := .bool fl) rfl ?_)
      cases fl with
      | true => exact (if_neg (show ¬ ((Value.bool true != Value.bool true) = true) from Bool.false_ne_true)) ▸ wpAny_pure (h false s.heap ⟨_, true, .inr ⟨T, rfl⟩, hz⟩ (Heap.SameBut.refl _ _))
      | false =>
        rw [if_pos (show (Value.bool false != Value.bool true) = true from rfl)]
        exact wpAny_bind (wpAny_setField_rec hz (by simp) fun h₁ hz₁ hs₁ => wpAny_pure (h false h₁ ⟨_, true, .inr ⟨T, rfl⟩, hz₁⟩ hs₁))
theorem zipG_item {Q : Value → Shared → Prop} (S : ZipSep2 z TI TO i1 i2 fp1 fp2) (D1 : Draws prog w A i1 fp1 n1 P1 St1) (D2 : Draws prog w A i2 fp2 n2 P2 St2)
    (g : ZipG s.heap z TI TO) (hTI : IsTupOf2 s.heap TI (.ref i1) (.ref i2)) (hTO : IsTupOf2 s.heap TO a1 a2) (st1 : St1 i s.heap) (st2 : St2 i s.heap) (hlt1 : i < n1) (hlt2 : i < n2)
    (hQ : ∀ x1 x2 h' tk, P1 i x1 → P2 i x2 → ZipG h' z TI TO → (∃ b1 b2, IsTupOf2 h' TO b1 b2) → St1 (i + 1) h' → St2 (i + 1) h' → IsTupOf2 h' s.heap.objs.size x1 x2 → h'.objs.size = s.heap.objs.size + 1 →
      (∀ c o, c ≠ z → c ≠ TO → c ≠ i1 → c ≠ i2 → s.heap.get? c = some o → h'.get? c = some o) → Q (.ref s.heap.objs.size) { s with heap := h', toks := tk }) :
    wpAny (model prog w) A (Builtin.«zip.__next__» ⟨[.ref z], []⟩) (fun fin s' => ∃ v, fin = .done (.ret v) ∧ Q v s') E s := by
  obtain ⟨hp, gs, d, tk0, os⟩ := s
  obtain ⟨f0, fl, hf, hz⟩ := id g
  show wpAny _ _ (field (.ref z) 2 >>= _) _ _ _; refine wpAny_bind (wpAny_field hz rfl (x := .bool false) rfl ?_)
  show wpAny _ _ (field (.ref z) 3 >>= _) _ _ _; refine wpAny_bind (wpAny_field hz rfl (x := .ref TI) rfl (wpAny_bind (wpAny_seqItems hTI rfl ?_)))
  show wpAny _ _ (Builtin.SmallTypes.ownedTupleIsFree (.ref z) >>= _) _ _ _; refine wpAny_bind (zipG_free g fun b h₁ g₁ hs₁ => ?_)
  replace hs₁ : Heap.SameBut z hp h₁ := hs₁
  cases b with
  | false =>
    simp only [Bool.false_eq_true, if_false]; refine wpAny_bind ?_
    rw [← Array.forIn_toList]; simp only [List.forIn_nil, List.forIn_cons]
    refine wpAny_bind (wpAny_bind (wpAny_holding ?_)); show wpAny _ _ (Builtin.SmallTypes.nextOf (.ref i1) >>= _) _ _ ⟨h₁, gs, d, tk0, os⟩
    refine wpAny_bind (D1.item i _ _ _ hlt1 (D1.over st1 hs₁ S.zf1) fun x1 p1 tk1 hx1 sn1 hp1 => wpAny_pure (wpAny_pure ?_))
    replace hp1 : Heap.SameBut i1 h₁ p1 := hp1
    refine wpAny_bind (wpAny_bind (wpAny_holding ?_)); show wpAny _ _ (Builtin.SmallTypes.nextOf (.ref i2) >>= _) _ _ ⟨p1, gs, d, tk1, os⟩
    refine wpAny_bind (D2.item i _ _ _ hlt2 (D2.over (D2.over st2 hs₁ S.zf2) hp1 S.sep1_2) fun x2 p2 tk2 hx2 sn2 hp2 => wpAny_pure (wpAny_pure (wpAny_pure ?_)))
    replace hp2 : Heap.SameBut i2 p1 p2 := hp2
    show wpAny _ _ (newTuple [x1, x2] >>= _) _ _ ⟨p2, gs, d, tk2, os⟩; refine wpAny_bind (wpAny_newTuple (wpAny_pure ⟨_, rfl, ?_⟩))
    have hsz : p2.objs.size = hp.objs.size := by rw [hp2.1, hp1.1, hs₁.1]
    have up : ∀ c o, p2.get? c = some o → (p2.push { cls := .type "tuple", data := .seq #[x1, x2] }).get? c = some o := fun c o e => Heap.get?_push_of_some _ e
    have hk : ∀ c o, c ≠ z → c ≠ i1 → c ≠ i2 → hp.get? c = some o → p2.get? c = some o := fun c o c1 c2 c3 e => hp2.extBut _ _ c3 (hp1.extBut _ _ c2 (hs₁.extBut _ _ c1 e))
    have gz : ZipG p2 z TI TO := g₁.at' fun o e => hp2.extBut _ _ S.zi2 (hp1.extBut _ _ S.zi1 e)
    have hN : IsTupOf2 (p2.push { cls := .type "tuple", data := .seq #[x1, x2] }) p2.objs.size x1 x2 := Heap.get?_push_size _ rfl
    have hz4 : (p2.push { cls := .type "tuple", data := .seq #[x1, x2] }).objs.size = p2.objs.size + 1 := Heap.size_push ..
    show Q (.ref p2.objs.size) ⟨p2.push { cls := .type "tuple", data := .seq #[x1, x2] }, gs, d, tk2, os⟩
    rw [hsz] at hN hz4 ⊢
    exact hQ x1 x2 _ tk2 hx1 hx2 (gz.at' fun o e => up _ o e) ⟨a1, a2, up _ _ (hk _ _ S.TOz S.Ti1 S.Ti2 hTO)⟩ (D1.frame _ _ _ (D1.over sn1 hp2 S.sep2_1) fun b _ o e => up b o e) (D2.frame _ _ _ sn2 fun b _ o e => up b o e) hN hz4 fun c o c1 _ c3 c4 e => up c o (hk c o c1 c3 c4 e)
  | true =>
    obtain ⟨f0', fl', _, hz₁⟩ := g₁
    simp only [if_true]; refine wpAny_bind (wpAny_rule (wpAny_bind (wpAny_field (s := ⟨h₁, gs, d, tk0, os⟩) hz₁ rfl (x := .ref TO) rfl (wpAny_bind (wpAny_setField_rec (s := ⟨h₁, gs, d, tk0, os⟩) hz₁ (by simp) fun q0 hz0 hs0 => ?_)))))
    replace hs0 : Heap.SameBut z h₁ q0 := hs0
    have hTO1 := hs0.extBut _ _ S.TOz (hs₁.extBut _ _ S.TOz hTO)
    refine wpAny_bind ?_; simp only [List.zipIdx_cons, List.zipIdx_nil, List.forIn_nil, List.forIn_cons]
    refine wpAny_bind (wpAny_bind (wpAny_onRaise ?_)); show wpAny _ _ (Builtin.SmallTypes.nextOf (.ref i1) >>= _) _ _ ⟨q0, gs, d, tk0, os⟩
    refine wpAny_bind (D1.item i _ _ _ hlt1 (D1.over (D1.over st1 hs₁ S.zf1) hs0 S.zf1) fun x1 p1 tk1 hx1 sn1 hp1 => wpAny_pure ?_)
    replace hp1 : Heap.SameBut i1 q0 p1 := hp1
    have hU1 : IsTupOf2 p1 TO a1 a2 := hp1.extBut _ _ S.Ti1 hTO1
    refine wpAny_bind (wpAny_seqItems (s := ⟨p1, gs, d, tk1, os⟩) hU1 rfl (wpAny_bind (updateSeq_IsTupOf2 (s := ⟨p1, gs, d, tk1, os⟩) hU1 fun q1 hT1 hs1 => ?_)))
    replace hT1 : IsTupOf2 q1 TO x1 a2 := hT1
    replace hs1 : Heap.SameBut TO p1 q1 := hs1
    refine wpAny_bind (wpAny_letGo (wpAny_pure ?_)); refine wpAny_bind (wpAny_bind (wpAny_onRaise ?_))
    show wpAny _ _ (Builtin.SmallTypes.nextOf (.ref i2) >>= _) _ _ ⟨q1, gs, d, tk1, os⟩
    refine wpAny_bind (D2.item i _ _ _ hlt2 (D2.over (D2.over (D2.over (D2.over st2 hs₁ S.zf2) hs0 S.zf2) hp1 S.sep1_2) hs1 S.Tf2) fun x2 p2 tk2 hx2 sn2 hp2 => wpAny_pure ?_)
    replace hp2 : Heap.SameBut i2 q1 p2 := hp2
    have hU2 : IsTupOf2 p2 TO x1 a2 := hp2.extBut _ _ S.Ti2 hT1
    refine wpAny_bind (wpAny_seqItems (s := ⟨p2, gs, d, tk2, os⟩) hU2 rfl (wpAny_bind (updateSeq_IsTupOf2 (s := ⟨p2, gs, d, tk2, os⟩) hU2 fun q2 hT2 hs2 => ?_)))
    replace hT2 : IsTupOf2 q2 TO x1 x2 := hT2
    replace hs2 : Heap.SameBut TO p2 q2 := hs2
    refine wpAny_bind (wpAny_letGo (wpAny_pure (wpAny_pure (wpAny_bind (wpAny_seqItems (s := ⟨q2, gs, d, tk2, os⟩) hT2 rfl (wpAny_bind (wpAny_newTuple ?_)))))))
    have hsz : q2.objs.size = hp.objs.size := by rw [hs2.1, hp2.1, hs1.1, hp1.1, hs0.1, hs₁.1]
    have hzz := hs2.extBut _ _ S.TOz.symm (hp2.extBut _ _ S.zi2 (hs1.extBut _ _ S.TOz.symm (hp1.extBut _ _ S.zi1 hz0)))
    have hkk : ∀ c o, c ≠ z → c ≠ TO → c ≠ i1 → c ≠ i2 → hp.get? c = some o → q2.get? c = some o := fun c o cz cT c1 c2 e => hs2.extBut _ _ cT (hp2.extBut _ _ c2 (hs1.extBut _ _ cT (hp1.extBut _ _ c1 (hs0.extBut _ _ cz (hs₁.extBut _ _ cz e)))))
    have hj1 : St1 (i + 1) q2 := D1.over (D1.over (D1.over sn1 hs1 S.Tf1) hp2 S.sep2_1) hs2 S.Tf1
    have hj2 : St2 (i + 1) q2 := D2.over sn2 hs2 S.Tf2
    have hzlt : z < q2.objs.size := Heap.lt_size hzz
    show wpAny _ _ (Builtin.SmallTypes.ownedTupleHandOut (.ref z) (.ref q2.objs.size) >>= _) _ _ ⟨q2.push { cls := .type "tuple", data := .seq #[x1, x2] }, gs, d, tk2, os⟩
    refine wpAny_bind ?_; unfold Builtin.SmallTypes.ownedTupleHandOut
    have hz6 : (q2.push { cls := .type "tuple", data := .seq #[x1, x2] }).get? z = _ := Heap.get?_push_of_some _ hzz
    refine wpAny_bind (wpAny_setField_rec hz6 (by simp) fun h₇ hz₇ hs₇ => ?_)
    replace hs₇ : Heap.SameBut z (q2.push { cls := .type "tuple", data := .seq #[x1, x2] }) h₇ := hs₇
    refine wpAny_setField_rec hz₇ (by simp) fun h₈ hz₈ hs₈ => wpAny_pure ⟨_, rfl, ?_⟩
    replace hs₈ : Heap.SameBut z h₇ h₈ := hs₈
    have up : ∀ c o, c ≠ z → q2.get? c = some o → h₈.get? c = some o := fun c o c1 e => hs₈.extBut _ _ c1 (hs₇.extBut _ _ c1 (Heap.get?_push_of_some _ e))
    have hN : IsTupOf2 h₈ q2.objs.size x1 x2 := hs₈.extBut _ _ (Nat.ne_of_gt hzlt) (hs₇.extBut _ _ (Nat.ne_of_gt hzlt) (Heap.get?_push_size _ rfl))
    have hz8 : h₈.objs.size = q2.objs.size + 1 := by rw [hs₈.1, hs₇.1, Heap.size_push]
    have gz : ZipG h₈ z TI TO := ⟨rawInt q2.objs.size, false, .inr ⟨_, rfl⟩, hz₈⟩
    show Q (.ref q2.objs.size) ⟨h₈, gs, d, tk2, os⟩
    rw [hsz] at hN hz8 ⊢
    exact hQ x1 x2 h₈ tk2 hx1 hx2 gz ⟨_, _, up _ _ S.TOz hT2⟩ (D1.frame _ _ _ hj1 fun b hb o e => up b o (fun q => S.zf1 (q ▸ hb)) e) (D2.frame _ _ _ hj2 fun b hb o e => up b o (fun q => S.zf2 (q ▸ hb)) e) hN hz8 fun c o cz cT c1 c2 e => up c o cz (hkk c o cz cT c1 c2 e)
theorem zipG_end {Q : Fin → Shared → Prop} (S : ZipSep2 z TI TO i1 i2 fp1 fp2) (D1 : Draws prog w A i1 fp1 n1 P1 St1) (D2 : Draws prog w A i2 fp2 n2 P2 St2)
    (g : ZipG s.heap z TI TO) (hTI : IsTupOf2 s.heap TI (.ref i1) (.ref i2)) (hTO : IsTupOf2 s.heap TO a1 a2) (st1 : St1 i s.heap) (st2 : St2 i s.heap) (hle1 : i ≤ n1) (hle2 : i ≤ n2) (hend : i = n1 ∨ i = n2)
    (hE : ∀ h' tk e, (∀ c o, c ≠ z → c ≠ TO → c ≠ i1 → c ≠ i2 → s.heap.get? c = some o → h'.get? c = some o) → (∃ o, h'.get? e = some o ∧ o.cls = .type "StopIteration") → E (.ref e) { s with heap := h', toks := tk }) :
    wpAny (model prog w) A (Builtin.«zip.__next__» ⟨[.ref z], []⟩) Q E s := by
  obtain ⟨hp, gs, d, tk0, os⟩ := s
  obtain ⟨f0, fl, hf, hz⟩ := id g
  show wpAny _ _ (field (.ref z) 2 >>= _) _ _ _; refine wpAny_bind (wpAny_field hz rfl (x := .bool false) rfl ?_)
  show wpAny _ _ (field (.ref z) 3 >>= _) _ _ _; refine wpAny_bind (wpAny_field hz rfl (x := .ref TI) rfl (wpAny_bind (wpAny_seqItems hTI rfl ?_)))
  show wpAny _ _ (Builtin.SmallTypes.ownedTupleIsFree (.ref z) >>= _) _ _ _; refine wpAny_bind (zipG_free g fun b h₁ g₁ hs₁ => ?_)
  replace hs₁ : Heap.SameBut z hp h₁ := hs₁
  cases b with
  | false =>
    simp only [Bool.false_eq_true, if_false]; refine wpAny_bind ?_
    rw [← Array.forIn_toList]; simp only [List.forIn_nil, List.forIn_cons]
    refine wpAny_bind (wpAny_bind (wpAny_holding ?_)); show wpAny _ _ (Builtin.SmallTypes.nextOf (.ref i1) >>= _) _ _ ⟨h₁, gs, d, tk0, os⟩
    by_cases hlt1 : i < n1
    · have hi2 : i = n2 := by omega
      refine wpAny_bind (D1.item i _ _ _ hlt1 (D1.over st1 hs₁ S.zf1) fun x1 p1 tk1 hx1 sn1 hp1 => wpAny_pure (wpAny_pure ?_))
      replace hp1 : Heap.SameBut i1 h₁ p1 := hp1
      refine wpAny_bind (wpAny_bind (wpAny_holding ?_)); show wpAny _ _ (Builtin.SmallTypes.nextOf (.ref i2) >>= _) _ _ ⟨p1, gs, d, tk1, os⟩
      refine wpAny_bind (D2.done ⟨p1, gs, d, tk1, os⟩ _ _ (hi2 ▸ D2.over (D2.over st2 hs₁ S.zf2) hp1 S.sep1_2) fun q e hq he => ?_)
      replace hq : Heap.ExtBut i2 p1 q := hq
      exact hE q tk1 e (fun c o cz _ c1 c2 x => hq _ _ c2 (hp1.extBut _ _ c1 (hs₁.extBut _ _ cz x))) he
    · have hi1 : i = n1 := by omega
      refine wpAny_bind (D1.done ⟨h₁, gs, d, tk0, os⟩ _ _ (hi1 ▸ D1.over st1 hs₁ S.zf1) fun q e hq he => ?_)
      replace hq : Heap.ExtBut i1 h₁ q := hq
      exact hE q tk0 e (fun c o cz _ c1 _ x => hq _ _ c1 (hs₁.extBut _ _ cz x)) he
  | true =>
    obtain ⟨f0', fl', _, hz₁⟩ := g₁
    simp only [if_true]; refine wpAny_bind (wpAny_rule (wpAny_bind (wpAny_field (s := ⟨h₁, gs, d, tk0, os⟩) hz₁ rfl (x := .ref TO) rfl (wpAny_bind (wpAny_setField_rec (s := ⟨h₁, gs, d, tk0, os⟩) hz₁ (by simp) fun q0 hz0 hs0 => ?_)))))
    replace hs0 : Heap.SameBut z h₁ q0 := hs0
    have hTO1 := hs0.extBut _ _ S.TOz (hs₁.extBut _ _ S.TOz hTO)
    have hs00 : ∀ c o, c ≠ z → hp.get? c = some o → q0.get? c = some o := fun c o cz e => hs0.extBut _ _ cz (hs₁.extBut _ _ cz e)
    refine wpAny_bind ?_; simp only [List.zipIdx_cons, List.zipIdx_nil, List.forIn_nil, List.forIn_cons]
    refine wpAny_bind (wpAny_bind (wpAny_onRaise ?_)); show wpAny _ _ (Builtin.SmallTypes.nextOf (.ref i1) >>= _) _ _ ⟨q0, gs, d, tk0, os⟩
    by_cases hlt1 : i < n1
    · have hi2 : i = n2 := by omega
      refine wpAny_bind (D1.item i _ _ _ hlt1 (D1.over (D1.over st1 hs₁ S.zf1) hs0 S.zf1) fun x1 p1 tk1 hx1 sn1 hp1 => wpAny_pure ?_)
      replace hp1 : Heap.SameBut i1 q0 p1 := hp1
      have hU1 : IsTupOf2 p1 TO a1 a2 := hp1.extBut _ _ S.Ti1 hTO1
      refine wpAny_bind (wpAny_seqItems (s := ⟨p1, gs, d, tk1, os⟩) hU1 rfl (wpAny_bind (updateSeq_IsTupOf2 (s := ⟨p1, gs, d, tk1, os⟩) hU1 fun q1 hT1 hs1 => ?_)))
      replace hs1 : Heap.SameBut TO p1 q1 := hs1
      refine wpAny_bind (wpAny_letGo (wpAny_pure ?_)); refine wpAny_bind (wpAny_bind (wpAny_onRaise ?_))
      show wpAny _ _ (Builtin.SmallTypes.nextOf (.ref i2) >>= _) _ _ ⟨q1, gs, d, tk1, os⟩
      refine wpAny_bind (D2.done ⟨q1, gs, d, tk1, os⟩ _ _ (hi2 ▸ D2.over (D2.over (D2.over (D2.over st2 hs₁ S.zf2) hs0 S.zf2) hp1 S.sep1_2) hs1 S.Tf2) fun q e hq he => ?_)
      replace hq : Heap.ExtBut i2 q1 q := hq
      obtain ⟨oe, hoe, hce⟩ := he
      replace hoe : q.get? e = some oe := hoe
      have hzq := hq _ _ S.zi2 (hs1.extBut _ _ S.TOz.symm (hp1.extBut _ _ S.zi1 hz0))
      have hez : e ≠ z := fun x => by
        subst x
        rw [hzq] at hoe
        cases hoe
        simp at hce
      refine wpAny_setField_rec (s := ⟨q, gs, d, tk1, os⟩) hzq (by simp) fun q' _ hq' => ?_
      replace hq' : Heap.SameBut z q q' := hq'
      exact hE q' tk1 e (fun c o cz cT c1 c2 x => hq'.extBut _ _ cz (hq _ _ c2 (hs1.extBut _ _ cT (hp1.extBut _ _ c1 (hs00 _ _ cz x))))) ⟨oe, hq'.extBut _ _ hez hoe, hce⟩
    · have hi1 : i = n1 := by omega
      refine wpAny_bind (D1.done ⟨q0, gs, d, tk0, os⟩ _ _ (hi1 ▸ D1.over (D1.over st1 hs₁ S.zf1) hs0 S.zf1) fun q e hq he => ?_)
      replace hq : Heap.ExtBut i1 q0 q := hq
      obtain ⟨oe, hoe, hce⟩ := he
      replace hoe : q.get? e = some oe := hoe
      have hzq := hq _ _ S.zi1 hz0
      have hez : e ≠ z := fun x => by
        subst x
        rw [hzq] at hoe
        cases hoe
        simp at hce
      refine wpAny_setField_rec (s := ⟨q, gs, d, tk0, os⟩) hzq (by simp) fun q' _ hq' => ?_
      replace hq' : Heap.SameBut z q q' := hq'
      exact hE q' tk0 e (fun c o cz cT c1 c2 x => hq'.extBut _ _ cz (hq _ _ c1 (hs00 _ _ cz x))) ⟨oe, hq'.extBut _ _ hez hoe, hce⟩
/-- one turn of an enumerate over it, by what its next does -/
theorem ez_item {e : Addr} {c : Int} {old : Value} {Q : Option Value → Shared → Prop} (R : Heap → Nat → Prop) (he : IsEnum s.heap e z c old)
    (hin : ∀ (Q' : Value → Shared → Prop) (E' : Value → Shared → Prop), (∀ h1 tk, R h1 tk → Q' (.ref s.heap.objs.size) { s with heap := h1, toks := tk }) → wpAny (model prog w) A.in1 (Builtin.SmallTypes.nextOf (.ref z)) Q' E' s)
    (hR : ∀ h1 tk, R h1 tk → h1.objs.size = s.heap.objs.size + 1 ∧ ∀ o, s.heap.get? e = some o → h1.get? e = some o)
    (hQ : ∀ h1 h' tk, R h1 tk → IsEnumOut h' e z (c + 1) (.ref s.heap.objs.size) (s.heap.objs.size + 1) → h'.get? (s.heap.objs.size + 1) = some { cls := .type "tuple", data := .seq #[.int c tk, .ref s.heap.objs.size] } → h'.objs.size = s.heap.objs.size + 2 →
      (∀ b o, b ≠ e → h1.get? b = some o → h'.get? b = some o) → Q (some (.ref (s.heap.objs.size + 1))) { s with heap := h', toks := tk + 1 }) :
    wpAny (model prog w) A (pyNext (.ref e)) Q E s := by
  have hT : s.TypeIs (.ref e) "enumerate" := ⟨_, he, rfl⟩
  unfold pyNext
  refine wpAny_bind (wpAny_attempt (wpAny_callSpecial?_slot (name := Str.ofString "__next__") hT F.slot_enumerate_next (wpAny_call_entry F.slot_enumerate_next hT F.entry_enumerate_next ?_ (F.args_enumerate_next_1 _))))
  obtain ⟨hp, gs, d, tk0, os⟩ := s
  show wpAny _ _ (field (.ref e) 2 >>= _) _ _ _; refine wpAny_bind (wpAny_field he rfl (x := .ref z) rfl (wpAny_bind (hin _ _ fun h₁ tk r => ?_)))
  obtain ⟨hz1, ke⟩ := hR h₁ tk r
  replace hz1 : h₁.objs.size = hp.objs.size + 1 := hz1
  have he₁ : IsEnum h₁ e z c old := ke _ he
  have hel : e < h₁.objs.size := Heap.lt_size he₁
  show wpAny _ _ (field (.ref e) 3 >>= _) _ _ ⟨h₁, gs, d, tk, os⟩; refine wpAny_bind (wpAny_field he₁ rfl (x := rawInt c) rfl ?_)
  show wpAny _ _ (field (.ref e) 4 >>= _) _ _ ⟨h₁, gs, d, tk, os⟩; refine wpAny_bind (wpAny_field he₁ rfl (x := .none) rfl ?_)
  show wpAny _ _ (mkInt c >>= _) _ _ ⟨h₁, gs, d, tk, os⟩; refine wpAny_bind (wpAny_mkInt ?_)
  show wpAny _ _ (setField (.ref e) 3 (rawInt (c + 1)) >>= _) _ _ ⟨h₁, gs, d, tk + 1, os⟩; refine wpAny_bind (wpAny_setField_rec he₁ (by simp) fun h₂ he₂ hs₂ => ?_)
  replace hs₂ : Heap.SameBut e h₁ h₂ := hs₂
  replace he₂ : IsEnum h₂ e z (c + 1) old := he₂
  show wpAny _ _ (setField (.ref e) 4 .none >>= _) _ _ ⟨h₂, gs, d, tk + 1, os⟩; refine wpAny_bind (wpAny_setField_rec he₂ (by simp) fun h₃ he₃ hs₃ => ?_)
  replace hs₃ : Heap.SameBut e h₂ h₃ := hs₃
  replace he₃ : IsEnum h₃ e z (c + 1) old := he₃
  show wpAny _ _ (newTuple [.int c tk, .ref hp.objs.size] >>= _) _ _ ⟨h₃, gs, d, tk + 1, os⟩; refine wpAny_bind (wpAny_newTuple ?_)
  have he₄ : IsEnum (h₃.push { cls := .type "tuple", data := .seq #[.int c tk, .ref hp.objs.size] }) e z (c + 1) old := Heap.get?_push_of_some _ he₃
  have hsz : h₃.objs.size = hp.objs.size + 1 := by rw [hs₃.1, hs₂.1, hz1]
  have ht₄ : (h₃.push { cls := .type "tuple", data := .seq #[.int c tk, .ref hp.objs.size] }).get? (hp.objs.size + 1) = some { cls := .type "tuple", data := .seq #[.int c tk, .ref hp.objs.size] } := by
    have := Heap.get?_push_size h₃ (o := { cls := .type "tuple", data := .seq #[.int c tk, .ref hp.objs.size] }) rfl
    rw [hsz] at this
    exact this
  have hz₄ : (h₃.push { cls := .type "tuple", data := .seq #[.int c tk, .ref hp.objs.size] }).objs.size = hp.objs.size + 2 := by rw [Heap.size_push, hsz]
  have hk₄ : ∀ b o, b ≠ e → h₁.get? b = some o → (h₃.push { cls := .type "tuple", data := .seq #[.int c tk, .ref hp.objs.size] }).get? b = some o := fun b o hb q => Heap.get?_push_of_some _ (hs₃.extBut b o hb (hs₂.extBut b o hb q))
  generalize h₃.push { cls := .type "tuple", data := .seq #[.int c tk, .ref hp.objs.size] } = h₄ at *
  show wpAny _ _ (Builtin.SmallTypes.ownedTupleIsFree (.ref e) >>= _) _ _ ⟨h₄, gs, d, tk + 1, os⟩
  rw [hsz]
  refine wpAny_bind ?_
  unfold Builtin.SmallTypes.ownedTupleIsFree
  refine wpAny_bind (wpAny_field he₄ rfl (x := .none) rfl (wpAny_pure ?_)); simp only [if_true]
  refine wpAny_bind (wpAny_rule (wpAny_bind (wpAny_field he₄ rfl (x := old) rfl (wpAny_bind (wpAny_setField_rec he₄ (by simp) fun h₅ he₅ hs₅ => ?_)))))
  replace hs₅ : Heap.SameBut e h₄ h₅ := hs₅
  replace he₅ : IsEnum h₅ e z (c + 1) (.ref hp.objs.size) := he₅
  show wpAny _ _ (Builtin.SmallTypes.ownedTupleHandOut (.ref e) (.ref (hp.objs.size + 1)) >>= _) _ _ ⟨h₅, gs, d, tk + 1, os⟩
  refine wpAny_bind ?_
  unfold Builtin.SmallTypes.ownedTupleHandOut
  refine wpAny_bind (wpAny_setField_rec he₅ (by simp) fun h₆ he₆ hs₆ => wpAny_setField_rec he₆ (by simp) fun h₇ he₇ hs₇ => ?_)
  replace hs₆ : Heap.SameBut e h₅ h₆ := hs₆
  replace hs₇ : Heap.SameBut e h₆ h₇ := hs₇
  replace he₇ : IsEnumOut h₇ e z (c + 1) (.ref hp.objs.size) (hp.objs.size + 1) := he₇
  have kk : ∀ b o, b ≠ e → h₄.get? b = some o → h₇.get? b = some o := fun b o hb q => hs₇.extBut b o hb (hs₆.extBut b o hb (hs₅.extBut b o hb q))
  exact wpAny_bind (wpAny_letGo (wpAny_pure ⟨_, rfl, wpAny_pure (hQ h₁ h₇ tk r he₇ (kk _ _ (Nat.ne_of_gt (hz1 ▸ hel)) ht₄) (by show h₇.objs.size = _; rw [hs₇.1, hs₆.1, hs₅.1, hz₄]) fun b o hb q => kk b o hb (hk₄ b o hb q))⟩))
theorem ez_end {e : Addr} {c : Int} {old : Value} {Q : Option Value → Shared → Prop} (R : Heap → Nat → Addr → Prop) (he : IsEnum s.heap e z c old)
    (hin : ∀ (Q' : Value → Shared → Prop) (E' : Value → Shared → Prop), (∀ h1 tk x, R h1 tk x → E' (.ref x) { s with heap := h1, toks := tk }) → wpAny (model prog w) A.in1 (Builtin.SmallTypes.nextOf (.ref z)) Q' E' s)
    (hR : ∀ h1 tk x, R h1 tk x → ∃ o, h1.get? x = some o ∧ o.cls = .type "StopIteration") (hQ : ∀ h1 tk x, R h1 tk x → Q none { s with heap := h1, toks := tk }) : wpAny (model prog w) A (pyNext (.ref e)) Q E s := by
  have hT : s.TypeIs (.ref e) "enumerate" := ⟨_, he, rfl⟩
  unfold pyNext
  refine wpAny_bind (wpAny_attempt (wpAny_callSpecial?_slot (name := Str.ofString "__next__") hT F.slot_enumerate_next (wpAny_call_entry F.slot_enumerate_next hT F.entry_enumerate_next ?_ (F.args_enumerate_next_1 _))))
  show wpAny _ _ (field (.ref e) 2 >>= _) _ _ _; refine wpAny_bind (wpAny_field he rfl (x := .ref z) rfl (wpAny_bind (hin _ _ fun h₁ tk x r => ?_)))
  obtain ⟨o, ho, hc⟩ := hR h₁ tk x r
  exact wpAny_bind (wpAny_isInstance (T := "StopIteration") (b := true) ⟨o, ho, hc⟩ isSubtype_stop (wpAny_pure (hQ _ _ _ r)))
end
section
variable {prog : Program} {w : World} {A : Around} {E : Value → Shared → Prop} {s : Shared} {z TI TO : Addr}
theorem zg_nextOf {Q : Value → Shared → Prop} (g : ZipG s.heap z TI TO) (h : wpAny (model prog w) A.in1 (Builtin.«zip.__next__» ⟨[.ref z], []⟩) (fun fin s' => ∃ v, fin = .done (.ret v) ∧ Q v s') E s) : wpAny (model prog w) A (Builtin.SmallTypes.nextOf (.ref z)) Q E s := by
  unfold Builtin.SmallTypes.nextOf
  refine wpAny_bind (wpAny_callSpecial?_slot (name := Str.ofString "__next__") g.type F.slot_zip_next (wpAny_call_entry F.slot_zip_next g.type F.entry_zip_next ?_ (F.args_zip_next_1 _)))
  exact wpAny_mono h (fun fin s' ⟨v, e, q⟩ => ⟨v, e, wpAny_pure q⟩) fun _ _ q => q
theorem zg_nextOfE {Q : Value → Shared → Prop} (g : ZipG s.heap z TI TO) (h : wpAny (model prog w) A.in1 (Builtin.«zip.__next__» ⟨[.ref z], []⟩) (fun _ _ => False) E s) : wpAny (model prog w) A (Builtin.SmallTypes.nextOf (.ref z)) Q E s :=
  zg_nextOf g (wpAny_mono h (fun _ _ q => q.elim) fun _ _ q => q)
end
/-- the tuples at a and b as they stand at each turn, the items in new pairs, each in a new pair with its place -/
def Itez (K : PySem.W.Frag) (a b : Addr) : It :=
  ⟨fun i H => ∃ (xs ys : List V) (x y : V), SqT K H a xs ∧ SqT K H b ys ∧ xs[i]? = some x ∧ ys[i]? = some y,
    fun i H v H' => ∃ T T2 x y, v = .ref T ∧ H T2 = none ∧ T ≠ T2 ∧ H T = none ∧ H' = upd (upd H T2 (.tup [x, y])) T (.tup [.int (i : Nat), .ref T2]) ∧ (∀ xs, SqT K H a xs → xs[i]? = some x) ∧ ∀ ys, SqT K H b ys → ys[i]? = some y,
    fun i H => ∃ xs ys : List V, SqT K H a xs ∧ SqT K H b ys ∧ i = min xs.length ys.length⟩
theorem turn_enumZip {P : Program} {w : World} {K : PySem.W.Frag} {elts : List Expr} {kk : Nat} {tpos : Pos} {a b e z TI TO i1 i2 : Addr} (S : ZipSep2 z TI TO i1 i2 [i1, a] [i2, b]) (ha : a ≠ i1) (hb : b ≠ i2) (ez : e ≠ z) (eTI : e ≠ TI) (eTO : e ≠ TO) (e1 : e ≠ i1) (e2 : e ≠ i2) :
    Turn P w K (.Tuple elts kk tpos) (Itez K a b) [e, z, TI, TO, i1, i2] e (fun i h => (∃ old, IsEnum h e z ((i : Nat) : Int) old) ∧ ZipG h z TI TO ∧ IsTupOf2 h TI (.ref i1) (.ref i2) ∧ (∃ x y, IsTupOf2 h TO x y) ∧ h.IsTupleIter i1 a i ∧ h.IsTupleIter i2 b i) where
  mem := by simp
  obj := fun i h st c hc => by
    obtain ⟨⟨old, he⟩, ⟨_, _, _, hz⟩, hTI, ⟨x, y, hTO⟩, ⟨o1, e1, _, d1⟩, ⟨o2, e2, _, d2⟩⟩ := st
    have e' : c = e ∨ c = z ∨ c = TI ∨ c = TO ∨ c = i1 ∨ c = i2 := by simpa using hc
    rcases e' with q | q | q | q | q | q
    · rw [q]; exact ⟨_, he, fun v q => nomatch q⟩
    · rw [q]; exact ⟨_, hz, fun v q => nomatch q⟩
    · rw [q]; exact ⟨_, hTI, fun v q => nomatch q⟩
    · rw [q]; exact ⟨_, hTO, fun v q => nomatch q⟩
    · exact ⟨o1, q ▸ e1, fun v q => by rw [d1] at q; cases q⟩
    · exact ⟨o2, q ▸ e2, fun v q => by rw [d2] at q; cases q⟩
  keep := fun i h h' st k => by
    obtain ⟨⟨old, he⟩, hz, hTI, ⟨x, y, hTO⟩, h1, h2⟩ := st
    exact ⟨⟨old, k e (by simp) _ he⟩, hz.at' fun o q => k z (by simp) o q, k TI (by simp) _ hTI, ⟨x, y, k TO (by simp) _ hTO⟩, h1.at fun o q => k i1 (by simp) o q, h2.at fun o q => k i2 (by simp) o q⟩
  item := by
    intro X hP hw hK hc i pins s σ H E I hf st hg
    subst hP hw hK
    obtain ⟨⟨old, he⟩, hz, hTI, ⟨a1, a2, hTO⟩, h1, h2⟩ := id st
    obtain ⟨xs, ys, x, y, hqx, hqy, hx, hy⟩ := hg
    obtain ⟨its, rv, p, _⟩ := I.tuple hqx
    obtain ⟨its2, rv2, p2, _⟩ := I.tuple hqy
    obtain ⟨u, hu, ru⟩ := rv.get hx
    obtain ⟨u2, hu2, ru2⟩ := rv2.get hy
    have hh : X.A.in1.in1.handled = none := I.ok.hd hc
    have q1 := (List.getElem?_eq_some_iff.mp hu).1
    have q2 := (List.getElem?_eq_some_iff.mp hu2).1
    have lt : ∀ c ∈ [e, z, TI, TO, i1, i2], c < s.heap.objs.size := fun c hcm => by
      have e' : c = e ∨ c = z ∨ c = TI ∨ c = TO ∨ c = i1 ∨ c = i2 := by simpa using hcm
      rcases e' with q | q | q | q | q | q
      · exact q ▸ Heap.lt_size he
      · exact q ▸ (let ⟨_, _, _, z⟩ := hz; Heap.lt_size z)
      · exact q ▸ Heap.lt_size hTI
      · exact q ▸ Heap.lt_size hTO
      · exact q ▸ (let ⟨_, z, _⟩ := h1; Heap.lt_size z)
      · exact q ▸ (let ⟨_, z, _⟩ := h2; Heap.lt_size z)
    refine ez_item (R := fun h' tk => ZipG h' z TI TO ∧ (∃ b1 b2, IsTupOf2 h' TO b1 b2) ∧ h'.IsTupleIter i1 a (i + 1) ∧ h'.IsTupleIter i2 b (i + 1) ∧ IsTupOf2 h' s.heap.objs.size u u2 ∧ h'.objs.size = s.heap.objs.size + 1 ∧ ∀ c o, c ≠ z → c ≠ TO → c ≠ i1 → c ≠ i2 → s.heap.get? c = some o → h'.get? c = some o) he
      (fun Q' E' h => zg_nextOf hz (zipG_item S (Draws.tuple hh i1 a ha its.toArray) (Draws.tuple hh i2 b hb its2.toArray) hz hTI hTO ⟨h1, p⟩ ⟨h2, p2⟩ (by simpa using q1) (by simpa using q2) fun x1 x2 h' tk r1 r2 g t s1 s2 hN hsz hk => h h' tk ⟨g, t, s1.1, s2.1, ?_, hsz, hk⟩))
      (fun h' tk r => ⟨r.2.2.2.2.2.1, fun o q => r.2.2.2.2.2.2 e o ez eTO e1 e2 q⟩) (fun hh1 h' tk r ho hT hsz hk => ⟨_, rfl, wpAny_letOwnedTupleGo_enum (s := { s with heap := h', toks := tk + 1 }) ho fun h'' he' sb => ?_⟩)
    · have f1 : u = x1 := by
        have r1 : its.toArray[i]? = some x1 := r1
        rw [List.getElem?_toArray, hu] at r1
        exact Option.some.inj r1
      have f2 : u2 = x2 := by
        have r2 : its2.toArray[i]? = some x2 := r2
        rw [List.getElem?_toArray, hu2] at r2
        exact Option.some.inj r2
      exact f1 ▸ f2 ▸ hN
    · obtain ⟨gz, ⟨b1, b2, gTO⟩, g1, g2, gN, gsz, gk⟩ := r
      have I1 : Inv X pins σ (upd H s.heap.objs.size (.tup [x, y])) { s with heap := hh1, toks := tk } :=
        I.turnedNew (t' := tk) (ch := [e, z, TI, TO, i1, i2]) (fun c o hcm q => gk c o (fun m => hcm (by simp [m])) (fun m => hcm (by simp [m])) (fun m => hcm (by simp [m])) (fun m => hcm (by simp [m])) q) hf (Nat.le_refl _) ⟨by show 2 ≤ sizeLine; decide, [u, u2], .cons ru (.cons ru2 .nil), ⟨_, gN, rfl, _, rfl⟩⟩
      have k2 : ∀ c o, c ≠ e → hh1.get? c = some o → h''.get? c = some o := fun c o ce q => (sb.2 c ce).trans (hk c o ce q)
      have ne2 : s.heap.objs.size + 1 ≠ e := Nat.ne_of_gt (Nat.lt_succ_of_lt (lt e (by simp)))
      have hT2 : h''.get? (s.heap.objs.size + 1) = some { cls := .type "tuple", data := .seq #[.int i tk, .ref s.heap.objs.size] } := (sb.2 _ ne2).trans hT
      have hn2 : ∀ c ∈ [e, z, TI, TO, i1, i2], c ≠ s.heap.objs.size := fun c m => Nat.ne_of_lt (lt c m)
      have fr : H s.heap.objs.size = none := I.hok.fresh (Nat.le_refl _)
      have fr2 : H (s.heap.objs.size + 1) = none := I.hok.fresh (Nat.le_succ _)
      have I2 : Inv X pins σ (upd (upd H s.heap.objs.size (.tup [x, y])) (s.heap.objs.size + 1) (.tup [.int (i : Nat), .ref s.heap.objs.size])) { s with heap := h'', toks := tk + 1 } :=
        I1.turnedNew (t' := tk + 1) (ch := [e, z, TI, TO, i1, i2]) (fun c o hcm q => k2 c o (fun m => hcm (by simp [m])) q) (fun c m => ⟨(upd_ne (hn2 c m)).trans (hf c m).1, (hf c m).2⟩) (by show hh1.objs.size ≤ _; omega) ⟨by show 2 ≤ sizeLine; decide, [.int i tk, .ref s.heap.objs.size], .cons ⟨_, rfl⟩ (.cons rfl .nil), ⟨_, hT2, rfl, _, rfl⟩⟩
      have ee : ((i + 1 : Nat) : Int) = (i : Int) + 1 := by omega
      refine ⟨.ref _, _, I2, rfl, ⟨_, _, x, y, rfl, fr, Nat.succ_ne_self _, fr2, rfl, fun l hl => by rw [I.tuple_inj hl hqx]; exact hx, fun l hl => by rw [I.tuple_inj hl hqy]; exact hy⟩, ⟨⟨_, by rw [ee]; exact he'⟩, gz.at' fun o q => k2 _ o (Ne.symm ez) q, k2 _ _ (Ne.symm eTI) (gk _ _ S.TIz S.TITO S.TIi1 S.TIi2 hTI), ⟨b1, b2, k2 _ _ (Ne.symm eTO) gTO⟩, g1.at fun o q => k2 _ o (Ne.symm e1) q, g2.at fun o q => k2 _ o (Ne.symm e2) q⟩, fun c m => ?_⟩
      rw [upd_ne (Nat.ne_of_lt (Nat.lt_succ_of_lt (lt c m))), upd_ne (hn2 c m)]
      exact (hf c m).1
  done := by
    intro X hP hw hK hc i pins s σ H E I hf st hg
    subst hP hw hK
    obtain ⟨⟨old, he⟩, hz, hTI, ⟨a1, a2, hTO⟩, h1, h2⟩ := id st
    obtain ⟨xs, ys, hqx, hqy, hend⟩ := hg
    obtain ⟨its, rv, p, _⟩ := I.tuple hqx
    obtain ⟨its2, rv2, p2, _⟩ := I.tuple hqy
    have hh : X.A.in1.in1.handled = none := I.ok.hd hc
    have l1 := rv.length
    have l2 := rv2.length
    refine ez_end (R := fun h' tk x => (∀ c o, c ≠ z → c ≠ TO → c ≠ i1 → c ≠ i2 → s.heap.get? c = some o → h'.get? c = some o) ∧ ∃ o, h'.get? x = some o ∧ o.cls = .type "StopIteration") he
      (fun Q' E' h => zg_nextOfE hz (zipG_end S (Draws.tuple hh i1 a ha its.toArray) (Draws.tuple hh i2 b hb its2.toArray) hz hTI hTO ⟨h1, p⟩ ⟨h2, p2⟩ (by rw [List.size_toArray]; omega) (by rw [List.size_toArray]; omega) (by rw [List.size_toArray, List.size_toArray]; omega) fun h' tk x r1 r2 => h h' tk x ⟨r1, r2⟩))
      (fun h' tk x r => r.2) fun h' tk x r => ⟨rfl, I.turnedL (t' := tk) (ch := [e, z, TI, TO, i1, i2]) (fun c o hcm q => r.1 c o (fun m => hcm (by simp [m])) (fun m => hcm (by simp [m])) (fun m => hcm (by simp [m])) (fun m => hcm (by simp [m])) q) hf⟩
  self := fun A i s Q E st h => let ⟨⟨_, he⟩, _⟩ := st; wpAny_pyIter_enum he h
def iEnumZip (K : PySem.W.Frag) (ta : TA) : TI := fun σ H R => ta σ H fun vs H1 => ∃ a b xs ys, vs = [.ref a, .ref b] ∧ SqT K H1 a xs ∧ SqT K H1 b ys ∧ R (Itez K a b) H1
theorem meets_enumZ (z TI TO : Addr) :
    Meets (Builtin.«enumerate.__new__» ⟨[.type "enumerate", .ref z], []⟩) (fun _ R s => IsZip s.heap z TI TO .none ∧
      R (.ok (.ret (.ref s.heap.objs.size))) { s with heap := s.heap.push { cls := .type "enumerate", data := .fields #[.none, .bool false, .ref z, rawInt 0, .none, .none] } }) :=
  .of_wp fun prog w A R s h => by
    obtain ⟨hp, g, d, tk, os⟩ := s
    obtain ⟨h1, h⟩ := h
    have hsub := sub_enumerate
    have q1 : ∀ {A' : Around} {E : Value → Shared → Prop} {Q : Value → Shared → Prop}, Q (.ref z) ⟨hp, g, d, tk, os⟩ → wpAny (model prog w) A' (pyIter (.ref z)) Q E ⟨hp, g, d, tk, os⟩ := fun q => wpAny_pyIter_zip h1 q
    wp_walk using q1
    refine wpAny_stack_any fun st => wpAny_pure ?_
    split
    · rename_i c _ _ _ _ _
      cases (c == Value.type "enumerate")
      · wp_walk using q1
        exact ⟨_, rfl, h⟩
      · wp_walk using q1
        exact ⟨_, rfl, h⟩
    · wp_walk using q1
      exact ⟨_, rfl, h⟩
theorem enumZ_begins {prog : Program} {w : World} {A : Around} {E : Value → Shared → Prop} {s : Shared} {z TI TO : Addr} {Q : Value → Shared → Prop} (h1 : IsZip s.heap z TI TO .none)
    (h : ∀ h', IsEnum h' s.heap.objs.size z 0 .none → h'.objs.size = s.heap.objs.size + 1 → (∀ b o, s.heap.get? b = some o → h'.get? b = some o) → Q (.ref s.heap.objs.size) { s with heap := h' }) :
    wpAny (model prog w) A (call (.type "enumerate") [.ref z]) Q E s := by
  refine callType_new F.called_enumerate (by decide) (F.typeCall_enumerate_1 _) (F.newCall_enumerate_1 _) (fun obj => F.args_object_init_2 obj _) F.entry_enumerate_new (meets_enumZ z TI TO) ⟨h1, ?_⟩
  show _ ∧ _
  have he : IsEnum (s.heap.push { cls := .type "enumerate", data := .fields #[.none, .bool false, .ref z, rawInt 0, .none, .none] }) s.heap.objs.size z 0 .none := Heap.get?_push_size _ rfl
  exact ⟨⟨_, he, rfl⟩, h _ he (Heap.size_push ..) fun b o x => Heap.get?_push_of_some _ x⟩
theorem pi_enumZip {X : Cx} {e e2 : Expr} {ta : TA} {p p2 pos pos2 tpos : Pos} {elts : List Expr} {kk : Nat} (hge : Gl X "enumerate") (hme : X.mg "enumerate" = none) (hg : Gl X "zip") (hm : X.mg "zip" = none) (ha : PA X [e, e2] ta)
    (hs : starEach [e, e2] X.env = (false, eval e X.env) :: starEach [e2] X.env := by rfl) (hpl : (backTo pos2 (starEach [e2] X.env)).any (·.1) = false := by rfl)
    (hs2 : starEach [.Call (.Name "zip" p2) [e, e2] [] pos2] X.env = (false, eval (.Call (.Name "zip" p2) [e, e2] [] pos2) X.env) :: starEach [] X.env := by rfl) :
    PI X (.Tuple elts kk tpos) (.Call (.Name "enumerate" p) [.Call (.Name "zip" p2) [e, e2] [] pos2] [] pos) (iEnumZip X.K ta) := by
  refine ⟨fun pins s σ H R I h => ?_⟩
  refine Call_ (ld_blt I hge hme boot_enumerate (PyProof.Rows.callWith_type1 ?_ hs2 rfl))
  rw [hs2]
  show wpAny _ _ (spliced ((false, eval (.Call (.Name "zip" p2) [e, e2] [] pos2) X.env) :: backTo pos (starEach [] X.env))) _ _ s
  refine Calls.spliced_cons (Call_ (ld_blt I hg hm PyProof.Rows.boot_zip (PyProof.Rows.callWith_type1 (thn (ha.run pos2 pins s σ H _ I h) fun us s1 ⟨vs, H1, I1, r1, q1⟩ => ?_) hs hpl)))
  obtain ⟨a, b, xs, ys, ex, hqx, hqy, q⟩ := q1
  subst ex
  obtain ⟨v1, v2, rfl, e1, e2⟩ := vals2 r1
  obtain rfl : v1 = Value.ref a := e1
  obtain rfl : v2 = Value.ref b := e2
  obtain ⟨its, rv, p1, _⟩ := I1.tuple hqx
  obtain ⟨its2, rv2, p2, _⟩ := I1.tuple hqy
  obtain ⟨o1, ho1, _⟩ := id p1
  obtain ⟨o2, ho2, _⟩ := id p2
  have la : a < s1.heap.objs.size := Heap.lt_size ho1
  have lb : b < s1.heap.objs.size := Heap.lt_size ho2
  refine zip_begins2 (begins_tuple a its.toArray) (begins_tuple b its2.toArray) p1 p2 fun h' hz hTI hTO g1 g2 hsz hk => Calls.spliced_nil (enumZ_begins hz fun h2 he hsz2 hk2 => wpAny_pyIter_enum he ?_)
  have hsz' : h'.objs.size = s1.heap.objs.size + 5 := hsz
  have I2 : Inv X pins σ H1 { s1 with heap := h2 } := I1.kept (t' := s1.toks) fun c o e => hk2 c o (hk c o e)
  have ge : ∀ c, c ∈ [h'.objs.size, s1.heap.objs.size + 4, s1.heap.objs.size + 2, s1.heap.objs.size + 3, s1.heap.objs.size, s1.heap.objs.size + 1] → s1.heap.objs.size ≤ c := fun c hcm => by
    have e' : c = h'.objs.size ∨ c = s1.heap.objs.size + 4 ∨ c = s1.heap.objs.size + 2 ∨ c = s1.heap.objs.size + 3 ∨ c = s1.heap.objs.size ∨ c = s1.heap.objs.size + 1 := by simpa using hcm
    rcases e' with z | z | z | z | z | z
    · rw [z, hsz']; exact Nat.le_add_right _ _
    · rw [z]; exact Nat.le_add_right _ _
    · rw [z]; exact Nat.le_add_right _ _
    · rw [z]; exact Nat.le_add_right _ _
    · rw [z]; exact Nat.le_refl _
    · rw [z]; exact Nat.le_add_right _ _
  have d : ∀ k : Nat, k ≠ 5 → h'.objs.size ≠ s1.heap.objs.size + k := fun k h q => h (Nat.add_left_cancel (hsz'.symm.trans q)).symm
  exact ⟨h'.objs.size, [h'.objs.size, s1.heap.objs.size + 4, s1.heap.objs.size + 2, s1.heap.objs.size + 3, s1.heap.objs.size, s1.heap.objs.size + 1], _, _, H1, rfl, I2,
    turn_enumZip (zip_sep2 (N := s1.heap.objs.size) (fp1 := [a]) (fp2 := [b]) (fun c hc => by rw [List.mem_singleton.mp hc]; exact la) (fun c hc => by rw [List.mem_singleton.mp hc]; exact lb)) (Nat.ne_of_lt la) (Nat.ne_of_lt (Nat.lt_succ_of_lt lb)) (d 4 (by decide)) (d 2 (by decide)) (d 3 (by decide)) (d 0 (by decide)) (d 1 (by decide)),
    ⟨⟨_, he⟩, ⟨.none, false, .inl rfl, hk2 _ _ hz⟩, hk2 _ _ hTI, ⟨_, _, hk2 _ _ hTO⟩, ⟨_, hk2 _ _ g1, rfl, rfl⟩, ⟨_, hk2 _ _ g2, rfl, rfl⟩⟩, fun c hcm => I1.fpOk (ge c hcm) (I1.hok.fresh (ge c hcm)), q⟩
theorem for_enumZip {K : PySem.W.Frag} {a b : Addr} {xs ys : List V} {g : TG} {tb : TS} {D : Ends} {σ : L2.St} {H : Hp} (hl : xs.length = ys.length) (Pv : Nat → L2.St → Hp → Prop) (h0 : Pv 0 σ H) (hq : ∀ i σ H, Pv i σ H → SqT K H a xs ∧ SqT K H b ys)
    (hs : ∀ (i : Nat) (x y : V) (T T2 : Addr) (σ : L2.St) (H : Hp), xs[i]? = some x → ys[i]? = some y → Pv i σ H → H T2 = none → T ≠ T2 → H T = none → g (.ref T) σ (upd (upd H T2 (.tup [x, y])) T (.tup [.int (i : Nat), .ref T2])) fun σ2 H2 => tb { D with nx := Pv (i + 1), ct := Pv (i + 1), bk := D.nx } σ2 H2) (hd : ∀ σ H, Pv xs.length σ H → D.nx σ H) :
    ∃ W : Nat → Nat → L2.St → Hp → Prop, (∃ m, W 0 m σ H) ∧ ∀ i m σ H, W i m σ H →
      ((Itez K a b).stop i H ∧ D.nx σ H) ∨ ((Itez K a b).go i H ∧ ∃ N : L2.St → Hp → Prop, (∀ σ' H', N σ' H' → ∃ m', m' < m ∧ W (i + 1) m' σ' H') ∧ ∀ v H', (Itez K a b).yld i H v H' → g v σ H' fun σ2 H2 => tb { D with nx := N, ct := N, bk := D.nx } σ2 H2) := by
  refine ⟨fun i m σ H => m = xs.length - i ∧ i ≤ xs.length ∧ Pv i σ H, ⟨xs.length, rfl, Nat.zero_le _, h0⟩, ?_⟩
  rintro i m σ H ⟨rfl, hi, p⟩
  obtain ⟨qx, qy⟩ := hq i σ H p
  by_cases hlt : i < xs.length
  · refine .inr ⟨⟨xs, ys, _, _, qx, qy, List.getElem?_eq_getElem hlt, List.getElem?_eq_getElem (by omega)⟩, Pv (i + 1), fun σ' H' p' => ⟨xs.length - (i + 1), by omega, rfl, hlt, p'⟩, fun v H' y => ?_⟩
    obtain ⟨T, T2, x', y', rfl, hT2, hne, hT, rfl, f1, f2⟩ := y
    exact hs i x' y' T T2 σ H (f1 xs qx) (f2 ys qy) p hT2 hne hT
  · have e : i = xs.length := by omega
    subst e
    exact .inl ⟨⟨xs, ys, qx, qy, by omega⟩, hd σ H p⟩
end Lt

set_option Elab.async false
set_option linter.all false
set_option maxRecDepth 100000
set_option maxHeartbeats 1000000
/-! sessions.py: first_unlike -/
namespace Lt
open PySem PySem.Spec PyProof.Rows L2
/-- the place of the first answer that is another than «what» -/
def unlL : List (Str × Str) → Nat → Option Nat
  | [], _ => none
  | b :: l, i => if b.2 = ("what" : Str) then unlL l (i + 1) else some i
def ovP : Option Nat → V
  | none => .non
  | some i => nI i
theorem PrAt.dp {K : PySem.W.Frag} {H : Hp} {v : V} {b : Str × Str} (h : PrAt H v b) : Dp K H v (.tuple [.str b.1, .str b.2]) := let ⟨_, e, hq⟩ := h; e ▸ .tup (SqT.of hq) (.cons (.str _) (.cons (.str _) .nil))
theorem eqv_str (a b : Str) : PyData.eqv (.str a) (.str b) = decide (a = b) := by
  show (a == b) = decide (a = b)
  by_cases e : a = b
  · subst e; simp
  · rw [decide_eq_false e]
    exact beq_eq_false_iff_ne.mpr e
theorem eqv_pr (a b : Str × Str) : PyData.eqv (.tuple [.str a.1, .str a.2]) (.tuple [.str b.1, .str b.2]) = (decide (a.1 = b.1) && decide (a.2 = b.2)) := by
  show (PyData.eqv (.str a.1) (.str b.1) && (PyData.eqv (.str a.2) (.str b.2) && true)) = _
  rw [eqv_str, eqv_str, Bool.and_true]
theorem sh_pr {a b : Str} (h1 : PyData.strOk a = true) (h2 : PyData.strOk b = true) : SeqAt.shaped (.tuple [.str a, .str b]) = true := by
  show (PyData.canLayAll0 [PyData.str a, PyData.str b] && decide (PyData.depthAll [PyData.str a, PyData.str b] + 1 ≤ 64)) = true
  show ((PyData.strOk a && (PyData.strOk b && true)) && decide (PyData.depthAll [PyData.str a, PyData.str b] + 1 ≤ 64)) = true
  rw [h1, h2]
  rfl
/-- what a desk that is told such lines answers -/
abbrev whatL (log : List (Str × Str)) : List (Str × Str) := log.map fun b => (b.1, ("what" : Str))
section
variable {P : Program} {w : World} {K : PySem.W.Frag} {mg : Str → Option Value} {base : Heap} {C CD CB CS : Addr} {no : List Str}
def FuOk (CB : Addr) (no : List Str) (H : Hp) (Q : VK) (E : XK) (lines : List Str) : Prop :=
  (∃ b, stL lines ≤ b ∧ b < lines.length ∧ (∀ i, stL lines ≤ i → i < b → gdM lines (stL lines) i = true) ∧ gdM lines (stL lines) b = false ∧ BadF2 CB "line" (nI (b + 1)) "place" (nI 1) H E) ∨
   ((∀ i, stL lines ≤ i → i < lines.length → gdM lines (stL lines) i = true) ∧ (((lines.length - stL lines) % 2 = 1 ∧ BadF2 CB "line" (nI (lines.length + 1)) "place" (nI 1) H E) ∨ ((lines.length - stL lines) % 2 = 0 ∧
     (lkTx lines).length ≤ 80000 ∧ ∃ ls n, lockOf (lkTx lines) = .ok ls ∧ Lk ls n ∧ (saidL lines).length ≤ 20 ∧ (∀ b ∈ saidL lines, b.1.length ≤ 80000 ∧ 10 ∉ b.1.cps.toList ∧ unkW no (wordsIn b.1) = true ∧ PyData.strOk b.1 = true ∧ PyData.strOk b.2 = true) ∧ ∀ H', Same H H' → Q (ovP (unlL (saidL lines) 0)) H')))
def spUnlike (CB : Addr) (no : List Str) : Sp := fun vs H Q E => ∃ x, vs = [.str x] ∧ x.length ≤ 80000 ∧ FuOk CB no H Q E (splS x sNl)
abbrev fuN : List Str := ["text", "lock", "pairs", "session", "line", "_", "place", "pair", "again"]
theorem sc_first_unlike : FnScope fuN ["text"] (defScope s_first_unlike) := ⟨rfl, rfl, rfl, by decide +kernel, rfl, by decide +kernel, by decide +kernel⟩
theorem has_first_unlike (T : Top K mg "first_unlike" s_first_unlike ["text"]) (B : Bi mg) (bz : mg "zip" = none) (TS : SessT K mg C) (hRS : Has P w K mg base (L2.CX P w) 6 "read_session" ["text"] (spRdSess CB CS)) (hW : Has P w K mg base (L2.CX P w) 6 "write_lock" ["lock"] spWriteLock)
    (hI : HasI P w K mg base (L2.CX P w) 9 C "Session" ["self", "text"] (spSsInit C CD)) (hS : HasM P w K mg base (L2.CX P w) 3 C "say" ["self", "line"] (spSsSay C CD CS no)) (hL : HasP P w K mg base CX0 1 C "log" (spSsLog C CD)) : Has P w K mg base (L2.CX P w) 11 "first_unlike" ["text"] (spUnlike CB no) := by
  refine T.okX sc_first_unlike (fun vs H Q E h => ?_) (fun f cdv A outer s H vs Q E hr h => ?_)
  · obtain ⟨v, rfl, _⟩ := h
    rfl
  · obtain ⟨x, rfl, hx, h⟩ := h
    have hr2 : Room 2 _ := hr.mono (by decide)
    have hr3 : Room 3 _ := hr.mono (by decide)
    have hr6 : Room 6 _ := hr.mono (by decide)
    have hu := hr.units
    refine ⟨_, pss_cons (ps_asg (pe_hasX (E := E) hRS hr6 (by rfl) (passes_call (takes_of rfl rfl rfl rfl) (fun _ _ _ _ h => h)) (pa_cons (pv 0) pa_nil)) (pg_tup (by rfl) (pgs_cons (pg_name (i := 1) sc_first_unlike.nd rfl (Or.inl rfl)) (pgs_cons (pg_name (i := 2) sc_first_unlike.nd rfl (Or.inl rfl)) pgs_nil))))
      (pss_cons (ps_set (i := 3) sc_first_unlike.nd rfl (Or.inl rfl) (pe_hasI hI hr (by rfl) passL (pa_cons (pe_hasL hW hr6 (by rfl) (pa_cons (pv 1) pa_nil)) pa_nil)))
      (pss_cons (ps_for (passes_of rfl) rfl (pi_tup (pv 2)) (pg_tup rfl (pgs_cons (pg_name (i := 4) sc_first_unlike.nd rfl (Or.inl rfl)) (pgs_cons (pg_name (i := 5) sc_first_unlike.nd rfl (Or.inl rfl)) pgs_nil)))
        (pss_one (ps_expr (pe_hasM hS TS.cl hr3 passL (pv 3) (pa_cons (pv 4) pa_nil)))))
      (pss_cons (ps_for (passes_of rfl) rfl (pi_enumZip (by rfl) B.enumerate (by rfl) bz (pa_cons (pv 2) (pa_cons (pe_hasP hL TS.cl hr2 pass0 (pv 3)) pa_nil))) (pg_tup rfl (pgs_cons (pg_name (i := 6) sc_first_unlike.nd rfl (Or.inl rfl)) (pgs_cons (pg_tup rfl (pgs_cons (pg_name (i := 7) sc_first_unlike.nd rfl (Or.inl rfl)) (pgs_cons (pg_name (i := 8) sc_first_unlike.nd rfl (Or.inl rfl)) pgs_nil))) pgs_nil)))
        (pss_one (ps_if (pt_cmpR (op_neD hu) (pv 7) (pv 8) (nomark _)) (pss_one (ps_ret (pv 6))) pss_nil)))
      (pss_one (ps_ret pe_non))))), ?_⟩
    obtain ⟨g1, rst⟩ : RsOk CB H (fun r H1 => ∃ ls n, SsR H1 r ls (saidL (splS x sNl)) ∧ Lk ls n ∧ Same H H1 ∧ (saidL (splS x sNl)).length ≤ 20 ∧ (∀ b ∈ saidL (splS x sNl), b.1.length ≤ 80000 ∧ 10 ∉ b.1.cps.toList ∧ unkW no (wordsIn b.1) = true ∧ PyData.strOk b.1 = true ∧ PyData.strOk b.2 = true) ∧ ∀ H', Same H H' → Q (ovP (unlL (saidL (splS x sNl)) 0)) H') E (splS x sNl) ∧ True := by
      refine ⟨?_, trivial⟩
      rcases h with h | ⟨all, od | ⟨ev, hlk, ls, n, hok, lk, hl20, hall, q⟩⟩
      · exact .inl h
      · exact .inr ⟨all, .inl od⟩
      · refine .inr ⟨all, .inr ⟨ev, hlk, fun e he => ?_, fun ts hts r H' s ss => ?_⟩⟩
        · have := he.symm.trans hok
          cases this
        · have hts : (Except.ok ts : Except (Nat × Nat) (List (List Nat))) = .ok ls := hts.symm.trans hok
          injection hts with hts
          subst hts
          exact ⟨ts, n, ss, lk, s, hl20, hall, q⟩
    refine ⟨_, rfl, .str x, rfl, .str x, .str _, (fun z => nomatch z), fun y hy => ?_⟩
    injection hy with hy
    subst hy
    refine ⟨rfl, hx, ?_⟩
    have mono : ∀ {Q1 Q2 : VK}, (∀ r H', Q1 r H' → Q2 r H') → RsOk CB H Q1 E (splS x sNl) → RsOk CB H Q2 E (splS x sNl) := fun hq g => by
      rcases g with g | ⟨all, od | ⟨ev, hlk, qe, qg⟩⟩
      · exact .inl g
      · exact .inr ⟨all, .inl od⟩
      · exact .inr ⟨all, .inr ⟨ev, hlk, qe, fun ts hts r H' s ss => hq _ _ (qg ts hts r H' s ss)⟩⟩
    refine mono (fun r H1 hr1 => ?_) g1
    obtain ⟨ls, n, ⟨ra, lv, pa, xs, rfl, hra, tv, hpa, pr⟩, lk, s1, hl20, hall, q⟩ := hr1
    generalize saidL (splS x sNl) = log at *
    refine ⟨ra, _, rfl, SqT.of hra, rfl, _, _, rfl, _, _, rfl, rfl, ?_⟩
    refine ⟨_, rfl, lv, ls, n, rfl, ⟨tv.tt, lk.gl, lk.few⟩, fun H2 s2 => ?_⟩
    have ltx := lockTx_len lk.gl
    refine fun px dx npx ndx nex => ⟨px, dx, lockTx ls, ls, n, rfl, upd_same, by omega, lock_loose lk.gl rfl, lk, fun dk ll H3 st3 nd3 nl3 S3 => ⟨rfl, ?_⟩⟩
    have s23 : Same H2 H3 := fun b o hb => st3 b o (ne_of_none hb npx) ((upd_ne (ne_of_none hb npx)).trans ((upd_ne (ne_of_none hb ndx)).trans hb))
    have s13 : Same H1 H3 := s2.trans s23
    have nll : H2 ll = none := by
      cases e : H2 ll with
      | none => rfl
      | some o =>
        rw [(upd_ne (ne_of_none e npx)).trans ((upd_ne (ne_of_none e ndx)).trans e)] at nl3
        cases nl3
    have nll1 : H1 ll = none := s2.free nll
    have hlx := Paired.length pr
    have hpa3 := s13 _ _ hpa
    refine ⟨_, rfl, pa, rfl, ⟨_, SqT.of hpa3⟩, for_tup (K := K) (a := pa) (xs := xs) (fun i σ H' => ∃ y4 y5, σ = [some (.str x), some lv, some (.ref pa), some (.ref px), y4, y5, none, none, none] ∧ Same H1 H' ∧ SsAt H' C CD px dk ll ls (whatL (log.take i)))
      ⟨none, none, rfl, s13, S3⟩ (fun i σ H' _ ⟨_, _, _, s, _⟩ => SqT.of (s _ _ hpa)) ?_ ?_⟩
    · rintro i xv σ H' hi ⟨y4, y5, rfl, s', S⟩
      obtain ⟨b, hb, tq, rfl, htq⟩ := Lt.Paired.getL pr hi
      obtain ⟨h1, h2, h3, _⟩ := hall b (List.mem_of_getElem? hb)
      have ht : log.take (i + 1) = log.take i ++ [b] := by rw [List.take_add_one, hb]; rfl
      obtain ⟨dx', lv', hin, _⟩ := id S.ins
      refine ⟨tq, _, rfl, SqT.of (s' _ _ htq), rfl, _, _, rfl, _, _, rfl, rfl, ?_⟩
      refine ⟨_, rfl, px, dx', _, rfl, hin, rfl, _, rfl, px, dk, ll, ls, whatL (log.take i), b.1, rfl, S, by rw [List.length_map, List.length_take]; omega, h1, fun z => absurd z h2, fun _ => ⟨h3, fun H4 st4 S4 => ?_⟩⟩
      refine ⟨_, _, rfl, fun c o hc => st4 c o (ne_of_none hc nll1) (s' c o hc), ?_⟩
      rw [ht, show whatL (log.take i ++ [b]) = whatL (log.take i) ++ [(b.1, ("what" : Str))] from List.map_append]
      exact S4
    · rintro σ H' ⟨y4, y5, rfl, s', S⟩
      rw [hlx, List.take_length] at S
      obtain ⟨dx', lv', hin, _⟩ := id S.ins
      refine ⟨_, rfl, _, rfl, px, dx', _, rfl, hin, px, dk, ll, ls, whatL log, rfl, S, fun tp xs2 H5 s5 htp pr2 => ?_⟩
      have hl2 := Paired.length pr2
      have s05 := s'.trans s5
      have hpa5 := s05 _ _ hpa
      rw [List.length_map] at hl2
      refine ⟨pa, tp, xs, xs2, rfl, SqT.of hpa5, SqT.of htp, for_enumZip (K := K) (by omega) (fun i σ H' => ∃ y6 y7 y8, σ = [some (.str x), some lv, some (.ref pa), some (.ref px), y4, y5, y6, y7, y8] ∧ Same H5 H' ∧ unlL log 0 = unlL (log.drop i) i)
        ⟨none, none, none, rfl, Same.refl _, rfl⟩ (fun i σ H' ⟨_, _, _, _, s, _⟩ => ⟨SqT.of (s _ _ hpa5), SqT.of (s _ _ htp)⟩) ?_ ?_⟩
      · rintro i xv yv T T2 σ H' hi hj ⟨y6, y7, y8, rfl, s6, hun⟩ hT2 hne hT
        obtain ⟨b, hb, rb⟩ := Lt.Paired.getL pr hi
        obtain ⟨b2, hb2, rb2⟩ := Lt.Paired.getL pr2 hj
        rw [List.getElem?_map, hb] at hb2
        have hb2 : (b.1, ("what" : Str)) = b2 := Option.some.inj hb2
        subst hb2
        have sT2 := same_new (o := .tup [xv, yv]) hT2
        obtain ⟨_, _, _, ok1, ok2⟩ := hall b (List.mem_of_getElem? hb)
        have sT := same_new (H := upd H' T2 (.tup [xv, yv])) (o := .tup [V.int (i : Nat), V.ref T2]) ((upd_ne hne).trans hT)
        have s8 := s6.trans (sT2.trans sT)
        have hd : log.drop i = b :: log.drop (i + 1) := by
          have hil := (List.getElem?_eq_some_iff.mp hb).1
          rw [List.drop_eq_getElem_cons hil, (List.getElem?_eq_some_iff.mp hb).2]
        rw [hd] at hun
        have rb8 := rb.tm (.of (s05.trans s8))
        have rb9 := rb2.tm (.of s8)
        refine ⟨T, _, rfl, SqT.of upd_same, rfl, _, _, rfl, _, _, rfl, T2, _, rfl, SqT.of (sT _ _ upd_same), rfl, _, _, rfl, _, _, rfl, rfl, rfl, ?_⟩
        refine ⟨_, rfl, _, rfl, _, _, rb8.dp, rb9.dp, sh_pr ok1 ok2, sh_pr ok1 (show PyData.strOk ("what" : Str) = true by decide +kernel), _, rfl, ?_⟩
        rw [eqv_pr, decide_eq_true rfl, Bool.true_and]
        by_cases he : b.2 = ("what" : Str)
        · rw [decide_eq_true he]
          refine iteF ⟨_, _, _, rfl, s8, hun.trans ?_⟩
          exact if_pos he
        · rw [decide_eq_false he]
          refine iteT ⟨_, rfl, ?_⟩
          have e : unlL log 0 = some i := hun.trans (if_neg he)
          rw [e] at q
          exact q _ (s1.trans (s05.trans s8))
      · rintro σ H' ⟨y6, y7, y8, rfl, s6, hun⟩
        rw [hlx, List.drop_length] at hun
        rw [hun] at q
        exact q _ (s1.trans (s05.trans s6))
end
end Lt

set_option Elab.async false
set_option linter.all false
set_option maxRecDepth 100000
set_option maxHeartbeats 1000000
/-! the lines of a session's text, whole, with another answer, with a line more -/
namespace Lt
open PySem PySem.Spec PyProof.Rows L2
open TL (tl)
def lkL (ls : List (List Nat)) : List Str := ls.map fun t => ("| " : Str) ++ lnT t
theorem lkL_len (ls : List (List Nat)) : (lkL ls).length = ls.length := List.length_map ..
theorem sessL_eq (ls : List (List Nat)) (log : List (Str × Str)) : sessL ls log = lkL ls ++ (log.map prL).flatten := rfl
theorem sessL_len (ls : List (List Nat)) (log : List (Str × Str)) : (sessL ls log).length = ls.length + 2 * log.length := by
  rw [sessL_eq, List.length_append, lkL_len, flat_len]
/-- the lines after the lock's begin with no mark of a lock -/
def NoLk (tail : List Str) : Prop := ∀ z, tail.head? = some z → isLk z = false
theorem isLk_pr (x : Str) : isLk (("> " : Str) ++ x) = false := by
  unfold isLk
  rw [stw_app x (by decide +kernel)]
  decide +kernel
theorem noLk_flat (log : List (Str × Str)) : NoLk (log.map prL).flatten := fun z h => by
  cases log with
  | nil => cases h
  | cons b l =>
    have e : ((b :: l).map prL).flatten.head? = some (("> " : Str) ++ b.1) := rfl
    rw [e] at h
    injection h with h
    rw [← h]
    exact isLk_pr b.1
theorem takeWhile_noLk {tail : List Str} (h : NoLk tail) : tail.takeWhile isLk = [] := by
  cases tail with
  | nil => rfl
  | cons z l => rw [List.takeWhile_cons, h z rfl]; rfl
theorem stL_app {ls : List (List Nat)} {tail : List Str} (h : NoLk tail) : stL (lkL ls ++ tail) = ls.length := by
  unfold stL
  rw [List.takeWhile_append_of_pos, takeWhile_noLk h, List.append_nil, lkL_len]
  intro z hz
  obtain ⟨t, _, rfl⟩ := List.mem_map.mp hz
  unfold isLk
  rw [stw_app _ rfl]
  decide +kernel
theorem lkTx_app {ls : List (List Nat)} {tail : List Str} (h : NoLk tail) : lkTx (lkL ls ++ tail) = lockTx ls := by
  unfold lkTx
  rw [stL_app h, List.map_append, List.take_left' (by rw [List.length_map, lkL_len])]
  unfold lkL lockTx
  rw [List.map_map]
  congr 1
  refine List.map_congr_left fun t _ => ?_
  exact cutS_two (by decide +kernel)
theorem stL_sess (ls : List (List Nat)) (log : List (Str × Str)) : stL (sessL ls log) = ls.length := stL_app (noLk_flat log)
theorem lkTx_sess (ls : List (List Nat)) (log : List (Str × Str)) : lkTx (sessL ls log) = lockTx ls := lkTx_app (noLk_flat log)
theorem zip_pr : ∀ log : List (Str × Str), (log.map Prod.fst).zip (log.map Prod.snd) = log
  | [] => rfl
  | b :: l => by
    show (b.1, b.2) :: (l.map Prod.fst).zip (l.map Prod.snd) = b :: l
    rw [zip_pr l]
theorem saidL_sess (ls : List (List Nat)) (log : List (Str × Str)) : saidL (sessL ls log) = log := by
  unfold saidL
  rw [stL_sess, show (sessL ls log).map cut2 = toldL ls log from unmark_sessL ls log, told_fst, told_snd, zip_pr]
/-- neither a line nor an answer has a new line's sign -/
def NoNl (log : List (Str × Str)) : Prop := ∀ b ∈ log, 10 ∉ tl b.1 ∧ 10 ∉ tl b.2
theorem lkL_nl {ls : List (List Nat)} {n : Nat} (g : GL ls n) : ∀ z ∈ lkL ls, 10 ∉ tl z := fun z hz => by
  obtain ⟨t, ht, rfl⟩ := List.mem_map.mp hz
  rw [TL.tl_append, List.mem_append]
  rintro (h | h)
  · revert h
    decide +kernel
  · exact (lnT_words g.2.2.1 g.2.2.2.1 (g.2.2.2.2 t ht)).2.2 h
theorem flat_nl {log : List (Str × Str)} (no : NoNl log) : ∀ z ∈ (log.map prL).flatten, 10 ∉ tl z := fun z hz => by
  obtain ⟨m, hm, hz⟩ := List.mem_flatten.mp hz
  obtain ⟨b, hb, rfl⟩ := List.mem_map.mp hm
  obtain ⟨h1, h2⟩ := no b hb
  rcases List.mem_cons.mp hz with rfl | hz
  · rw [TL.tl_append, List.mem_append]
    rintro (h | h)
    · revert h
      decide +kernel
    · exact h1 h
  · rw [List.mem_singleton.mp hz, TL.tl_append, List.mem_append]
    rintro (h | h)
    · revert h
      decide +kernel
    · exact h2 h
theorem sessL_nl {ls : List (List Nat)} {n : Nat} {log : List (Str × Str)} (g : GL ls n) (no : NoNl log) : ∀ z ∈ sessL ls log, 10 ∉ tl z := fun z hz => by
  rcases List.mem_append.mp hz with h | h
  · exact lkL_nl g z h
  · exact flat_nl no z h
theorem sessL_ne {ls : List (List Nat)} {n : Nat} (g : GL ls n) (log : List (Str × Str)) : sessL ls log ≠ [] := fun z => by
  have h := sessL_len ls log
  rw [z] at h
  have := g.1
  simp at h
  omega
theorem sess_lines {ls : List (List Nat)} {n : Nat} {log : List (Str × Str)} (g : GL ls n) (no : NoNl log) : splS (sessTx ls log) sNl = sessL ls log := joinS_nl (sessL_ne g log) (sessL_nl g no)
/-! ### a line more -/
theorem join_snoc {l : List Str} (h : l ≠ []) (x : Str) : Txt.join sNl (l ++ [x]) = Txt.join sNl l ++ (sNl ++ x) := by
  refine TL.ext_tl ?_
  rw [TL.join_eq, TL.join_eq, TL.tl_join, TL.tl_append, TL.tl_append, TL.tl_join, List.map_append, show [x].map tl = [tl x] from rfl, joinL_app (fun z => h (List.map_eq_nil_iff.mp z)) (List.cons_ne_nil _ _)]
  rfl
theorem sess_more {ls : List (List Nat)} {n : Nat} {log : List (Str × Str)} (g : GL ls n) (no : NoNl log) {x y : Str} (hx : 10 ∉ tl x) (e : sNl ++ x = y) : splS (sessTx ls log ++ y) sNl = sessL ls log ++ [x] := by
  subst e
  unfold sessTx
  rw [← join_snoc (sessL_ne g log)]
  refine joinS_nl (fun z => ?_) fun p hp => ?_
  · have := congrArg List.length z
    simp at this
  · rcases List.mem_append.mp hp with h | h
    · exact sessL_nl g no p h
    · rw [List.mem_singleton.mp h]
      exact hx
theorem sessTx_snoc {ls : List (List Nat)} {n : Nat} (g : GL ls n) (l : List (Str × Str)) (b : Str × Str) : sessTx ls (l ++ [b]) = sessTx ls l ++ ("\n> " : Str) ++ b.1 ++ ("\n< " : Str) ++ b.2 := by
  have e : sessL ls (l ++ [b]) = (sessL ls l ++ [("> " : Str) ++ b.1]) ++ [("< " : Str) ++ b.2] := by
    rw [sessL_eq, sessL_eq, List.map_append, List.flatten_append, List.append_assoc, List.append_assoc]
    rfl
  unfold sessTx
  rw [e, join_snoc (fun z => by have := congrArg List.length z; simp at this), join_snoc (sessL_ne g l)]
  refine TL.ext_tl ?_
  have e1 : tl ("\n> " : Str) = tl sNl ++ tl ("> " : Str) := by decide +kernel
  have e2 : tl ("\n< " : Str) = tl sNl ++ tl ("< " : Str) := by decide +kernel
  simp only [TL.tl_append, e1, e2, List.append_assoc]
theorem sessTx_nil (ls : List (List Nat)) : sessTx ls [] = Txt.join sNl (lkL ls) := by
  unfold sessTx
  rw [sessL_eq]
  show Txt.join sNl (lkL ls ++ []) = _
  rw [List.append_nil]
/-! ### marks where a line more stands -/
theorem noLk_more {log : List (Str × Str)} {x : Str} (h : isLk x = false) : NoLk ((log.map prL).flatten ++ [x]) := fun z hz => by
  cases log with
  | nil =>
    have hz : some x = some z := hz
    injection hz with hz
    rw [← hz]
    exact h
  | cons b l =>
    have hz : some (("> " : Str) ++ b.1) = some z := hz
    injection hz with hz
    rw [← hz]
    exact isLk_pr b.1
theorem getD_app {l m : List Str} {i : Nat} (h : i < l.length) : (l ++ m).getD i ("" : Str) = l.getD i ("" : Str) := by
  rw [List.getD_eq_getElem?_getD, List.getD_eq_getElem?_getD, List.getElem?_append_left h]
theorem getD_last {l : List Str} {x : Str} : (l ++ [x]).getD l.length ("" : Str) = x := by
  rw [List.getD_eq_getElem?_getD, List.getElem?_append_right (Nat.le_refl _), Nat.sub_self]
  rfl
theorem stL_more {ls : List (List Nat)} {log : List (Str × Str)} {x : Str} (h : isLk x = false) : stL (sessL ls log ++ [x]) = ls.length := by
  rw [sessL_eq, List.append_assoc]
  exact stL_app (noLk_more h)
theorem more_old {ls : List (List Nat)} {log : List (Str × Str)} {x : Str} {i : Nat} (h1 : ls.length ≤ i) (h2 : i < (sessL ls log).length) : gdM (sessL ls log ++ [x]) ls.length i = true := by
  have h := gdM_sess ls log i h1 (by rw [← sessL_len]; exact h2)
  unfold gdM at h ⊢
  rw [getD_app h2]
  exact h
theorem more_new {ls : List (List Nat)} {log : List (Str × Str)} {x : Str} : gdM (sessL ls log ++ [x]) ls.length (sessL ls log).length = Txt.startswith x ("> " : Str) := by
  unfold gdM
  rw [getD_last, sessL_len, Nat.add_sub_cancel_left]
  congr 1
  unfold mkM
  rw [if_neg (by omega)]
/-! ### another answer -/
theorem flat_get (log : List (Str × Str)) (k : Nat) (v : Str) : k < log.length → ((log.map prL).flatten).set (2 * k + 1) (("< " : Str) ++ v) = ((log.set k ((log.getD k (("" : Str), ("" : Str))).1, v)).map prL).flatten := by
  induction log generalizing k with
  | nil => intro h; cases h
  | cons b l ih =>
    intro h
    cases k with
    | zero => rfl
    | succ k =>
      have e : 2 * (k + 1) + 1 = 2 * k + 1 + 1 + 1 := by omega
      rw [e]
      show (("> " : Str) ++ b.1) :: (("< " : Str) ++ b.2) :: ((l.map prL).flatten.set (2 * k + 1) (("< " : Str) ++ v)) = _
      rw [ih k (Nat.lt_of_succ_lt_succ h)]
      rfl
theorem set_app {l m : List Str} {i : Nat} {x : Str} : (l ++ m).set (l.length + i) x = l ++ m.set i x := by
  rw [List.set_append_right _ _ (by omega), Nat.add_sub_cancel_left]
/-- the log with another answer at k -/
def logSet (log : List (Str × Str)) (k : Nat) (v : Str) : List (Str × Str) := log.set k ((log.getD k (("" : Str), ("" : Str))).1, v)
theorem sess_set (ls : List (List Nat)) {log : List (Str × Str)} {k : Nat} (h : k < log.length) (v : Str) : (sessL ls log).set (ls.length + 2 * k + 1) (("< " : Str) ++ v) = sessL ls (logSet log k v) := by
  rw [sessL_eq, show ls.length + 2 * k + 1 = (lkL ls).length + (2 * k + 1) by rw [lkL_len]; omega, set_app, flat_get log k v h]
  rfl
theorem unl_what : ∀ (log : List (Str × Str)) (i : Nat), (∀ b ∈ log, b.2 = ("what" : Str)) → unlL log i = none
  | [], _, _ => rfl
  | b :: l, i, h => by
    show (if b.2 = ("what" : Str) then unlL l (i + 1) else some i) = none
    rw [if_pos (h b List.mem_cons_self)]
    exact unl_what l (i + 1) fun c hc => h c (List.mem_cons_of_mem _ hc)
theorem unl_set : ∀ (log : List (Str × Str)) (k i : Nat) (p : Str × Str), (∀ b ∈ log, b.2 = ("what" : Str)) → p.2 ≠ ("what" : Str) → k < log.length → unlL (log.set k p) i = some (i + k)
  | [], _, _, _, _, _, h => by cases h
  | b :: l, 0, i, p, _, hp, _ => by
    show (if p.2 = ("what" : Str) then unlL l (i + 1) else some i) = some i
    rw [if_neg hp]
  | b :: l, k + 1, i, p, h, hp, hk => by
    show (if b.2 = ("what" : Str) then unlL (l.set k p) (i + 1) else some i) = some (i + (k + 1))
    rw [if_pos (h b List.mem_cons_self), unl_set l k (i + 1) p (fun c hc => h c (List.mem_cons_of_mem _ hc)) hp (Nat.lt_of_succ_lt_succ hk)]
    congr 1
    omega
/-! ### an answer without its mark -/
theorem set_sess {ls : List (List Nat)} {log : List (Str × Str)} {k : Nat} {x : Str} : (sessL ls log).set (ls.length + 2 * k + 1) x = lkL ls ++ (log.map prL).flatten.set (2 * k + 1) x := by
  rw [sessL_eq, show ls.length + 2 * k + 1 = (lkL ls).length + (2 * k + 1) by rw [lkL_len]; omega, set_app]
theorem stL_set {ls : List (List Nat)} {log : List (Str × Str)} {k : Nat} {x : Str} : stL ((sessL ls log).set (ls.length + 2 * k + 1) x) = ls.length := by
  rw [set_sess]
  refine stL_app fun z hz => ?_
  cases log with
  | nil => cases hz
  | cons b l =>
    have hz : some (("> " : Str) ++ b.1) = some z := hz
    injection hz with hz
    rw [← hz]
    exact isLk_pr b.1
theorem set_old {ls : List (List Nat)} {log : List (Str × Str)} {k i : Nat} {x : Str} (hk : k < log.length) (h1 : ls.length ≤ i) (h2 : i < ls.length + 2 * k + 1) : gdM ((sessL ls log).set (ls.length + 2 * k + 1) x) ls.length i = true := by
  have h := gdM_sess ls log i h1 (by omega)
  unfold gdM at h ⊢
  rw [List.getD_eq_getElem?_getD, List.getElem?_set_ne (by omega), ← List.getD_eq_getElem?_getD]
  exact h
theorem set_new {ls : List (List Nat)} {log : List (Str × Str)} {k : Nat} {x : Str} (hk : k < log.length) : gdM ((sessL ls log).set (ls.length + 2 * k + 1) x) ls.length (ls.length + 2 * k + 1) = Txt.startswith x ("< " : Str) := by
  unfold gdM
  rw [List.getD_eq_getElem?_getD, List.getElem?_set_self (by rw [sessL_len]; omega)]
  congr 1
  unfold mkM
  rw [show ls.length + 2 * k + 1 - ls.length = 2 * k + 1 by omega, if_pos (by omega)]
theorem set_lines {ls : List (List Nat)} {n : Nat} {log : List (Str × Str)} {k : Nat} {x : Str} (g : GL ls n) (no : NoNl log) (hx : 10 ∉ tl x) : splS (Txt.join sNl ((sessL ls log).set k x)) sNl = (sessL ls log).set k x := by
  refine joinS_nl (fun z => ?_) fun p hp => ?_
  · have h := congrArg List.length z
    rw [List.length_set, sessL_len] at h
    have h : ls.length + 2 * log.length = 0 := h
    have := g.1
    omega
  · rcases List.mem_or_eq_of_mem_set hp with h | h
    · exact sessL_nl g no p h
    · rw [h]
      exact hx
/-- a lock's line that is bent -/
def bentLk : Bool := match lockOf (lkTx [("| turn 0 0" : Str)]) with
  | .error e => decide (e = (1, 3))
  | .ok _ => false
theorem bentLk_ok : bentLk = true := by decide +kernel
theorem bent_lk : lockOf (lkTx [("| turn 0 0" : Str)]) = .error (1, 3) := by
  have h := bentLk_ok
  unfold bentLk at h
  cases e : lockOf (lkTx [("| turn 0 0" : Str)]) with
  | error z => rw [e] at h; rw [of_decide_eq_true h]
  | ok z => rw [e] at h; cases h
end Lt

set_option Elab.async false
set_option linter.all false
set_option maxRecDepth 100000
set_option maxHeartbeats 1000000
namespace Lt
open PySem PySem.Spec PyProof.Rows L2
/-! ### _law_alike, of equal data -/
def isTL (d : PyData) : Bool := isTup d || isLst d
theorem kit_TL {K : PySem.W.Frag} (d : PyData) : PySem.W.kitAny K (.type (tyN d)) [.type "tuple", .type "list"] = some (isTL d) := by
  refine kitAny_cons (b := isTup d) (kit_ty (kit_tup d)) (fun h => ?_) (fun h => by unfold isTL; rw [h]; rfl)
  refine kitAny_cons (b := isLst d) (kit_ty (kit_lst d)) (fun h2 => ?_) (fun h2 => by unfold isTL; rw [h, h2]; rfl)
  unfold isTL
  rw [h, h2]
  exact kitAny_nil
theorem cls_TL : Paired ClsV [V.ty "tuple", V.ty "list"] [.type "tuple", .type "list"] := .cons (.ty _) (.cons (.ty _) .nil)
section
variable {P : Program} {w : World} {K : PySem.W.Frag} {mg : Str → Option Value} {base : Heap}
theorem sc_law_alike : FnScope ["found", "due", "k"] ["found", "due"] (defScope s_law_alike) := ⟨rfl, rfl, rfl, by decide +kernel, rfl, by decide +kernel, by decide +kernel⟩
theorem Rp.ix {K : PySem.W.Frag} {H : Hp} {a : Addr} {xs : List V} {i : Nat} {v : V} {Q : VK} (h : H a = some (.lst xs) ∨ RT H a xs) (hi : xs[i]? = some v) (q : Q v H) : rIx K (.ref a) (.int ((0 : Int) + (i : Nat))) H Q := by
  have e : atI xs ((0 : Int) + (i : Nat)) = some v := by rw [Int.zero_add]; exact atI_nat hi
  rcases h with h | h
  · exact .inl ⟨a, xs, _, v, rfl, rfl, SqL.of h, e, q⟩
  · exact .inr (.inl ⟨a, xs, _, v, rfl, rfl, h.sq, e, q⟩)
theorem RpAll.getR {H : Hp} : ∀ {ds : List PyData} {vs : List V} {i : Nat}, RpAll H vs ds → i < ds.length → ∃ v d, vs[i]? = some v ∧ ds[i]? = some d ∧ Rp H v d := fun {ds vs i} h hi => by
  have hl := h.len
  have hv : vs[i]? = some (vs[i]'(by omega)) := List.getElem?_eq_getElem (by omega)
  obtain ⟨d, h1, h2⟩ := h.get hv
  exact ⟨_, d, hv, h1, h2⟩
/-- a list or tuple -/
theorem Rp.seq {H : Hp} {v : V} {d : PyData} (h : Rp H v d) (ht : isTL d = true) : ∃ a xs ds, v = .ref a ∧ (H a = some (.lst xs) ∨ RT H a xs) ∧ RpAll H xs ds ∧ (d = .tuple ds ∨ d = .list ds) := by
  cases h with
  | lst h a => exact ⟨_, _, _, rfl, .inl h, a, .inr rfl⟩
  | tup h a => exact ⟨_, _, _, rfl, .inr h, a, .inl rfl⟩
  | non => cases ht
  | bl => cases ht
  | int => cases ht
  | str => cases ht
theorem sq_or {K : PySem.W.Frag} {H : Hp} {a : Addr} {xs : List V} (h : H a = some (.lst xs) ∨ RT H a xs) : SqL K H a xs ∨ SqT K H a xs := by
  rcases h with h | h
  · exact .inl (SqL.of h)
  · exact .inr h.sq
theorem or_same {H H' : Hp} {a : Addr} {xs : List V} (s : Same H H') (h : H a = some (.lst xs) ∨ RT H a xs) : H' a = some (.lst xs) ∨ RT H' a xs := by
  rcases h with h | h
  · exact .inl (s _ _ h)
  · exact .inr (h.sm s)
end
end Lt

set_option Elab.async false
set_option linter.all false
set_option maxRecDepth 100000
set_option maxHeartbeats 1000000
namespace Lt
open PySem PySem.Spec PyProof.Rows L2
/-! ### _law_alike, with texts among the values -/
def PlS : Nat → PyData → Prop
  | _, .int _ => True
  | _, .none => True
  | _, .str x => PyData.strOk x = true
  | k + 1, .tuple ds => ds.length ≤ 1000 ∧ ∀ e ∈ ds, PlS k e
  | k + 1, .list ds => ds.length ≤ 1000 ∧ ∀ e ∈ ds, PlS k e
  | _, _ => False
section
variable {P : Program} {w : World} {K : PySem.W.Frag} {mg : Str → Option Value} {base : Heap}
def spAlikeS (k : Nat) : Sp := fun vs H Q _ => ∃ (v u : V) (d : PyData), vs = [v, u] ∧ Rp H v d ∧ Rp H u d ∧ PlS k d ∧ ∀ H', Same H H' → Q (.bl true) H'
theorem has_law_alikeS (T : Top K mg "_law_alike" s_law_alike ["found", "due"]) (B : Bi mg) : ∀ k, Has P w K mg base CX0 (k + 1) "_law_alike" ["found", "due"] (spAlikeS k) := by
  have step : ∀ (k : Nat) (sp : Sp) (hsp : ∀ (v u : V) (d : PyData) (H : Hp) (Q : VK), (∃ k', k = k' + 1 ∧ PlS k' d) → Rp H v d → Rp H u d → (∀ H', Same H H' → Q (.bl true) H') → sp [v, u] H Q E0), Has P w K mg base CX0 k "_law_alike" ["found", "due"] sp → Has P w K mg base CX0 (k + 1) "_law_alike" ["found", "due"] (spAlikeS k) := by
    intro k sp hsp hA
    refine T.ok sc_law_alike (fun vs H Q E h => ?_) (fun f cdv A outer s H vs Q E hr h => ?_)
    · obtain ⟨v, u, d, rfl, _⟩ := h
      rfl
    · obtain ⟨v, u, d, rfl, hv, hu, hp, q⟩ := h
      refine ⟨_, pss_cons (ps_if (pt_val (pe_callB call_isiT (by rfl) B.isinstance PyProof.Rows.boot_isinstance (pa_cons (pv 1) (pa_cons (pe_tup (pa_cons (pe_bltn (by rfl) B.tuple PyProof.Rows.boot_tuple (rr_ty "tuple")) (pa_cons (pe_bltn (by rfl) B.list PyProof.Rows.boot_list (rr_ty "list")) pa_nil))) pa_nil))))
          (pss_cons (ps_if (PW.pt (pw_or (pt_not (pt_val (pe_callB call_isiT (by rfl) B.isinstance PyProof.Rows.boot_isinstance (pa_cons (pv 0) (pa_cons (pe_tup (pa_cons (pe_bltn (by rfl) B.tuple PyProof.Rows.boot_tuple (rr_ty "tuple")) (pa_cons (pe_bltn (by rfl) B.list PyProof.Rows.boot_list (rr_ty "list")) pa_nil))) pa_nil)))))
            (pw_or1 (pt_cmpR op_ne (pe_callB call_isi (by rfl) B.isinstance PyProof.Rows.boot_isinstance (pa_cons (pv 0) (pa_cons (pe_bltn (by rfl) B.list PyProof.Rows.boot_list (rr_ty "list")) pa_nil))) (pe_callB call_isi (by rfl) B.isinstance PyProof.Rows.boot_isinstance (pa_cons (pv 1) (pa_cons (pe_bltn (by rfl) B.list PyProof.Rows.boot_list (rr_ty "list")) pa_nil))) (nomark _)))))
            (pss_one (ps_ret pe_bl)) pss_nil)
          (pss_cons (ps_if (pt_cmpR op_ne (pe_callB call_len_seq (by rfl) B.len PySem.boot_len (pa_cons (pv 0) pa_nil)) (pe_callB call_len_seq (by rfl) B.len PySem.boot_len (pa_cons (pv 1) pa_nil)) (nomark _)) (pss_one (ps_ret pe_bl)) pss_nil)
          (pss_one (ps_ret (pe_cmpR (op_eqD hr.units) (pe_lc (own := [("k", 2)]) (g := gName 2) (tt := tNot (tB (tCall sp [] E0 (tCons (tOp (rIx K) (tVar 0) (tVar 2)) (tCons (tOp (rIx K) (tVar 1) (tVar 2)) tNil))))) (te := tVar 2) (by rfl) sc_law_alike.nd (pi_range1 (by rfl) B.range (pa_cons (pe_callB call_len_seq (by rfl) B.len PySem.boot_len (pa_cons (pv 1) pa_nil)) pa_nil))
              (blkOk_by (own := [("k", 2)]) (N := ["found", "due", "k"]) (sc := defScope s_law_alike) (by decide +kernel)) (fun _ _ _ _ _ => pg_name (i := 2) sc_law_alike.nd rfl (Or.inl rfl))
              (fun _ _ _ _ _ => pts_one (pt_not (pt_val (pe_has hA hr (by rfl) (pa_cons (pe_ix ix_seq (pv 0) (pv 2) (fun _ _ => rfl)) (pa_cons (pe_ix ix_seq (pv 1) (pv 2) (fun _ _ => rfl)) pa_nil))))))
              (fun _ _ _ _ _ => pv 2)) (pe_lst pa_nil) (nomark _)))))) pss_nil)
        (pss_cons (ps_if (PW.pt (pw_or (pt_cmp (pc_isN (pv 1))) (pw_or1 (pt_val (pe_callB call_isi (by rfl) B.isinstance PyProof.Rows.boot_isinstance (pa_cons (pv 1) (pa_cons (pe_bltn (by rfl) B.str PyProof.Rows.boot_str (rr_ty "str")) pa_nil)))))))
          (pss_one (ps_ret (pe_and (pe_cmpR (op_eqD hr.units) (pv 0) (pv 1) (nomark _)) (pe_one (pe_cmpR op_eq (pe_callB call_isi (by rfl) B.isinstance PyProof.Rows.boot_isinstance (pa_cons (pv 0) (pa_cons (pe_bltn (by rfl) B.str PyProof.Rows.boot_str (rr_ty "str")) pa_nil))) (pe_callB call_isi (by rfl) B.isinstance PyProof.Rows.boot_isinstance (pa_cons (pv 1) (pa_cons (pe_bltn (by rfl) B.str PyProof.Rows.boot_str (rr_ty "str")) pa_nil))) (nomark _)))))) pss_nil)
        (pss_one (ps_ret (pe_and (pe_callB call_isi (by rfl) B.isinstance PyProof.Rows.boot_isinstance (pa_cons (pv 0) (pa_cons (pe_bltn (by rfl) B.int PyProof.Rows.boot_int (rr_ty "int")) pa_nil)))
          (pe_and (pe_cmpR op_eq (pe_callB call_isi (by rfl) B.isinstance PyProof.Rows.boot_isinstance (pa_cons (pv 0) (pa_cons (pe_bltn (by rfl) B.bool PyProof.Rows.boot_bool (rr_ty "bool")) pa_nil))) (pe_callB call_isi (by rfl) B.isinstance PyProof.Rows.boot_isinstance (pa_cons (pv 1) (pa_cons (pe_bltn (by rfl) B.bool PyProof.Rows.boot_bool (rr_ty "bool")) pa_nil))) (nomark _))
            (pe_one (pe_cmpR op_eq (pv 0) (pv 1) (nomark _)))))))), ?_⟩
      refine ⟨_, rfl, by show 2 ≤ sizeLine; decide, fun tp htp => ?_⟩
      have s1 := same_new (o := .tup [V.ty "tuple", V.ty "list"]) htp
      have hv1 := Rp.same s1 _ _ hv
      have hu1 := Rp.same s1 _ _ hu
      refine ⟨u, tp, _, _, _, isTL d, rfl, upd_same, cls_TL, rp_ty hu1, kit_TL d, isTL d, rfl, ?_⟩
      by_cases hT : isTL d = true
      · rw [hT]
        refine iteT ⟨_, rfl, by show 2 ≤ sizeLine; decide, fun tp2 htp2 => ?_⟩
        have s2 := same_new (o := .tup [V.ty "tuple", V.ty "list"]) htp2
        have s12 := s1.trans s2
        have hv2 := Rp.same s2 _ _ hv1
        have hu2 := Rp.same s2 _ _ hu1
        refine ⟨v, tp2, _, _, _, isTL d, rfl, upd_same, cls_TL, rp_ty hv2, kit_TL d, isTL d, rfl, ?_⟩
        rw [hT]
        refine iteF ⟨_, rfl, v, .ty "list", _, _, isLst d, rfl, .ty _, rp_ty hv2, kit_ty (kit_lst d), _, rfl, u, .ty "list", _, _, isLst d, rfl, .ty _, rp_ty hu2, kit_ty (kit_lst d), rfl, _, rfl, iteNS rfl ?_⟩
        obtain ⟨a, xs, ds, rfl, ha, hx, hd⟩ := hv2.seq hT
        obtain ⟨b, ys, ds2, rfl, hb, hy, hd2⟩ := hu2.seq hT
        have eds : ds2 = ds := by
          rcases hd with e | e <;> rcases hd2 with e2 | e2 <;> rw [e] at e2 <;> first | (injection e2 with z; exact z.symm) | cases e2
        subst eds
        have hxl := hx.len
        have hyl := hy.len
        have hpl : ∃ k', k = k' + 1 ∧ ds2.length ≤ 1000 ∧ ∀ e ∈ ds2, PlS k' e := by
          cases k with
          | zero => rcases hd with e | e <;> rw [e] at hp <;> exact hp.elim
          | succ k' => rcases hd with e | e <;> rw [e] at hp <;> exact ⟨k', rfl, hp⟩
        obtain ⟨k', ek, hl, hpe⟩ := hpl
        refine ⟨_, rfl, a, xs, rfl, sq_or ha, _, rfl, b, ys, rfl, sq_or hb, rfl, _, rfl, iteNS (by rw [hxl, hyl]) ?_⟩
        refine ⟨_, rfl, b, ys, rfl, sq_or hb, (ys.length : Int), rfl, by omega, by omega, fun D hD => ?_⟩
        refine lc_range (lo := 0) (n := (ys.length : Int).toNat) (fun i H' => Same (upd (upd H tp (.tup [V.ty "tuple", V.ty "list"])) tp2 (.tup [V.ty "tuple", V.ty "list"])) H' ∧ H' D = some (.lst [])) ⟨same_new hD, upd_same⟩ ?_ ?_
        · rintro i H' hi ⟨sm, hDl⟩
          refine ⟨rfl, ?_⟩
          have hid : i < ds2.length := by omega
          obtain ⟨x1, d1, e1, e2, r1⟩ := hx.getR hid
          obtain ⟨x2, d2, e3, e4, r2⟩ := hy.getR hid
          have ed : d1 = d2 := Option.some.inj (e2.symm.trans e4)
          subst ed
          refine ⟨_, rfl, _, rfl, Rp.ix (or_same sm ha) e1 ⟨_, rfl, _, rfl, Rp.ix (or_same sm hb) e3 ?_⟩⟩
          refine hsp x1 x2 d1 H' _ ⟨k', ek, hpe d1 (List.mem_of_getElem? e2)⟩ (Rp.same sm _ _ r1) (Rp.same sm _ _ r2) fun H4 s4 => ?_
          exact ⟨true, rfl, iteF ⟨sm.trans s4, s4 _ _ hDl⟩⟩
        · rintro H' ⟨sm, hDl⟩
          refine ⟨Nat.zero_le _, fun p2 hp2 => ?_⟩
          have s5 := same_new (o := .lst []) hp2
          refine ⟨.list [], .list [], .lst (SqL.of (s5 _ _ hDl)) .nil, .lst (SqL.of upd_same) .nil, rfl, rfl, ?_⟩
          exact q _ ((s12.trans sm).trans s5)
      · have hF : isTL d = false := by simpa using hT
        rw [hF]
        have hi : (∃ i, d = .int i) ∨ d = .none ∨ ∃ x, d = .str x ∧ PyData.strOk x = true := by
          cases d with
          | int i => exact .inl ⟨i, rfl⟩
          | tuple ds => exact absurd rfl hT
          | list ds => exact absurd rfl hT
          | none => exact .inr (.inl rfl)
          | bool b => cases k <;> exact hp.elim
          | str b => cases k <;> exact .inr (.inr ⟨b, rfl, hp⟩)
          | dict b => cases k <;> exact hp.elim
        rcases hi with ⟨i, rfl⟩ | rfl | ⟨x, rfl, hok⟩
        rotate_left
        · cases hv
          cases hu
          refine iteF ⟨_, rfl, _, rfl, iteT (iteT ?_)⟩
          refine ⟨_, rfl, _, rfl, .none, .none, .non, .non, rfl, rfl, true, congrArg V.bl rfl, iteT ?_⟩
          exact ⟨_, rfl, .non, .ty "str", _, _, false, rfl, .ty _, .base .non, kit_ty (kit_str .none), _, rfl, .non, .ty "str", _, _, false, rfl, .ty _, .base .non, kit_ty (kit_str .none), rfl, q _ s1⟩
        · cases hv
          cases hu
          have sx : SeqAt.shaped (PyData.str x) = true := by
            show (PyData.strOk x && decide (PyData.depth (PyData.str x) ≤ 64)) = true
            rw [hok]
            rfl
          have ex : PyData.eqv (PyData.str x) (PyData.str x) = true := by
            show (x == x) = true
            simp
          refine iteF ⟨_, rfl, _, rfl, iteF ?_⟩
          refine ⟨_, rfl, .str x, .ty "str", _, _, true, rfl, .ty _, .base (.str x), kit_ty (kit_str (.str x)), true, rfl, iteT ?_⟩
          refine ⟨_, rfl, _, rfl, .str x, .str x, .str x, .str x, sx, sx, true, congrArg V.bl ex, iteT ?_⟩
          exact ⟨_, rfl, .str x, .ty "str", _, _, true, rfl, .ty _, .base (.str x), kit_ty (kit_str (.str x)), _, rfl, .str x, .ty "str", _, _, true, rfl, .ty _, .base (.str x), kit_ty (kit_str (.str x)), rfl, q _ s1⟩
        cases hv
        cases hu
        refine iteF ⟨_, rfl, _, rfl, iteF ?_⟩
        refine ⟨_, rfl, .int i, .ty "str", _, _, false, rfl, .ty _, .base (.int i), kit_ty (kit_str (.int i)), false, rfl, iteF ?_⟩
        refine ⟨_, rfl, .int i, .ty "int", _, _, true, rfl, .ty _, .base (.int i), kit_ty (kit_int (.int i)), true, rfl, iteT ?_⟩
        refine ⟨_, rfl, .int i, .ty "bool", _, _, false, rfl, .ty _, .base (.int i), kit_ty (kit_bool (.int i)), _, rfl, .int i, .ty "bool", _, _, false, rfl, .ty _, .base (.int i), kit_ty (kit_bool (.int i)), rfl, true, rfl, iteT ?_⟩
        refine ⟨_, rfl, _, rfl, rfl, ?_⟩
        have e : decide (V.int i = V.int i) = true := decide_eq_true rfl
        rw [e]
        exact q _ s1
  intro k
  induction k with
  | zero =>
    obtain ⟨f, fd, hm, F, b⟩ := T
    exact step 0 (fun _ _ _ _ => False) (fun v u d H Q h _ _ _ => by obtain ⟨k', e, _⟩ := h; cases e) ⟨f, fd, hm, F.kp, b, ⟨fun _ _ _ _ h => h.elim, fun _ _ _ _ _ _ _ _ _ _ _ _ _ h => h.elim⟩⟩
  | succ k ih => exact step (k + 1) (spAlikeS k) (fun v u d H Q h hv hu q => by
      obtain ⟨k', e, hp⟩ := h
      cases e
      exact ⟨v, u, d, rfl, hv, hu, hp, q⟩) ih
end
end Lt

set_option Elab.async false
set_option linter.all false
set_option maxRecDepth 100000
set_option maxHeartbeats 1000000
namespace Lt
open PySem PySem.Spec PyProof.Rows L2
theorem Paired.memL {α β : Type} {R : α → β → Prop} {xs : List α} {ts : List β} (p : Paired R xs ts) {x : α} (h : x ∈ xs) : ∃ t ∈ ts, R x t := by
  obtain ⟨i, hi, e⟩ := List.getElem_of_mem h
  obtain ⟨t, ht, r⟩ := Paired.getL p (show xs[i]? = some x by rw [List.getElem?_eq_getElem hi, e])
  exact ⟨t, List.mem_of_getElem? ht, r⟩
theorem TFs.tm {H H' : Hp} (e : Tm H H') {xs : List V} {ts : List (List Nat)} (p : Paired (TF H) xs ts) : Paired (TF H') xs ts := paired_mono (fun _ _ r => TF.tm e r) p
/-! ### the mirror -/
/-! ### a tuple or a list of turns -/
section
variable {P : Program} {w : World} {K : PySem.W.Frag} {mg : Str → Option Value} {base : Heap}
end
end Lt

set_option linter.all false
set_option Elab.async false
set_option maxRecDepth 100000
/-! locks whose places are called otherwise; small locks -/
namespace Lt
def cj (s t : List Nat) : List Nat := prod (prod (inv s) t) s
theorem cj_isP {n : Nat} {s t : List Nat} (hs : IsP n s) (ht : IsP n t) : IsP n (cj s t) := (hs.inv.prod ht).prod hs
theorem cj_still {n : Nat} {s : List Nat} (hs : IsP n s) : cj s (List.range n) = List.range n := by
  unfold cj
  rw [prod_still_r hs.inv.lt, prod_inv_l hs]
theorem bd {n : Nat} {x y : List Nat} (hx : IsP n x) (hy : IsP n y) : ∀ i ∈ x, i < y.length := fun i hi => by rw [hy.len]; exact hx.lt i hi
theorem cj_prod {n : Nat} {s a b : List Nat} (hs : IsP n s) (ha : IsP n a) (hb : IsP n b) : cj s (prod a b) = prod (cj s a) (cj s b) := by
  unfold cj
  have h1 : prod (prod (prod (inv s) a) s) (prod (prod (inv s) b) s) = prod (prod (inv s) a) (prod s (prod (prod (inv s) b) s)) := prod_assoc (bd (hs.inv.prod ha) hs)
  have h2 : prod s (prod (prod (inv s) b) s) = prod b s := by
    rw [← prod_assoc (bd hs (hs.inv.prod hb)), ← prod_assoc (bd hs hs.inv), prod_inv_r hs, prod_still_l hb.len]
  rw [h1, h2, ← prod_assoc (bd hs.inv ha), prod_assoc (bd (hs.inv.prod ha) hb)]
theorem Mk.cj {gs : List (List Nat)} {n : Nat} {s : List Nat} (hg : ∀ g ∈ gs, IsP n g) (hs : IsP n s) {u : List Nat} (h : Mk (gs.map (Lt.cj s)) n u) : ∃ t, Mk gs n t ∧ u = Lt.cj s t := by
  induction h with
  | still => exact ⟨_, .still, (cj_still hs).symm⟩
  | @step a g _ hm ih =>
    obtain ⟨t, ht, e⟩ := ih
    obtain ⟨g', hg', e'⟩ := List.mem_map.mp hm
    exact ⟨_, .step ht hg', by rw [cj_prod hs (ht.isP hg) (hg g' hg'), e, e']⟩
theorem Few.cj {gs : List (List Nat)} {n m : Nat} {s : List Nat} (hg : ∀ g ∈ gs, IsP n g) (hs : IsP n s) (h : Few gs n m) : Few (gs.map (Lt.cj s)) n m := by
  obtain ⟨D, h1, h2⟩ := h
  refine ⟨D.map (Lt.cj s), by rw [List.length_map]; exact h1, fun u hu => ?_⟩
  obtain ⟨t, ht, e⟩ := hu.cj hg hs
  rw [e]
  exact List.mem_map.mpr ⟨t, h2 t ht, rfl⟩
theorem few_of {gs : List (List Nat)} {n k : Nat} (h : (qq gs n k).length ≤ k) : Few gs n k :=
  ⟨(qq gs n k).map (·.1), by rw [List.length_map]; exact h, fun t ht => (qq_full h t).mpr ht⟩
theorem Few.mono {gs : List (List Nat)} {n m m' : Nat} (h : Few gs n m) (l : m ≤ m') : Few gs n m' := let ⟨D, h1, h2⟩ := h; ⟨D, Nat.le_trans h1 l, h2⟩
/-- what is led where -/
theorem cj_at {n : Nat} {s t u : List Nat} (hs : IsP n s) (ht : IsP n t) (hl : u.length = n) (h : ∀ (i si ti : Nat), s[i]? = some si → t[i]? = some ti → u[si]? = s[ti]?) : u = cj s t := by
  apply List.ext_getElem?
  intro p
  by_cases hp : p < n
  · have hm : p ∈ s := hs.mem.mpr hp
    have hj := List.idxOf_lt_length_of_mem hm
    have hjn : s.idxOf p < n := by rw [← hs.len]; exact hj
    have e1 : s[s.idxOf p]? = some p := by rw [List.getElem?_eq_getElem hj, List.getElem_idxOf]
    have e2 : t[s.idxOf p]? = some (t[s.idxOf p]'(by rw [ht.len]; exact hjn)) := List.getElem?_eq_getElem _
    have htl : t[s.idxOf p]'(by rw [ht.len]; exact hjn) < s.length := by rw [hs.len]; exact ht.lt _ (List.getElem_mem _)
    rw [h _ _ _ e1 e2]
    unfold cj prod inv
    rw [List.getElem?_map, List.getElem?_map, List.getElem?_map, hs.len, List.getElem?_range hp]
    simp only [Option.map_some]
    rw [List.getD_eq_getElem?_getD (l := t), e2, Option.getD_some, List.getD_eq_getElem?_getD, List.getElem?_eq_getElem htl, Option.getD_some]
  · rw [List.getElem?_eq_none (by omega), List.getElem?_eq_none (by rw [(cj_isP hs ht).len]; omega)]
/-! ### all permutations of few places -/
def lists (n : Nat) : Nat → List (List Nat)
  | 0 => [[]]
  | k + 1 => (List.range n).flatMap fun a => (lists n k).map (a :: ·)
theorem mem_lists {n : Nat} : ∀ (t : List Nat), (∀ i ∈ t, i < n) → t ∈ lists n t.length
  | [], _ => List.mem_singleton.mpr rfl
  | a :: t, h => List.mem_flatMap.mpr ⟨a, List.mem_range.mpr (h a List.mem_cons_self), List.mem_map.mpr ⟨t, mem_lists t fun i hi => h i (List.mem_cons_of_mem _ hi), rfl⟩⟩
theorem few_all {gs : List (List Nat)} {n m : Nat} (hg : ∀ g ∈ gs, IsP n g) (h : ((lists n n).filter fun t => decide (IsP n t)).length ≤ m) : Few gs n m :=
  ⟨_, h, fun t ht => by
    have hp := ht.isP hg
    have z := mem_lists t hp.lt
    rw [hp.len] at z
    exact List.mem_filter.mpr ⟨z, decide_eq_true hp⟩⟩
theorem all4 : ((lists 4 4).filter fun t => decide (IsP 4 t)).length ≤ 60 := by decide +kernel
theorem all3 : ((lists 3 3).filter fun t => decide (IsP 3 t)).length ≤ 60 := by decide +kernel
theorem all2 : ((lists 2 2).filter fun t => decide (IsP 2 t)).length ≤ 60 := by decide +kernel
/-! ### the known locks -/
def known : List (List (List Nat)) := [[[1, 2, 3, 0]], [[1, 0, 3, 2], [2, 3, 0, 1]], [[1, 2, 3, 0], [3, 2, 1, 0]], [[1, 0, 2, 3, 4, 5], [0, 1, 3, 2, 4, 5], [0, 1, 2, 3, 5, 4]],
  [[1, 2, 3, 4, 5, 6, 7, 0]], [[1, 2, 3, 4, 5, 6, 7, 8, 0]], [[1, 2, 3, 0, 5, 6, 7, 4], [4, 7, 6, 5, 2, 1, 0, 3]], [[1, 2, 0, 3, 4, 5], [0, 1, 2, 4, 5, 3]], [[1, 2, 0], [1, 0, 2]],
  [[1, 2, 0, 3], [1, 0, 3, 2]], [[1, 2, 0, 3, 4], [0, 1, 2, 4, 3]], [[3, 4, 5, 6, 7, 8, 0, 1, 2], [0, 1, 2, 4, 5, 3, 8, 6, 7]], [[1, 2, 3, 4, 0], [1, 2, 0, 3, 4]], [[1, 2, 3, 0], [1, 0, 2, 3]],
  [[1, 2, 3, 4, 0], [0, 4, 3, 2, 1]]]
def fine (gs : List (List Nat)) : Bool := match gs with
  | [] => false
  | g :: _ => decide (gs.length ≤ 4) && decide (2 ≤ g.length) && decide (g.length ≤ 9) && gs.all (fun t => decide (IsP g.length t)) && decide ((qq gs g.length 60).length ≤ 60)
theorem known_fine : known.all fine = true := by decide +kernel
theorem fine_of {gs : List (List Nat)} (h : gs ∈ known) : ∃ n, 1 ≤ gs.length ∧ gs.length ≤ 4 ∧ 2 ≤ n ∧ n ≤ 9 ∧ (∀ g ∈ gs, IsP n g) ∧ Few gs n 60 := by
  have z := List.all_eq_true.mp known_fine gs h
  cases gs with
  | nil => cases z
  | cons g gs =>
    have z : (decide ((g :: gs).length ≤ 4) && decide (2 ≤ g.length) && decide (g.length ≤ 9) && (g :: gs).all (fun t => decide (IsP g.length t)) && decide ((qq (g :: gs) g.length 60).length ≤ 60)) = true := z
    simp only [Bool.and_eq_true, decide_eq_true_eq, List.all_eq_true] at z
    obtain ⟨⟨⟨⟨z1, z2⟩, z3⟩, z4⟩, z5⟩ := z
    exact ⟨g.length, by show 1 ≤ gs.length + 1; omega, z1, z2, z3, z4, few_of z5⟩
end Lt

set_option Elab.async false
set_option linter.all false
set_option maxRecDepth 100000
set_option maxHeartbeats 1000000
namespace Lt
open PySem PySem.Spec PyProof.Rows L2
/-! ### a written table of locks -/
def isInts : List Expr → List Nat → Bool
  | [], [] => true
  | .Constant (.int i) _ _ :: es, n :: t => decide (i = Int.ofNat n) && isInts es t
  | _, _ => false
def isTurns : List Expr → List (List Nat) → Bool
  | [], [] => true
  | .Tuple es _ _ :: r, t :: ts => isInts es t && isTurns r ts
  | _, _ => false
def isTab : List (Option Expr) → List Expr → List (Str × List (List Nat)) → Bool
  | [], [], [] => true
  | some (.Constant (.str x) _ _) :: ks, .Tuple es _ _ :: vs, (y, ts) :: tab => decide (x = y) && isTurns es ts && isTab ks vs tab
  | _, _, _ => false
theorem PA.imp {X : Cx} {es : List Expr} {t t' : TA} (h : PA X es t) (i : ∀ σ H Q, t' σ H Q → t σ H Q) : PA X es t' := ⟨fun pos pins s σ H Q I q => h.run pos pins s σ H Q I (i σ H Q q)⟩
theorem PE.imp {X : Cx} {e : Expr} {t t' : TE} (h : PE X e t) (i : ∀ σ H Q, t' σ H Q → t σ H Q) : PE X e t' := ⟨fun pins s σ H Q I q => h.run pins s σ H Q I (i σ H Q q)⟩
section
variable {X : Cx}
theorem pa_ints : ∀ {es : List Expr} {t : List Nat}, isInts es t = true → PA X es (fun _ H Q => Q (nIs t) H)
  | [], [], _ => pa_nil
  | [], _ :: _, h => by cases h
  | e :: es, [], h => by
    cases e with
    | Constant c j p => cases c <;> cases h
    | _ => cases h
  | e :: es, n :: t, h => by
    cases e with
    | Constant c j p =>
      cases c with
      | int i =>
        have h : (decide (i = Int.ofNat n) && isInts es t) = true := h
        rw [Bool.and_eq_true, decide_eq_true_eq] at h
        obtain ⟨rfl, h2⟩ := h
        exact PA.imp (pa_cons pe_int (pa_ints h2)) fun σ H Q q => q
      | _ => cases h
    | _ => cases h
theorem pe_turn {es : List Expr} {k : Nat} {pos : Pos} {t : List Nat} (h : isInts es t = true) (hl : t.length ≤ 1000) : PE X (.Tuple es k pos) (fun _ H Q => ∀ v H', Same H H' → TK H' v t → Q v H') :=
  PE.imp (pe_tup (pa_ints h)) fun σ H Q q => ⟨by rw [nIs_len, sizeLine_eq]; omega, fun p hp => q _ _ (same_new hp) ⟨p, rfl, upd_same⟩⟩
theorem pa_turns : ∀ {es : List Expr} {ts : List (List Nat)}, isTurns es ts = true → (∀ t ∈ ts, t.length ≤ 1000) → PA X es (fun _ H Q => ∀ vs H', Same H H' → Paired (TN H') vs ts → Q vs H')
  | [], [], _, _ => PA.imp pa_nil fun σ H Q q => q _ _ (Same.refl _) .nil
  | [], _ :: _, h, _ => by cases h
  | e :: es, [], h, _ => by cases e <;> cases h
  | e :: es, t :: ts, h, hl => by
    cases e with
    | Tuple es2 k pos =>
      have h : (isInts es2 t && isTurns es ts) = true := h
      rw [Bool.and_eq_true] at h
      refine PA.imp (pa_cons (pe_turn h.1 (hl t List.mem_cons_self)) (pa_turns h.2 fun x hx => hl x (List.mem_cons_of_mem _ hx))) fun σ H Q q => ?_
      exact fun v H1 s1 hv vs H2 s2 hvs => q _ _ (s1.trans s2) (.cons (hv.tn.tm (.of s2)) hvs)
    | _ => cases h
def Tb (H : Hp) (p : V × V) (x : Str × List (List Nat)) : Prop := p.1 = .str x.1 ∧ TT H p.2 x.2
theorem pps_tab {pos : Pos} : ∀ {ks : List (Option Expr)} {vs : List Expr} {tab : List (Str × List (List Nat))}, isTab ks vs tab = true → (∀ x ∈ tab, x.2.length ≤ 1000 ∧ ∀ t ∈ x.2, t.length ≤ 1000) →
    ∃ trs, PPs X pos ks vs trs ∧ ∀ σ H Q, (∀ ps H', Same H H' → Paired (Tb H') ps tab → Q ps H') → tPairs trs σ H Q
  | [], [], [], _, _ => ⟨[], pps_nil, fun σ H Q q => q _ _ (Same.refl _) .nil⟩
  | [], [], _ :: _, h, _ => by cases h
  | [], _ :: _, _, h, _ => by cases h
  | k :: ks, [], tab, h, _ => by
    cases k with
    | none => cases h
    | some e => cases e with
      | Constant c j p => cases c <;> cases h
      | _ => cases h
  | k :: ks, v :: vs, [], h, _ => by
    cases k with
    | none => cases h
    | some e => cases e with
      | Constant c j p => cases c <;> cases v <;> cases h
      | _ => cases h
  | k :: ks, v :: vs, (y, ts) :: tab, h, hl => by
    cases k with
    | none => cases h
    | some e => cases e with
      | Constant c j p => cases c with
        | str x => cases v with
          | Tuple es k2 pos2 =>
            have h : (decide (x = y) && isTurns es ts && isTab ks vs tab) = true := h
            rw [Bool.and_eq_true, Bool.and_eq_true, decide_eq_true_eq] at h
            obtain ⟨⟨rfl, h1⟩, h2⟩ := h
            obtain ⟨hl1, hl2⟩ := hl (x, ts) List.mem_cons_self
            obtain ⟨trs, p, r⟩ := pps_tab h2 fun z hz => hl z (List.mem_cons_of_mem _ hz)
            refine ⟨_, pps_cons pe_str (pe_tup (pa_turns h1 hl2)) p, fun σ H Q q => ?_⟩
            refine fun us H1 s1 hus => ⟨by rw [Paired.length hus, sizeLine_eq]; exact Nat.le_trans hl1 (by decide), fun pt hpt => ?_⟩
            have s2 := same_new (o := .tup us) hpt
            refine r σ _ _ fun ps H3 s3 hps => q _ _ ((s1.trans s2).trans s3) (.cons ⟨rfl, TT.tm (.of s3) ⟨pt, us, rfl, upd_same, TNs.tm (.of s2) hus⟩⟩ hps)
          | _ => cases h
        | _ => cases h
      | _ => cases h
/-- what a dict of names and locks holds -/
def DB (H : Hp) (kv : Key × V) (x : Str × List (List Nat)) : Prop := kv.1 = Sum.inr x.1 ∧ TT H kv.2 x.2
theorem tb_kvs {H : Hp} : ∀ {ps : List (V × V)} {tab : List (Str × List (List Nat))}, Paired (Tb H) ps tab → ∃ kvs : List (Key × V), ps = kvs.map (fun kv => (kV kv.1, kv.2)) ∧ Paired (DB H) kvs tab
  | _, _, .nil => ⟨[], rfl, .nil⟩
  | p :: _, x :: _, .cons r t => by
    obtain ⟨kvs, h1, h2⟩ := tb_kvs t
    refine ⟨(Sum.inr x.1, p.2) :: kvs, ?_, .cons ⟨rfl, r.2⟩ h2⟩
    rw [h1]
    have e : p = (V.str x.1, p.2) := Prod.ext r.1 rfl
    rw [e]
    rfl
theorem db_val {H : Hp} {x : Str} {ts : List (List Nat)} : ∀ {kvs : List (Key × V)} {tab : List (Str × List (List Nat))}, Paired (DB H) kvs tab → (tab.map (·.1)).Nodup → (x, ts) ∈ tab → ∃ v, valV kvs (Sum.inr x) = some v ∧ TT H v ts
  | _, _, .nil, _, h => by cases h
  | p :: ps, q :: qs, .cons r s, hn, h => by
    rw [List.map_cons] at hn
    obtain ⟨h1, h2⟩ := List.nodup_cons.mp hn
    rcases List.mem_cons.mp h with e | h
    · subst e
      exact ⟨p.2, valV_pos r.1, r.2⟩
    · have hne : ¬ p.1 = Sum.inr x := fun e => h1 (by
        rw [r.1] at e
        injection e with e
        rw [e]
        exact List.mem_map.mpr ⟨_, h, rfl⟩)
      rw [valV_neg hne]
      exact db_val s h2 h
theorem mergeK_nil {H : Hp} : ∀ {kvs : List (Key × V)} {tab : List (Str × List (List Nat))} {acc : List (Key × V)} {at_ : List (Str × List (List Nat))}, Paired (DB H) kvs tab → Paired (DB H) acc at_ → ((at_ ++ tab).map (·.1)).Nodup → mergeK acc kvs = acc ++ kvs
  | _, _, acc, _, .nil, _, _ => by
    show acc = acc ++ []
    rw [List.append_nil]
  | p :: ps, q :: qs, acc, at_, .cons r s, ha, hn => by
    have hnone : valV acc p.1 = none := by
      cases e : valV acc p.1 with
      | none => rfl
      | some v =>
        exfalso
        have m := valV_in e
        obtain ⟨kv, hkv, ekv⟩ := List.mem_map.mp m
        obtain ⟨y, hy, ry⟩ := Paired.memL ha hkv
        have e1 : y.1 = q.1 := by
          have z : (Sum.inr y.1 : Key) = Sum.inr q.1 := ry.1.symm.trans (ekv.trans r.1)
          injection z
        rw [List.map_append, List.map_cons] at hn
        exact (List.nodup_append.mp hn).2.2 y.1 (List.mem_map.mpr ⟨y, hy, rfl⟩) q.1 List.mem_cons_self e1
    show mergeK (putK acc p.1 p.2) ps = acc ++ p :: ps
    rw [putK_new p.2 hnone, mergeK_nil (acc := acc ++ [(p.1, p.2)]) (at_ := at_ ++ [q]) s (Paired.app ha (Paired.one r)) (by rw [List.append_assoc]; exact hn), List.append_assoc]
    rfl
/-- {'a': ((..), ..), ..} -/
def tTab (tab : List (Str × List (List Nat))) : TE := fun _ H Q => ∀ p H' kvs, Same H H' → H p = none → H' p = some (.dK kvs) → Paired (DB H') kvs tab → Q (.ref p) H'
theorem pe_tab {ks : List (Option Expr)} {vs : List Expr} {pos : Pos} {tab : List (Str × List (List Nat))} (h : isTab ks vs tab = true) (hl : ∀ x ∈ tab, x.2.length ≤ 1000 ∧ ∀ t ∈ x.2, t.length ≤ 1000) (hn : (tab.map (·.1)).Nodup) (h15 : tab.length ≤ 15)
    (hall : ks.all (·.isSome) = true) (hlen : ks.length = vs.length) (h0 : ks ≠ []) (hk15 : ks.length ≤ 15) : PE X (.Dict ks vs pos) (tTab tab) := by
  obtain ⟨trs, p, r⟩ := pps_tab (X := X) (pos := pos) h hl
  refine PE.imp (pe_disp p hall hlen h0 hk15) fun σ H Q q => ?_
  refine fun d hd => r σ _ _ fun ps H2 s2 hps => ⟨s2 _ _ upd_same, ?_⟩
  obtain ⟨kvs, e, hb⟩ := tb_kvs hps
  refine ⟨kvs, e, by rw [Paired.length hb]; exact h15, ?_⟩
  have em : mergeK [] kvs = kvs := mergeK_nil (acc := []) (at_ := []) hb .nil hn
  rw [em]
  have hd2 : H2 d = some (.dK []) := s2 _ _ upd_same
  have tm : Tm H2 (upd H2 d (.dK kvs)) := .mut hd2 (fun _ z => nomatch z) fun _ _ z => nomatch z
  have sH : Same H (upd H2 d (.dK kvs)) := same_mut ((same_new hd).trans s2) hd
  exact q d _ kvs sH hd upd_same (paired_mono (fun a b z => ⟨z.1, z.2.tm tm⟩) hb)
end
def names : List Str := ["four", "klein", "square", "cube", "eight", "nine", "quaternions", "threes", "three", "tetra", "six", "heis", "five", "whole", "ten"]
def table : List (Str × List (List Nat)) := names.zip known
theorem table_nd : (table.map (·.1)).Nodup := by decide +kernel
theorem table_len : ∀ x ∈ table, x.2.length ≤ 1000 ∧ ∀ t ∈ x.2, t.length ≤ 1000 := by decide +kernel
theorem table_known {x : Str × List (List Nat)} (h : x ∈ table) : x.2 ∈ known := by
  unfold table at h
  exact (List.of_mem_zip (a := x.1) (b := x.2) h).2
end Lt

set_option Elab.async false
set_option linter.all false
set_option maxRecDepth 100000
set_option maxHeartbeats 1000000
namespace Lt
open PySem PySem.Spec PyProof.Rows L2
theorem names_in : ∀ nm ∈ names, ∃ ts, (nm, ts) ∈ table := fun nm h => by
  have z : (names.all fun nm => table.any fun x => decide (x.1 = nm)) = true := by decide +kernel
  obtain ⟨x, hx, e⟩ := List.any_eq_true.mp (List.all_eq_true.mp z nm h)
  have e := of_decide_eq_true e
  exact ⟨x.2, by rw [← e]; exact hx⟩
theorem three_of {nm : Str} {ts : List (List Nat)} (h : (nm, ts) ∈ table) : ts.length ≤ 3 := by
  have z : (table.all fun x => decide (x.2.length ≤ 3)) = true := by decide +kernel
  exact of_decide_eq_true (List.all_eq_true.mp z _ h)
section
variable {P : Program} {w : World} {K : PySem.W.Frag} {mg : Str → Option Value} {base : Heap}
def spKnown (K : PySem.W.Frag) : Sp := fun vs H Q _ => ∃ (r kl sc : Addr) (ns : List Int) (kn : List Str), vs = [.ref r, .ref kl] ∧ RowAt K H r sc ns ∧ H kl = some (.lst (kn.map V.str)) ∧ kl ≠ r ∧ 1 ≤ kn.length ∧ kn.length ≤ 100 ∧ (∀ x ∈ kn, x ∈ names) ∧
  ∀ v H' ls n, ls.length ≤ 3 → GL ls n → Few ls n 60 → StepR r H H' → RowAt K H' r sc ns → TT H' v ls → Q v H'
theorem sc_law_known : FnScope ["row", "kinds", "locks", "lock", "order", "found", "turn", "named", "place", "comes"] ["row", "kinds"] (defScope s_law_known) := ⟨rfl, rfl, rfl, by decide +kernel, rfl, by decide +kernel, by decide +kernel⟩
theorem has_law_known (T : Top K mg "_law_known" s_law_known ["row", "kinds"]) (B : Bi mg) (hK : Has P w K mg base CX0 2 "_law_pick" ["row", "things"] (spPick K)) (hM : Has P w K mg base CX0 2 "_law_permutation" ["row", "places"] (spLawPerm K)) : Has P w K mg base CX0 3 "_law_known" ["row", "kinds"] (spKnown K) := by
  refine T.ok sc_law_known (fun vs H Q E h => ?_) (fun f cdv A outer s H vs Q E hr h => ?_)
  · obtain ⟨r, kl, sc, ns, kn, rfl, _⟩ := h
    rfl
  · obtain ⟨r, kl, sc, ns, kn, rfl, ra, hkl, hne, hk1, hk2, hkn, q⟩ := h
    have hu := hu_of hr
    refine ⟨_, pss_cons (ps_set (i := 2) sc_law_known.nd rfl (Or.inl rfl) (pe_tab (tab := table) (by decide +kernel) table_len table_nd (by decide) (by rfl) (by rfl) (fun z => by cases z) (by decide)))
      (pss_cons (ps_set (i := 3) sc_law_known.nd rfl (Or.inl rfl) (pe_dget hu (pv 2) (pe_has hK hr (by rfl) (pa_cons (pv 0) (pa_cons (pv 1) pa_nil))) (fun _ _ => rfl)))
      (pss_cons (ps_set (i := 4) sc_law_known.nd rfl (Or.inl rfl) (pe_has hM hr (by rfl) (pa_cons (pv 0) (pa_cons (pe_callB call_len_seq (by rfl) B.len PySem.boot_len (pa_cons (pe_ix ix_tup (pv 3) pe_int (fun _ _ => rfl)) pa_nil)) pa_nil))))
      (pss_cons (ps_set (i := 5) sc_law_known.nd rfl (Or.inl rfl) (pe_lst pa_nil))
      (pss_cons (ps_for PassesOwn.never rfl (pi_tup (pv 3)) (pg_name (i := 6) sc_law_known.nd rfl (Or.inl rfl))
        (pss_cons (ps_set (i := 7) sc_law_known.nd rfl (Or.inl rfl) (pe_op op_rep (pe_lst (pa_cons pe_int pa_nil)) (pe_callB call_len_seq (by rfl) B.len PySem.boot_len (pa_cons (pv 6) pa_nil))))
        (pss_cons (ps_for PassesOwn.never rfl (pi_enumT (by rfl) B.enumerate (pa_cons (pv 6) pa_nil)) (pg_tup rfl (pgs_cons (pg_name (i := 8) sc_law_known.nd rfl (Or.inl rfl)) (pgs_cons (pg_name (i := 9) sc_law_known.nd rfl (Or.inl rfl)) pgs_nil)))
          (pss_one (ps_asg (pe_ix ix_tup (pv 4) (pv 9) (fun _ _ => rfl)) (pg_sub (pv 7) (pe_ix ix_tup (pv 4) (pv 8) (fun _ _ => rfl)) set_list))))
        (pss_one (ps_expr (pe_bm PySem.F.plainAttrs_list PySem.F.slot_list_append PySem.F.type_list_append mt_append (pv 5) (pa_cons (pe_tupleOf (by rfl) B.tuple (pv 7)) pa_nil)))))))
      (pss_one (ps_ret (pe_tupleOf (by rfl) B.tuple (pv 5)))))))), ?_⟩
    refine fun d H1 kvs s1 hd hd1 hDB => ?_
    refine ⟨_, rfl, _, rfl, _, rfl, r, kl, sc, ns, kn.map V.str, rfl, ra.step s1, s1 _ _ hkl, hne, by rw [List.length_map]; exact hk1, by rw [List.length_map]; omega, fun x H2 hx st2 ra2 => ?_⟩
    obtain ⟨nm, hnm, rfl⟩ := List.mem_map.mp hx
    obtain ⟨ts, hts⟩ := names_in nm (hkn nm hnm)
    obtain ⟨n, hf1, hf2, hf3, hf4, hf5, hf6⟩ := fine_of (table_known hts)
    obtain ⟨lv, hlv, htt1⟩ := db_val hDB table_nd hts
    have hdr : d ≠ r := (ra.ne hd).symm
    have hd2 := st2 _ _ hdr hd1
    have htt2 := htt1.tm (st2.tm (ra.step s1))
    refine ⟨d, lv, rfl, by rw [← hlv]; exact DGet.k (k := Sum.inr nm) hd2, ?_⟩
    have gl : GL ts n := ⟨hf1, hf2, hf3, hf4, hf5⟩
    obtain ⟨a, xs, b, rfl, ha, hp, h0, t0, hbt, htl⟩ := htt2.head gl
    refine ⟨_, rfl, _, rfl, a, xs, 0, .ref b, rfl, rfl, SqT.of ha, h0, b, _, rfl, .inr hbt.sq, r, sc, ns, n, by rw [nIs_len, htl]; rfl, ra2, by omega, fun o H3 s hs st3 ra3 ho => ?_⟩
    have ha3 : H3 a = some (.tup xs) := (st3.tm ra2).1 _ _ ha
    have hp3 : Paired (TN H3) xs ts := TNs.tm (st3.tm ra2) hp
    obtain ⟨po, rfl, hpo⟩ := ho
    have st13 : StepR r H H3 := ((StepR.of s1).trans st2).trans st3
    refine ⟨Nat.zero_le _, fun fl hfl => ?_⟩
    have sl := same_new (o := .lst []) hfl
    refine ⟨_, rfl, a, rfl, ⟨_, SqT.of (sl _ _ ha3)⟩, for_tup (K := K) (a := a) (xs := xs) (fun i σ H' => ∃ x6 x7 x8 x9 us, σ = [some (.ref r), some (.ref kl), some (.ref d), some (.ref a), some (.ref po), some (.ref fl), x6, x7, x8, x9] ∧ Same H3 H' ∧ H' fl = some (.lst us) ∧ Paired (TN H') us ((ts.take i).map (cj s)))
      ⟨none, none, none, none, [], rfl, sl, upd_same, .nil⟩ (fun i σ H' _ ⟨_, _, _, _, _, _, s, _⟩ => SqT.of (s _ _ ha3)) ?_ ?_⟩
    · rintro i x σ H' hi ⟨x6, x7, x8, x9, us, rfl, sm, hus, pus⟩
      obtain ⟨t, ht, htn0⟩ := Paired.getL hp3 hi
      have htP := hf5 t (List.mem_of_getElem? ht)
      obtain ⟨pt, rfl, hpt⟩ := htn0.tm (.of sm)
      have hil : i < 4 := Nat.lt_of_lt_of_le (List.getElem?_eq_some_iff.mp ht).1 hf2
      refine ⟨by show 1 ≤ sizeLine; decide, fun l hl => ?_⟩
      have s5 := same_new (o := .lst [V.int 0]) hl
      refine ⟨_, rfl, pt, _, rfl, .inr (hpt.sm s5).sq, l, (t.length : Int), [V.int 0], rfl, by rw [nIs_len], upd_same, by omega, by rw [htP.len]; omega, ?_, fun nm hnm => ?_⟩
      · show 1 * (t.length : Int).toNat ≤ sizeLine
        rw [htP.len, sizeLine_eq]
        omega
      have s6 := s5.trans (same_new (o := .lst (List.replicate (t.length : Int).toNat [V.int 0]).flatten) hnm)
      have hnm0 : H' nm = none := s5.free hnm
      refine ⟨_, rfl, pt, _, rfl, (hpt.sm s6).sq, for_enumT (K := K) (xs := nIs t) (fun k σ2 H2' => ∃ (acc : List Nat) (y z : Option V), σ2 = [some (.ref r), some (.ref kl), some (.ref d), some (.ref a), some (.ref po), some (.ref fl), some (.ref pt), some (.ref nm), y, z] ∧ Same H' H2' ∧ H2' nm = some (.lst (nIs acc)) ∧ acc.length = n ∧ ∀ (i si ti : Nat), i < k → s[i]? = some si → t[i]? = some ti → acc[si]? = s[ti]?)
        ⟨List.replicate n 0, x8, x9, rfl, s6, by rw [upd_same, ← rep_zero, htP.len]; rfl, List.length_replicate .., fun i si ti h => absurd h (Nat.not_lt_zero i)⟩ (fun k σ2 H2' _ ⟨_, _, _, _, s, _⟩ => (hpt.sm s).sq) ?_ ?_⟩
      · rintro k y σ2 H2' T' hk ⟨acc, y8, y9, rfl, sm2, hnm2, hacc, hj⟩ hT'
        rw [nIs_get] at hk
        obtain ⟨m, hm, rfl⟩ := Option.map_eq_some_iff.mp hk
        have hmn : m < n := htP.lt m (List.mem_of_getElem? hm)
        have hkn' : k < n := by have := (List.getElem?_eq_some_iff.mp hm).1; rw [htP.len] at this; exact this
        have sT := same_new (o := .tup [nI k, nI m]) hT'
        have hnT : nm ≠ T' := ne_of_none hnm2 hT'
        have hsk : s[k]? = some (s[k]'(by rw [hs.len]; exact hkn')) := List.getElem?_eq_getElem _
        have hsm : s[m]? = some (s[m]'(by rw [hs.len]; exact hmn)) := List.getElem?_eq_getElem _
        generalize (s[k]'(by rw [hs.len]; exact hkn')) = sk at hsk
        generalize (s[m]'(by rw [hs.len]; exact hmn)) = smv at hsm
        have hskn : sk < n := hs.lt sk (List.mem_of_getElem? hsk)
        have hpo2 : (upd H2' T' (.tup [nI k, nI m])) po = some (.tup (nIs s)) := sT _ _ (sm2 _ _ (sm _ _ hpo))
        refine ⟨T', _, rfl, SqT.of upd_same, rfl, nI k, _, rfl, nI m, _, rfl, rfl, ?_⟩
        refine ⟨_, rfl, _, rfl, po, _, (m : Int), nI smv, rfl, rfl, SqT.of hpo2, atI_nat (by rw [nIs_get, hsm]; rfl), _, rfl, _, rfl, _, rfl, po, _, (k : Int), nI sk, rfl, rfl, SqT.of hpo2, atI_nat (by rw [nIs_get, hsk]; rfl), nm, nIs acc, (sk : Int), sk, rfl, rfl, sT _ _ hnm2, Evl.ixN_nat (by rw [nIs_len, hacc]; exact hskn), ?_⟩
        refine ⟨acc.set sk smv, _, _, rfl, same_mut (sm2.trans sT) hnm0, by rw [upd_same, nIs_set], by rw [List.length_set]; exact hacc, fun i si ti hik hsi hti => ?_⟩
        by_cases e : i = k
        · subst e
          rw [hsk] at hsi
          have hsi := Option.some.inj hsi
          subst hsi
          rw [hm] at hti
          have hti := Option.some.inj hti
          subst hti
          rw [List.getElem?_set_self (by omega), hsm]
        · have hne2 : sk ≠ si := fun z => e (nd_ix hs.nd hsi (z ▸ hsk))
          rw [List.getElem?_set_ne hne2]
          exact hj i si ti (by omega) hsi hti
      · rintro σ2 H2' ⟨acc, y8, y9, rfl, sm2, hnm2, hacc, hj⟩
        have ecj : acc = cj s t := cj_at hs htP hacc fun i si ti hsi hti => hj i si ti (by rw [nIs_len]; exact (List.getElem?_eq_some_iff.mp hti).1) hsi hti
        have hus2 := sm2 _ _ hus
        refine ⟨_, rfl, .inl ⟨rfl, _, SqL.of hus2⟩, _, rfl, .inl ⟨nm, nIs acc, rfl, SqL.of hnm2, fun p hp' => ?_⟩⟩
        have s7 := same_new (o := .tup (nIs acc)) hp'
        have hus3 := s7 _ _ hus2
        have husl : us.length ≤ 4 := by rw [Paired.length pus, List.length_map, List.length_take]; omega
        refine ⟨fl, us, _, rfl, rfl, hus3, by rw [sizeLine_eq]; omega, ?_⟩
        have t8 := Tm.lst (o := .lst (us ++ [V.ref p])) hus3
        refine ⟨_, _, _, _, us ++ [.ref p], rfl, same_mut ((sm.trans sm2).trans s7) hfl, upd_same, ?_⟩
        rw [List.take_add_one, ht, List.map_append]
        exact Paired.app (TNs.tm ((Tm.of (sm2.trans s7)).trans t8) pus) (Paired.one (TK.tn (TK.tm t8 ⟨p, rfl, by rw [upd_same, ecj]⟩)))
    · rintro σ H' ⟨x6, x7, x8, x9, us, rfl, sm, hus, pus⟩
      rw [Paired.length hp3, List.take_length] at pus
      refine ⟨_, rfl, .inl ⟨fl, us, rfl, SqL.of hus, fun p hp' => ?_⟩⟩
      have s7 := same_new (o := .tup us) hp'
      refine q _ _ (ts.map (cj s)) n (by rw [List.length_map]; exact three_of hts) ⟨by rw [List.length_map]; exact hf1, by rw [List.length_map]; exact hf2, hf3, hf4, fun g hg => ?_⟩ ((Few.cj hf5 hs hf6).mono (by omega)) (st13.trans (.of (sm.trans s7))) (ra3.step (sm.trans s7)) ⟨p, us, rfl, upd_same, TNs.tm (.of s7) pus⟩
      obtain ⟨t, ht, e⟩ := List.mem_map.mp hg
      rw [← e]
      exact cj_isP hs (hf5 t ht)
/-! ### _law_lock -/
def spLock (K : PySem.W.Frag) : Sp := fun vs H Q _ => ∃ (r kl sc : Addr) (ns : List Int) (kn : List Str), vs = [.ref r, .ref kl] ∧ RowAt K H r sc ns ∧ H kl = some (.lst (kn.map V.str)) ∧ kl ≠ r ∧ 1 ≤ kn.length ∧ kn.length ≤ 100 ∧ (∀ x ∈ kn, x ∈ names) ∧
  ∀ v H' ls n, ls.length ≤ 3 → GL ls n → Few ls n 60 → StepR r H H' → RowAt K H' r sc ns → TT H' v ls → Q v H'
theorem sc_law_lock : FnScope ["row", "kinds", "places", "turn"] ["row", "kinds"] (defScope s_law_lock) := ⟨rfl, rfl, rfl, by decide +kernel, rfl, by decide +kernel, by decide +kernel⟩
theorem few4 {ls : List (List Nat)} {n : Nat} (h1 : 2 ≤ n) (h2 : n ≤ 4) (hg : ∀ g ∈ ls, IsP n g) : Few ls n 60 := by
  have : n = 2 ∨ n = 3 ∨ n = 4 := by omega
  rcases this with e | e | e
  · subst e; exact (few_all hg all2).mono (by omega)
  · subst e; exact (few_all hg all3).mono (by omega)
  · subst e; exact (few_all hg all4).mono (by omega)
theorem has_law_lock (T : Top K mg "_law_lock" s_law_lock ["row", "kinds"]) (B : Bi mg) (hT : Has P w K mg base CX0 1 "_law_taken" ["row", "many"] (spTaken K)) (hK : Has P w K mg base CX0 3 "_law_known" ["row", "kinds"] (spKnown K)) (hM : Has P w K mg base CX0 2 "_law_permutation" ["row", "places"] (spLawPerm K)) :
    Has P w K mg base CX0 4 "_law_lock" ["row", "kinds"] (spLock K) := by
  refine T.ok sc_law_lock (fun vs H Q E h => ?_) (fun f cdv A outer s H vs Q E hr h => ?_)
  · obtain ⟨r, kl, sc, ns, kn, rfl, _⟩ := h
    rfl
  · obtain ⟨r, kl, sc, ns, kn, rfl, ra, hkl, hne, hk1, hk2, hkn, q⟩ := h
    have hr1 : Room 1 _ := hr.mono (by decide)
    have hr2 : Room 2 _ := hr.mono (by decide)
    refine ⟨_, pss_cons (ps_if (pt_cmpR op_gt (pe_has hT hr1 (by rfl) (pa_cons (pv 0) (pa_cons pe_int pa_nil))) pe_int (nomark _))
        (pss_one (ps_ret (pe_has hK hr (by rfl) (pa_cons (pv 0) (pa_cons (pv 1) pa_nil))))) pss_nil)
      (pss_cons (ps_set (i := 2) sc_law_lock.nd rfl (Or.inr rfl) (pe_op op_add pe_int (pe_has hT hr1 (by rfl) (pa_cons (pv 0) (pa_cons pe_int pa_nil)))))
      (pss_one (ps_ret (pe_tupleOf (by rfl) B.tuple (pe_lc (own := [("turn", 3)]) (g := gName 3) (te := tCall (spLawPerm K) [] E0 (tCons (tVar 0) (tCons (tVar 2) tNil))) (by rfl) sc_law_lock.nd
        (pi_range1 (by rfl) B.range (pa_cons (pe_op op_add pe_int (pe_has hT hr1 (by rfl) (pa_cons (pv 0) (pa_cons pe_int pa_nil)))) pa_nil)) (blkOk_by (own := [("turn", 3)]) (N := ["row", "kinds", "places", "turn"]) (sc := defScope s_law_lock) (by decide +kernel))
        (fun _ _ _ _ _ => pg_name (i := 3) sc_law_lock.nd rfl (Or.inl rfl)) (fun _ _ _ _ _ => pts_nil) (fun _ _ _ _ _ => pe_has hM hr2 (by rfl) (pa_cons (pv 0) (pa_cons (pv 2) pa_nil)))))))), ?_⟩
    refine ⟨_, rfl, r, sc, ns, 3, rfl, ra, by omega, by omega, fun x H1 hx st1 ra1 => ?_⟩
    refine ⟨(x : Int), 0, rfl, rfl, _, rfl, ite2 (fun h => ?_) (fun h => ?_)⟩
    · exact ⟨_, rfl, _, rfl, r, kl, sc, ns, kn, rfl, ra1, st1 _ _ hne hkl, hne, hk1, hk2, hkn, fun v H2 ls n l3 gl fw st2 ra2 tt => q v H2 ls n l3 gl fw (st1.trans st2) ra2 tt⟩
    · refine ⟨_, rfl, r, sc, ns, 3, rfl, ra1, by omega, by omega, fun y H2 hy st2 ra2 => ?_⟩
      refine ⟨2, (y : Int), rfl, rfl, ?_⟩
      refine ⟨_, rfl, r, sc, ns, 2, rfl, ra2, by omega, by omega, fun z H3 hz st3 ra3 => ?_⟩
      have st03 := (st1.trans st2).trans st3
      refine ⟨1, (z : Int), rfl, rfl, (1 : Int) + (z : Int), rfl, by omega, by omega, fun D hD => ?_⟩
      have hDr : D ≠ r := (ra3.ne hD).symm
      refine lc_range (lo := 0) (n := ((1 : Int) + (z : Int)).toNat) (fun i H' => StepR r H3 H' ∧ RowAt K H' r sc ns ∧ ∃ us ls, H' D = some (.lst us) ∧ Paired (TN H') us ls ∧ ls.length = i ∧ ∀ g ∈ ls, IsP (2 + y) g)
        ⟨.of (same_new hD), ra3.step (same_new hD), [], [], upd_same, .nil, rfl, fun g h => by cases h⟩ ?_ ?_
      · rintro i H' hi ⟨st4, ra4, us, ls, hus, pus, hll, hP⟩
        refine ⟨rfl, iteT (B := StepR r H3 H' ∧ RowAt K H' r sc ns ∧ ∃ us ls, H' D = some (.lst us) ∧ Paired (TN H') us ls ∧ ls.length = i ∧ ∀ g ∈ ls, IsP (2 + y) g) ⟨_, rfl, _, rfl, r, sc, ns, 2 + y, ?_, ra4, by omega, fun v H5 t ht st5 ra5 hv => ?_⟩⟩
        · show [V.ref r, V.int ((2 : Int) + (y : Int))] = [V.ref r, V.int ((2 + y : Nat) : Int)]
          rw [show ((2 + y : Nat) : Int) = (2 : Int) + (y : Int) by omega]
        · have hus5 := st5 _ _ hDr hus
          have t6 := Tm.lst (o := .lst (us ++ [v])) hus5
          refine ⟨us, hus5, by rw [Paired.length pus, hll, sizeLine_eq]; omega, (st4.trans st5).mut hD, RowAt.mut ra3 hD ra5, us ++ [v], ls ++ [t], upd_same, Paired.app (TNs.tm ((st5.tm ra4).trans t6) pus) (Paired.one (TK.tn (TK.tm t6 hv))), by rw [List.length_append, hll]; rfl, fun g hg => ?_⟩
          rcases List.mem_append.mp hg with z | z
          · exact hP g z
          · rw [List.mem_singleton.mp z]
            exact ht
      · rintro H' ⟨st4, ra4, us, ls, hus, pus, hll, hP⟩
        refine .inl ⟨D, us, rfl, SqL.of hus, fun p hp => ?_⟩
        have s7 := same_new (o := .tup us) hp
        exact q _ _ ls (2 + y) (by omega) ⟨by omega, by omega, by omega, by omega, hP⟩ (few4 (by omega) (by omega) hP) ((st03.trans st4).trans (.of s7)) (ra4.step s7) ⟨p, us, rfl, upd_same, TNs.tm (.of s7) pus⟩
end
end Lt

set_option Elab.async false
set_option linter.all false
set_option maxRecDepth 100000
set_option maxHeartbeats 4000000
/-! k15: the law's lambdas, all that the law calls -/
namespace Lt
open PySem PySem.Spec PyProof.Rows L2 NdefX LamX LmX MaX
abbrev lawN : List Str := ["script", "lock", "log", "desk", "turn", "line_odds", "line", "due", "answer", "start", "at", "row", "rows", "session", "text"]
theorem sc_law : FnScope lawN ["script"] (defScope s_law) := ⟨rfl, rfl, rfl, by decide +kernel, rfl, by decide +kernel, by decide +kernel⟩
abbrev LX (P : Program) (w : World) (K : PySem.W.Frag) (mg : Str → Option Value) (base : Heap) (f : Addr) (cd : Value) (A : Around) (outer : List Env) (s : Shared) (H : Hp) (E : XK) : Cx := cxOf CX0 P w K mg base lawN "law" (defScope s_law) f cd A outer s H E
def lawS (i : Nat) : Stmt := (defBody s_law).getD i (.Pass ⟨0, 0, 0, 0⟩)
def cmpL : Expr → Expr
  | .Compare l _ _ _ => l
  | e => e
def orL (i : Nat) : Expr → Expr
  | .BoolOp _ vs _ => vs.getD i noX
  | e => e
def ifBody (i : Nat) : Stmt → Stmt
  | .If _ b _ _ => b.getD i (.Pass ⟨0, 0, 0, 0⟩)
  | s => s
def lm0 : Expr := argX 0 (cmpL (valX (ifBody 4 (lawS 12))))
def lm1 : Expr := argX 0 (cmpL (valX (lawS 13)))
def lm2 : Expr := argX 0 (cmpL (valX (lawS 14)))
def lm3 : Expr := argX 0 (cmpL (valX (lawS 15)))
def lm4 : Expr := argX 0 (cmpL (valX (lawS 16)))
def lm5 : Expr := argX 0 (cmpL (orL 1 (valX (lawS 17))))
theorem nsc0 : NScope ["rows"] [] ["rows"] (lamS lm0) := nscope_by (by decide +kernel)
theorem nsc1 : NScope ["a", "text"] ["a"] ["text"] (lamS lm1) := nscope_by (by decide +kernel)
theorem nsc2 : NScope ["b", "text"] ["b"] ["text"] (lamS lm2) := nscope_by (by decide +kernel)
theorem nsc3 : NScope ["c", "row"] ["c"] ["row"] (lamS lm3) := nscope_by (by decide +kernel)
theorem nsc4 : NScope ["d", "session"] ["d"] ["session"] (lamS lm4) := nscope_by (by decide +kernel)
theorem nsc5 : NScope ["g"] ["g"] [] (lamS lm5) := nscope_by (by decide +kernel)
theorem lb0 : ndefB (defScope s_law) (lamS lm0) ["rows"] = true := by decide +kernel
theorem lb1 : ndefB (defScope s_law) (lamS lm1) ["text"] = true := by decide +kernel
theorem lb2 : ndefB (defScope s_law) (lamS lm2) ["text"] = true := by decide +kernel
theorem lb3 : ndefB (defScope s_law) (lamS lm3) ["row"] = true := by decide +kernel
theorem lb4 : ndefB (defScope s_law) (lamS lm4) ["session"] = true := by decide +kernel
theorem lb5 : ndefB (defScope s_law) (lamS lm5) [] = true := by decide +kernel
def noL : List Str := ["wait", "keep", "share", "held", "sing"]
/-- all that the law calls -/
structure LawHas (P : Program) (w : World) (K : PySem.W.Frag) (mg : Str → Option Value) (base : Heap) (C CD CB CS : Addr) : Prop where
  bi : Bi mg
  ts : SessT K mg C
  td : DeskT K mg CD
  wl : Has P w K mg base (L2.CX P w) 6 "write_lock" ["lock"] spWriteLock
  si : HasI P w K mg base (L2.CX P w) 9 C "Session" ["self", "text"] (spSsInit C CD)
  say : HasM P w K mg base (L2.CX P w) 3 C "say" ["self", "line"] (spSsSay C CD CS noL)
  text : HasM P w K mg base (L2.CX P w) 7 C "text" ["self"] (spSsText C CD)
  log : HasP P w K mg base CX0 1 C "log" (spSsLog C CD)
  di : HasI P w K mg base (L2.CX P w) 1 CD "Desk" ["self"] (spDkInit CD)
  take : HasM P w K mg base (L2.CX P w) 8 CD "take_lock" ["self", "text"] (spDkTake CD)
  dsay : HasM P w K mg base (L2.CX P w) 2 CD "say" ["self", "line"] (spDkSay noL)
  rs : Has P w K mg base (L2.CX P w) 6 "read_session" ["text"] (spRdSess CB CS)
  fu : Has P w K mg base (L2.CX P w) 11 "first_unlike" ["text"] (spUnlike CB noL)
  eB : ErrI2 P w K mg base "BadLine" "line" "place" CB
  eS : Err0 K mg "BadString" CS
  ne : PySem.W.exmOne K (.ref CS) (.ref CB) = some false
  said : Lt.Top K mg "_law_said_session" s_law_said_session ["work"]
  alike : ∀ k, Has P w K mg base CX0 (k + 1) "_law_alike" ["found", "due"] (spAlikeS k)
  taken : Has P w K mg base CX0 1 "_law_taken" ["row", "many"] (spTaken K)
  pick : Has P w K mg base CX0 2 "_law_pick" ["row", "things"] (spPick K)
  lock : Has P w K mg base CX0 4 "_law_lock" ["row", "kinds"] (spLock K)
section
variable {P : Program} {w : World} {K : PySem.W.Frag} {mg : Str → Option Value} {base : Heap} {C CD CB CS : Addr}
abbrev tJn (K : PySem.W.Frag) (to te : TE) : TE := tM1 (fun x xs H Q => ∃ a p, ∃ ys : List Str, x = .str a ∧ xs = [.ref p] ∧ (SqL K H p (ys.map V.str) ∨ SqT K H p (ys.map V.str)) ∧ (ys.map (·.length)).sum + ys.length * a.length ≤ 16777216 ∧ Q (.str (Txt.join a ys)) H) to te
abbrev tb0 (K : PySem.W.Frag) (CB CS : Addr) : XK → TE := fun E => tCall (spRdSess CB CS) [] E (tCons (tJn K (tC (.str "\n")) (tVar 0)) tNil)
abbrev tb1 (CB CS : Addr) : XK → TE := fun E => tCall (spRdSess CB CS) [] E (tCons (tOp rApp (tVar 1) (tC (.str "\n> wait"))) tNil)
abbrev tb2 (CB : Addr) : XK → TE := fun E => tCall (spUnlike CB noL) [] E (tCons (tOp rApp (tVar 1) (tC (.str "\nwait"))) tNil)
abbrev tb3 (K : PySem.W.Frag) (CB CS : Addr) : XK → TE := fun E => tCall (spRdSess CB CS) [] E (tCons (tCall (spPick K) [] E0 (tCons (tVar 1) (tCons (tLst (tCons (tC .non) (tCons (tC (.int 7)) (tCons (tTup (tCons (tC (.str "a")) tNil)) tNil)))) tNil))) tNil)
abbrev tb4 (C CD CS : Addr) : XK → TE := fun E => tMeth C "say" (spSsSay C CD CS noL) [] E (tVar 1) (tCons (tC (.str "wait\nwait")) tNil)
abbrev tb5 (CB CS : Addr) : XK → TE := fun E => tCall (spRdSess CB CS) [] E (tCons (tC (.str "| turn 0 0")) tNil)
theorem hb0 {cells : List (Str × Addr)} (L : LawHas P w K mg base C CD CB CS) (c' : Addr) (A : Around) (st : List Env) (f : Addr) (s : Shared) (H : Hp) (E : XK) (hr : Room 11 (A.deeper (envF (lmF q_lam (lamP lm0) (lamS lm0) cells c') f s.heap.objs.size))) : PE (ncx (L2.CX P w) P w K mg base ["rows"] (lmF q_lam (lamP lm0) (lamS lm0) cells c') f A st s H E) (lamB lm0) (tb0 K CB CS E) :=
  pe_hasX (E := E) L.rs (hr.mono (by decide)) (by rfl) (passes_call (takes_of rfl rfl rfl rfl) (fun _ _ _ _ h => h)) (pa_cons (pe_join pe_str (pv 0)) pa_nil)
theorem hb1 {cells : List (Str × Addr)} (L : LawHas P w K mg base C CD CB CS) (c' : Addr) (A : Around) (st : List Env) (f : Addr) (s : Shared) (H : Hp) (E : XK) (hr : Room 11 (A.deeper (envF (lmF q_lam (lamP lm1) (lamS lm1) cells c') f s.heap.objs.size))) : PE (ncx (L2.CX P w) P w K mg base ["a", "text"] (lmF q_lam (lamP lm1) (lamS lm1) cells c') f A st s H E) (lamB lm1) (tb1 CB CS E) :=
  pe_hasX (E := E) L.rs (hr.mono (by decide)) (by rfl) (passes_call (takes_of rfl rfl rfl rfl) (fun _ _ _ _ h => h)) (pa_cons (pe_op op_add_str (pv 1) pe_str) pa_nil)
theorem hb2 {cells : List (Str × Addr)} (L : LawHas P w K mg base C CD CB CS) (c' : Addr) (A : Around) (st : List Env) (f : Addr) (s : Shared) (H : Hp) (E : XK) (hr : Room 11 (A.deeper (envF (lmF q_lam (lamP lm2) (lamS lm2) cells c') f s.heap.objs.size))) : PE (ncx (L2.CX P w) P w K mg base ["b", "text"] (lmF q_lam (lamP lm2) (lamS lm2) cells c') f A st s H E) (lamB lm2) (tb2 CB E) :=
  pe_hasX (E := E) L.fu hr (by rfl) (passes_call (takes_of rfl rfl rfl rfl) (fun _ _ _ _ h => h)) (pa_cons (pe_op op_add_str (pv 1) pe_str) pa_nil)
theorem hb3 {cells : List (Str × Addr)} (L : LawHas P w K mg base C CD CB CS) (c' : Addr) (A : Around) (st : List Env) (f : Addr) (s : Shared) (H : Hp) (E : XK) (hr : Room 11 (A.deeper (envF (lmF q_lam (lamP lm3) (lamS lm3) cells c') f s.heap.objs.size))) : PE (ncx (L2.CX P w) P w K mg base ["c", "row"] (lmF q_lam (lamP lm3) (lamS lm3) cells c') f A st s H E) (lamB lm3) (tb3 K CB CS E) :=
  pe_hasX (E := E) L.rs (hr.mono (by decide)) (by rfl) (passes_call (takes_of rfl rfl rfl rfl) (fun _ _ _ _ h => h)) (pa_cons (pe_has L.pick (hr.mono (by decide)) (by rfl) (pa_cons (pv 1) (pa_cons (pe_lst (pa_cons pe_non (pa_cons pe_int (pa_cons (pe_tup (pa_cons pe_str pa_nil)) pa_nil)))) pa_nil))) pa_nil)
theorem hb4 {cells : List (Str × Addr)} (L : LawHas P w K mg base C CD CB CS) (c' : Addr) (A : Around) (st : List Env) (f : Addr) (s : Shared) (H : Hp) (E : XK) (hr : Room 11 (A.deeper (envF (lmF q_lam (lamP lm4) (lamS lm4) cells c') f s.heap.objs.size))) : PE (ncx (L2.CX P w) P w K mg base ["d", "session"] (lmF q_lam (lamP lm4) (lamS lm4) cells c') f A st s H E) (lamB lm4) (tb4 C CD CS E) :=
  pe_hasM (E := E) L.say L.ts.cl (hr.mono (by decide)) (passes_call (takes_of rfl rfl rfl rfl) (fun _ _ _ _ h => h)) (pv 1) (pa_cons pe_str pa_nil)
theorem hb5 {cells : List (Str × Addr)} (L : LawHas P w K mg base C CD CB CS) (c' : Addr) (A : Around) (st : List Env) (f : Addr) (s : Shared) (H : Hp) (E : XK) (hr : Room 11 (A.deeper (envF (lmF q_lam (lamP lm5) (lamS lm5) cells c') f s.heap.objs.size))) : PE (ncx (L2.CX P w) P w K mg base ["g"] (lmF q_lam (lamP lm5) (lamS lm5) cells c') f A st s H E) (lamB lm5) (tb5 CB CS E) :=
  pe_hasX (E := E) L.rs (hr.mono (by decide)) (by rfl) (passes_call (takes_of rfl rfl rfl rfl) (fun _ _ _ _ h => h)) (pa_cons pe_str pa_nil)
end
end Lt

set_option Elab.async false
set_option linter.all false
set_option maxRecDepth 100000
set_option maxHeartbeats 2000000
/-! dicts of the top that lack some words -/
namespace Lt
open PySem PySem.Spec PyProof.Rows L2
end Lt

set_option Elab.async false
set_option linter.all false
set_option maxRecDepth 100000
set_option maxHeartbeats 1000000
namespace Lt
open PySem PySem.Spec PyProof.Rows L2 NdefX LamX LmX
section
variable {P : Program} {w : World} {K : PySem.W.Frag} {mg : Str → Option Value} {base : Heap}
theorem init_BadLock {fI : Addr} {fd : FuncData} (F : Fun K "__init__" "BadLock.__init__" (initS s_BadLock) fI fd) : FnOk P w K mg base CX0 1 fI fd ["self", "place"] (spInit K "place") := by
  refine F.ok (N := ["self", "place"]) ⟨rfl, rfl, rfl, by decide +kernel, rfl, by decide +kernel, by decide +kernel⟩ (fun vs H Q E h => ?_) (fun cdv A outer s H vs Q E hr h => ?_)
  · obtain ⟨a, C, v, rfl, _⟩ := h
    rfl
  · obtain ⟨a, C, v, rfl, ox, no, ha, q⟩ := h
    exact ⟨_, pss_one (ps_ost (pv 0) (pv 1)), _, rfl, _, rfl, a, C, rfl, ox, no, .inl ⟨ha, fun dx h1 h2 => q dx h1 h2⟩⟩
theorem init_TooMany {fI : Addr} {fd : FuncData} (F : Fun K "__init__" "TooMany.__init__" (initS s_TooMany) fI fd) : FnOk P w K mg base CX0 1 fI fd ["self", "most"] (spInit K "most") := by
  refine F.ok (N := ["self", "most"]) ⟨rfl, rfl, rfl, by decide +kernel, rfl, by decide +kernel, by decide +kernel⟩ (fun vs H Q E h => ?_) (fun cdv A outer s H vs Q E hr h => ?_)
  · obtain ⟨a, C, v, rfl, _⟩ := h
    rfl
  · obtain ⟨a, C, v, rfl, ox, no, ha, q⟩ := h
    exact ⟨_, pss_one (ps_ost (pv 0) (pv 1)), _, rfl, _, rfl, a, C, rfl, ox, no, .inl ⟨ha, fun dx h1 h2 => q dx h1 h2⟩⟩
theorem init_BadLine {fI : Addr} {fd : FuncData} (F : Fun K "__init__" "BadLine.__init__" (initS s_BadLine) fI fd) : FnOk P w K mg base CX0 1 fI fd ["self", "line", "place"] (spInit2 K "line" "place") := by
  refine F.ok (N := ["self", "line", "place"]) ⟨rfl, rfl, rfl, by decide +kernel, rfl, by decide +kernel, by decide +kernel⟩ (fun vs H Q E h => ?_) (fun cdv A outer s H vs Q E hr h => ?_)
  · obtain ⟨a, C, v1, v2, rfl, _⟩ := h
    rfl
  · obtain ⟨a, C, v1, v2, rfl, ox, no1, no2, ha, q⟩ := h
    refine ⟨_, pss_cons (ps_ost (pv 0) (pv 1)) (pss_one (ps_ost (pv 0) (pv 2))), _, rfl, _, rfl, a, C, rfl, ox, no1, .inl ⟨ha, fun dx h1 h2 => ?_⟩⟩
    exact ⟨_, rfl, _, rfl, a, C, rfl, ox, no2, .inr ⟨dx, [("line", v1)], upd_same, (upd_ne h2).trans upd_same, by show 1 ≤ 900; decide, q dx h1 h2⟩⟩
end
/-- what the top leaves, but the law -/
structure TopFs (w : World) (K : PySem.W.Frag) (mg : Str → Option Value) (C_BadLock : Addr) (C_BadLine : Addr) (C_TooMany : Addr) (C_BadString : Addr) (C_Dial : Addr) (C_WordLine : Addr) (C_Desk : Addr) (C_Session : Addr) : Prop where
  bi : Bi mg
  b_sum : mg "sum" = none
  b_zip : mg "zip" = none
  b_min : mg "min" = none
  b_max : mg "max" = none
  b_reversed : mg "reversed" = none
  c_MOST_TURNS : Cn mg "MOST_TURNS" 240
  c_MOST_GIVEN : Cn mg "MOST_GIVEN" 4
  c_FEWEST_PLACES : Cn mg "FEWEST_PLACES" 2
  c_MOST_PLACES : Cn mg "MOST_PLACES" 9
  c_LOCK_MARK : Cs mg "LOCK_MARK" "| "
  c_LINE_MARK : Cs mg "LINE_MARK" "> "
  c_ANSWER_MARK : Cs mg "ANSWER_MARK" "< "
  d_LOCK_ANSWERS : Kdn K w mg "LOCK_ANSWERS" noL
  d_DIAL_ANSWERS : Kdn K w mg "DIAL_ANSWERS" noL
  e_BadLock : ErrFs K mg "BadLock" "place" C_BadLock s_BadLock
  e_BadLine : ErrFs2 K mg "BadLine" "line" "place" C_BadLine s_BadLine
  e_TooMany : ErrFs K mg "TooMany" "most" C_TooMany s_TooMany
  e_BadString : Err0 K mg "BadString" C_BadString
  n_BadString_BadLine : PySem.W.exmOne K (.ref C_BadString) (.ref C_BadLine) = some false
  k_Dial : ClsA K mg "Dial" C_Dial
  a_Dial_made : NoAttr K C_Dial "_made"
  a_Dial_stood : NoAttr K C_Dial "_stood"
  i_Dial : InitF K mg C_Dial "Dial" (inClass s_Dial 0) ["self", "lock"]
  m_Dial_turn : MethF K C_Dial "turn" "Dial.turn" (inClass s_Dial 1) ["self", "turn"]
  m_Dial_step : MethF K C_Dial "step" "Dial.step" (inClass s_Dial 2) ["self", "step", "bits"]
  m_Dial_undo : MethF K C_Dial "undo" "Dial.undo" (inClass s_Dial 3) ["self"]
  m_Dial_home : MethF K C_Dial "home" "Dial.home" (inClass s_Dial 4) ["self"]
  p_Dial_stands : PropF K C_Dial "stands" "Dial.stands" (inClass s_Dial 5)
  p_Dial_done : PropF K C_Dial "done" "Dial.done" (inClass s_Dial 6)
  k_WordLine : ClsA K mg "WordLine" C_WordLine
  a_WordLine_at : NoAttr K C_WordLine "at"
  a_WordLine_number : NoAttr K C_WordLine "number"
  a_WordLine_words : NoAttr K C_WordLine "words"
  i_WordLine : InitF K mg C_WordLine "WordLine" (inClass s_WordLine 0) ["self", "number", "words"]
  m_WordLine_take : MethF K C_WordLine "take" "WordLine.take" (inClass s_WordLine 1) ["self", "wanted"]
  m_WordLine_take_places : MethF K C_WordLine "take_places" "WordLine.take_places" (inClass s_WordLine 2) ["self", "size"]
  m_WordLine_take_turn : MethF K C_WordLine "take_turn" "WordLine.take_turn" (inClass s_WordLine 3) ["self", "made", "size"]
  m_WordLine_end : MethF K C_WordLine "end" "WordLine.end" (inClass s_WordLine 4) ["self"]
  k_Desk : ClsA K mg "Desk" C_Desk
  a_Desk_dial : NoAttr K C_Desk "_dial"
  a_Desk_lock : NoAttr K C_Desk "_lock"
  i_Desk : InitF K mg C_Desk "Desk" (inClass s_Desk 0) ["self"]
  m_Desk_take_lock : MethF K C_Desk "take_lock" "Desk.take_lock" (inClass s_Desk 1) ["self", "text"]
  m_Desk_say : MethF K C_Desk "say" "Desk.say" (inClass s_Desk 2) ["self", "line"]
  k_Session : ClsA K mg "Session" C_Session
  a_Session_desk : NoAttr K C_Session "_desk"
  a_Session_lock : NoAttr K C_Session "_lock"
  a_Session_log : NoAttr K C_Session "_log"
  i_Session : InitF K mg C_Session "Session" (inClass s_Session 0) ["self", "text"]
  m_Session_say : MethF K C_Session "say" "Session.say" (inClass s_Session 1) ["self", "line"]
  m_Session_text : MethF K C_Session "text" "Session.text" (inClass s_Session 2) ["self"]
  p_Session_log : PropF K C_Session "log" "Session.log" (inClass s_Session 3)
  f_is_number : Top K mg "is_number" s_is_number ["value"]
  f_are_numbers : Top K mg "are_numbers" s_are_numbers ["value"]
  f_is_permutation : Top K mg "is_permutation" s_is_permutation ["value", "size"]
  f_still_of : Top K mg "still_of" s_still_of ["size"]
  f_product_of : Top K mg "product_of" s_product_of ["one", "other"]
  f_words_of : Top K mg "words_of" s_words_of ["makers", "size"]
  f_check_lock : Top K mg "check_lock" s_check_lock ["lock"]
  f_made_words : Top K mg "made_words" s_made_words ["lock"]
  f_write_lock : Top K mg "write_lock" s_write_lock ["lock"]
  f_read_lock : Top K mg "read_lock" s_read_lock ["text"]
  f_check_text : Top K mg "check_text" s_check_text ["text"]
  f_spaced : Top K mg "spaced" s_spaced ["parts"]
  f_words_in : Top K mg "words_in" s_words_in ["line"]
  f_worded_lines : Top K mg "worded_lines" s_worded_lines ["text"]
  f_is_known : Top K mg "is_known" s_is_known ["words"]
  f_read_session : Top K mg "read_session" s_read_session ["text"]
  f_first_unlike : Top K mg "first_unlike" s_first_unlike ["text"]
  f_check_marks : Top K mg "check_marks" s_check_marks ["lines", "start"]
  f_unmarked : Top K mg "unmarked" s_unmarked ["line"]
  f_law_taken : Top K mg "_law_taken" s_law_taken ["row", "many"]
  f_law_pick : Top K mg "_law_pick" s_law_pick ["row", "things"]
  f_law_alike : Top K mg "_law_alike" s_law_alike ["found", "due"]
  f_law_permutation : Top K mg "_law_permutation" s_law_permutation ["row", "places"]
  f_law_known : Top K mg "_law_known" s_law_known ["row", "kinds"]
  f_law_lock : Top K mg "_law_lock" s_law_lock ["row", "kinds"]
  f_law_said_session : Top K mg "_law_said_session" s_law_said_session ["work"]
end Lt

set_option Elab.async false
set_option linter.all false
set_option maxRecDepth 100000
set_option maxHeartbeats 4000000
/-! k15: the law's state, the end of the law -/
namespace Lt
open PySem PySem.Spec PyProof.Rows L2 NdefX LamX LmX MaX
open TL (tl)
theorem tabs_step {T : List (Addr × Str)} {H H' : Hp} {l : Addr} {xs : List V} (h : Tabs T H) (hl : H l = some (.lst xs)) (s : StepR l H H') : Tabs T H' := fun p hp => by
  obtain ⟨ps, h1, h2, h3⟩ := h p hp
  refine ⟨ps, s _ _ (ne_of h1 hl (fun z => nomatch z)) h1, h2, fun pos cv hc => ?_⟩
  obtain ⟨c, e1, e2⟩ := h3 pos cv hc
  exact ⟨c, e1, s _ _ (ne_of e2 hl (codeO_is.1 _)) e2⟩
theorem SsAt.far {H H' : Hp} {C CD p dk ll l : Addr} {ls : List (List Nat)} {log : List (Str × Str)} {zs : List V} (h : SsAt H C CD p dk ll ls log) (s : StepR l H H') (hl : H l = some (.lst zs)) (n : ll ≠ l) : SsAt H' C CD p dk ll ls log := by
  have tm := stepR_tml s hl
  obtain ⟨⟨dx, lv, h1, a, xs, e, ha, pa⟩, ⟨dx2, u, v, h2⟩, ys, h3, py⟩ := h
  exact ⟨⟨dx, lv, s _ _ (ne_of h1 hl (fun z => nomatch z)) h1, a, xs, e, tm.1 _ _ ha, paired_mono (fun _ _ r => TK.tm tm r) pa⟩, ⟨dx2, u, v, s _ _ (ne_of h2 hl (fun z => nomatch z)) h2⟩, ys, s _ _ n h3, paired_mono (fun _ _ r => PrAt.tm tm r) py⟩
theorem SsAt.extN {H H' : Hp} {C CD p dk ll : Addr} {ls : List (List Nat)} {log : List (Str × Str)} (h : SsAt H C CD p dk ll ls log) (e : ExtN H H') : SsAt H' C CD p dk ll ls log := by
  have tm := extN_tm e
  obtain ⟨⟨dx, lv, h1, a, xs, ev, ha, pa⟩, ⟨dx2, u, v, h2⟩, ys, h3, py⟩ := h
  exact ⟨⟨dx, lv, e _ _ h1 (fun _ z => nomatch z), a, xs, ev, tm.1 _ _ ha, paired_mono (fun _ _ r => TK.tm tm r) pa⟩, ⟨dx2, u, v, e _ _ h2 (fun _ z => nomatch z)⟩, ys, e _ _ h3 (fun _ z => nomatch z), paired_mono (fun _ _ r => PrAt.tm tm r) py⟩
/-- where the law stands: the row of draws, the lock, what was said (twice), the session, the desk -/
structure SnS (K : PySem.W.Frag) (C CD : Addr) (TS : List (Addr × Str)) (Hb : Hp) (r sc lg p dk ll pD : Addr) (ns : List Int) (lv : V) (ls : List (List Nat)) (log log2 : List (Str × Str)) (H : Hp) : Prop where
  hb : RowAt K Hb r sc ns
  hlg : Hb lg = none
  hll : Hb ll = none
  ne : ll ≠ lg
  row : RowAt K H r sc ns
  tt : TT H lv ls
  lgs : ∃ xs, H lg = some (.lst xs) ∧ Paired (PrAt H) xs log
  ss : SsAt H C CD p dk ll ls log2
  ds : ∃ dx u v, H pD = some (.ins CD dx (dkF u v))
  tb : Tabs TS H
section
variable {K : PySem.W.Frag} {C CD : Addr} {TS : List (Addr × Str)} {Hb : Hp} {r sc lg p dk ll pD : Addr} {ns : List Int} {lv : V} {ls : List (List Nat)} {log log2 : List (Str × Str)} {H H' : Hp}
theorem SnS.same (h : SnS K C CD TS Hb r sc lg p dk ll pD ns lv ls log log2 H) (s : Same H H') : SnS K C CD TS Hb r sc lg p dk ll pD ns lv ls log log2 H' :=
  ⟨h.hb, h.hlg, h.hll, h.ne, h.row.step s, h.tt.tm (.of s), let ⟨xs, e, q⟩ := h.lgs; ⟨xs, s _ _ e, paired_mono (fun _ _ r => PrAt.tm (.of s) r) q⟩, h.ss.same s, let ⟨dx, u, v, e⟩ := h.ds; ⟨dx, u, v, s _ _ e⟩, h.tb.ext s⟩
theorem SnS.extN (h : SnS K C CD TS Hb r sc lg p dk ll pD ns lv ls log log2 H) (e : ExtN H H') (t : Tabs TS H') : SnS K C CD TS Hb r sc lg p dk ll pD ns lv ls log log2 H' :=
  ⟨h.hb, h.hlg, h.hll, h.ne, h.row.extN e, h.tt.tm (extN_tm e), let ⟨xs, x, q⟩ := h.lgs; ⟨xs, e _ _ x (fun _ z => nomatch z), paired_mono (fun _ _ r => PrAt.tm (extN_tm e) r) q⟩, h.ss.extN e, let ⟨dx, u, v, x⟩ := h.ds; ⟨dx, u, v, e _ _ x (fun _ z => nomatch z)⟩, t⟩
theorem SnS.rowX (h : SnS K C CD TS Hb r sc lg p dk ll pD ns lv ls log log2 H) (s : StepR r H H') (ra : RowAt K H' r sc ns) : SnS K C CD TS Hb r sc lg p dk ll pD ns lv ls log log2 H' := by
  have tm := s.tm h.row
  obtain ⟨a, b, c, R⟩ := id h.row
  have n1 := (h.hb.ne h.hlg).symm
  have n2 := (h.hb.ne h.hll).symm
  exact ⟨h.hb, h.hlg, h.hll, h.ne, ra, h.tt.tm tm, let ⟨xs, x, q⟩ := h.lgs; ⟨xs, s _ _ n1 x, paired_mono (fun _ _ r => PrAt.tm tm r) q⟩, h.ss.far s R.at_ n2, let ⟨dx, u, v, x⟩ := h.ds; ⟨dx, u, v, s _ _ (ne_of x R.at_ (fun z => nomatch z)) x⟩, Tabs.rowX h.row s h.tb⟩
theorem SnS.llX {log3 : List (Str × Str)} (h : SnS K C CD TS Hb r sc lg p dk ll pD ns lv ls log log2 H) (s : StepR ll H H') (S : SsAt H' C CD p dk ll ls log3) : SnS K C CD TS Hb r sc lg p dk ll pD ns lv ls log log3 H' := by
  obtain ⟨ys, hl, _⟩ := h.ss.log
  have tm := stepR_tml s hl
  exact ⟨h.hb, h.hlg, h.hll, h.ne, h.hb.far' h.hll h.row s, h.tt.tm tm, let ⟨xs, x, q⟩ := h.lgs; ⟨xs, s _ _ h.ne.symm x, paired_mono (fun _ _ r => PrAt.tm tm r) q⟩, S, let ⟨dx, u, v, x⟩ := h.ds; ⟨dx, u, v, s _ _ (ne_of x hl (fun z => nomatch z)) x⟩, tabs_step h.tb hl s⟩
theorem SnS.lgX {xs : List V} {v : V} {b : Str × Str} (h : SnS K C CD TS Hb r sc lg p dk ll pD ns lv ls log log2 H) (hl : H lg = some (.lst xs)) (pl : Paired (PrAt H) xs log) (pv : PrAt H v b) : SnS K C CD TS Hb r sc lg p dk ll pD ns lv ls (log ++ [b]) log2 (upd H lg (.lst (xs ++ [v]))) := by
  have s : StepR lg H (upd H lg (.lst (xs ++ [v]))) := StepR.put _ _ _
  have tm := stepR_tml s hl
  exact ⟨h.hb, h.hlg, h.hll, h.ne, h.hb.far' h.hlg h.row s, h.tt.tm tm, ⟨_, upd_same, Paired.app (paired_mono (fun _ _ r => PrAt.tm tm r) pl) (Paired.one (PrAt.tm tm pv))⟩, h.ss.far s hl h.ne, let ⟨dx, u, v, x⟩ := h.ds; ⟨dx, u, v, s _ _ (ne_of x hl (fun z => nomatch z)) x⟩, tabs_step h.tb hl s⟩
end
/-! ### what is said to the desk -/
def lines9 : List Str := ["wait", "read 0", "program say:zero 0:get 0:go 0", "keep", "share", "held", "sing", "", "touch 0"]
theorem lines9_ok : ∀ x ∈ lines9, x.length ≤ 100 ∧ 10 ∉ tl x ∧ unkW noL (wordsIn x) = true ∧ PyData.strOk x = true := by decide +kernel
structure LogOk (log : List (Str × Str)) : Prop where
  len : log.length ≤ 9
  ln : ∀ b ∈ log, b.1 ∈ lines9
  an : ∀ b ∈ log, b.2 = ("what" : Str)
theorem what_nl : 10 ∉ tl ("what" : Str) := by decide +kernel
theorem LogOk.nl {log : List (Str × Str)} (h : LogOk log) : NoNl log := fun b hb => ⟨(lines9_ok _ (h.ln b hb)).2.1, by rw [h.an b hb]; exact what_nl⟩
theorem LogOk.le {log : List (Str × Str)} (h : LogOk log) : ∀ b ∈ log, b.1.length ≤ 100 ∧ b.2.length ≤ 100 := fun b hb => ⟨(lines9_ok _ (h.ln b hb)).1, by rw [h.an b hb]; decide +kernel⟩
theorem LogOk.sOk {log : List (Str × Str)} (h : LogOk log) : ∀ b ∈ log, PyData.strOk b.1 = true ∧ PyData.strOk b.2 = true := fun b hb => ⟨(lines9_ok _ (h.ln b hb)).2.2.2, by rw [h.an b hb]; decide +kernel⟩
theorem sessTx_len {ls : List (List Nat)} {n : Nat} {log : List (Str × Str)} (g : GL ls n) (h : LogOk log) : (sessTx ls log).length ≤ 2300 := by
  have w1 : sNl.length = 1 := by decide +kernel
  have h1 := joinS_len sNl (sessL ls log)
  have h2 := sum_le (fun z : Str => z.length) 102 (sessL_mem g h.le)
  have h3 := sessL_len ls log
  have := g.2.1
  have := h.len
  rw [w1] at h1
  unfold sessTx
  omega
/-! ### pairs as data -/
def dPr (b : Str × Str) : PyData := .tuple [.str b.1, .str b.2]
theorem PrAt.rp {H : Hp} {v : V} {b : Str × Str} (h : PrAt H v b) : Rp H v (dPr b) := let ⟨_, e, hq⟩ := h; e ▸ .tup (.inl hq) (.cons (.str _) (.cons (.str _) .nil))
theorem prs_rp {H : Hp} : ∀ {xs : List V} {log : List (Str × Str)}, Paired (PrAt H) xs log → RpAll H xs (log.map dPr)
  | _, _, .nil => .nil
  | _, _, .cons r t => .cons r.rp (prs_rp t)
theorem eqv_prs : ∀ log : List (Str × Str), PyData.eqv (.tuple (log.map dPr)) (.tuple (log.map dPr)) = true
  | [] => rfl
  | b :: l => by
    show (PyData.eqv (dPr b) (dPr b) && PyData.eqv (.tuple (l.map dPr)) (.tuple (l.map dPr))) = true
    rw [eqv_prs l, show PyData.eqv (dPr b) (dPr b) = true from (eqv_pr b b).trans (by rw [decide_eq_true rfl, decide_eq_true rfl]; rfl)]
    rfl
theorem can_prs : ∀ {log : List (Str × Str)}, (∀ b ∈ log, PyData.strOk b.1 = true ∧ PyData.strOk b.2 = true) → PyData.canLayAll0 (log.map dPr) = true ∧ PyData.depthAll (log.map dPr) ≤ 1
  | [], _ => ⟨rfl, Nat.zero_le _⟩
  | b :: l, h => by
    obtain ⟨h1, h2⟩ := can_prs (log := l) fun c hc => h c (List.mem_cons_of_mem _ hc)
    obtain ⟨k1, k2⟩ := h b List.mem_cons_self
    refine ⟨?_, ?_⟩
    · show ((PyData.strOk b.1 && (PyData.strOk b.2 && true)) && PyData.canLayAll0 (l.map dPr)) = true
      rw [k1, k2, h1]
      rfl
    · show max (max 0 (max 0 0) + 1) (PyData.depthAll (l.map dPr)) ≤ 1
      omega
theorem sh_prs {log : List (Str × Str)} (h : ∀ b ∈ log, PyData.strOk b.1 = true ∧ PyData.strOk b.2 = true) : SeqAt.shaped (.tuple (log.map dPr)) = true ∧ SeqAt.shaped (.list (log.map dPr)) = true := by
  obtain ⟨h1, h2⟩ := can_prs h
  have h3 : (PyData.canLayAll0 (log.map dPr) && decide (PyData.depthAll (log.map dPr) + 1 ≤ 64)) = true := by
    rw [h1, decide_eq_true (by omega)]
    rfl
  exact ⟨h3, h3⟩
theorem eqv_noPr (log : List (Str × Str)) : PyData.eqv (.list (log.map dPr)) (.list []) = decide (log = []) := by
  cases log with
  | nil => rfl
  | cons a l => rfl
theorem said_ne {K : PySem.W.Frag} {H : Hp} {r v : V} {t u : List Nat} {Q : VK} (h1 : TK H r t) (h2 : TK H v u) (e : t = u) (q : Q (.bl false) H) : rNeD K r v H Q := by
  refine ⟨dT t, dT u, h1.tn.dp, h2.tn.dp, sh_T _, sh_T _, ?_⟩
  rw [eqv_dT, decide_eq_true e]
  exact q
theorem said_eq {K : PySem.W.Frag} {H : Hp} {r v : V} {t u : List Nat} {Q : VK} (h1 : TK H r t) (h2 : TK H v u) (e : t = u) (q : Q (.bl true) H) : rEqD K r v H Q := by
  refine ⟨dT t, dT u, h1.tn.dp, h2.tn.dp, sh_T _, sh_T _, ?_⟩
  rw [eqv_dT, decide_eq_true e]
  exact q
end Lt

set_option Elab.async false
set_option linter.all false
set_option maxRecDepth 100000
set_option maxHeartbeats 4000000
/-! k15: the end of the law -/
namespace Lt
open PySem PySem.Spec PyProof.Rows L2 NdefX LamX LmX MaX
open TL (tl)
theorem wait1 : sNl ++ ("> wait" : Str) = ("\n> wait" : Str) := by decide +kernel
theorem wait2 : sNl ++ ("wait" : Str) = ("\nwait" : Str) := by decide +kernel
section
variable {P : Program} {w : World} {K : PySem.W.Frag} {mg : Str → Option Value} {base : Heap} {C CD CB CS c Pt : Addr}
abbrev sigD (x0 x1 x3 x4 x5 x6 x7 x8 x9 x10 x12 : Option V) (lg r p : Addr) (tx : Str) : L2.St := [x0, x1, some (.ref lg), x3, x4, x5, x6, x7, x8, x9, x10, some (.ref r), x12, some (.ref p), some (.str tx)]
theorem law_d {TS : List (Addr × Str)} {f0 : Addr} {A : Around} {outer : List Env} {s0 : Shared} {H0 : Hp} {E0' : XK} (hr : Room 13 (LX P w K mg base f0 (.ref c) A outer s0 H0 E0').A) (TB : TabB base mg c Pt) (hm : (Pt, q_lam) ∈ TS) (hone : ∀ p ∈ TS, p.1 = Pt → p.2 = q_lam)
    (L : LawHas P w K mg base C CD CB CS) :
    ∃ t, PSs (LX P w K mg base f0 (.ref c) A outer s0 H0 E0') ((defBody s_law).drop 13) t ∧ ∀ (D : Ends) (H Hb : Hp) (x0 x1 x3 x4 x5 x6 x7 x8 x9 x10 x12 : Option V) (r sc lg p dk ll pD : Addr) (ns : List Int) (lv : V) (ls : List (List Nat)) (n : Nat) (log : List (Str × Str)),
      SnS K C CD TS Hb r sc lg p dk ll pD ns lv ls log log H → Lk ls n → LogOk log → (∀ H', D.rt (.bl true) H') → t D (sigD x0 x1 x3 x4 x5 x6 x7 x8 x9 x10 x12 lg r p (sessTx ls log)) H := by
  have hu := hr.units
  have B := L.bi
  have hr2 : Room 2 (LX P w K mg base f0 (.ref c) A outer s0 H0 E0').A := hr.mono (by decide)
  refine ⟨_, C8.pss_cut (ps_if (pt_cmpR (op_neD hu) (pe_said (k := 12) L.said L.eB L.eS L.ne (Rn1 (LX P w K mg base f0 (.ref c) A outer s0 H0 E0').env.cells lm1 ["a", "text"] [14] (tb1 CB CS)) hr (by rfl) (pe_lm1 (T := TS) TB rfl hm hone (ndef_free lb1) rfl rfl pe_int)
          (run1 nsc1 lb1 rfl (fun _ _ _ _ _ _ _ _ _ ho hd => .of_defaults rfl ho hd rfl rfl) (hb1 L))) (pe_tup (pa_cons (pe_op op_add (pe_callB call_len_seq (by rfl) B.len PySem.boot_len (pa_cons (pe_split (pv 14) pe_str) pa_nil)) pe_int) (pa_cons pe_int pa_nil))) (nomark _)) (pss_one (ps_ret pe_bl)) pss_nil)
    (C8.pss_cut (ps_if (pt_cmpR (op_neD hu) (pe_said (k := 12) L.said L.eB L.eS L.ne (Rn1 (LX P w K mg base f0 (.ref c) A outer s0 H0 E0').env.cells lm2 ["b", "text"] [14] (tb2 CB)) hr (by rfl) (pe_lm1 (T := TS) TB rfl hm hone (ndef_free lb2) rfl rfl pe_int)
          (run1 nsc2 lb2 rfl (fun _ _ _ _ _ _ _ _ _ ho hd => .of_defaults rfl ho hd rfl rfl) (hb2 L))) (pe_tup (pa_cons (pe_op op_add (pe_callB call_len_seq (by rfl) B.len PySem.boot_len (pa_cons (pe_split (pv 14) pe_str) pa_nil)) pe_int) (pa_cons pe_int pa_nil))) (nomark _)) (pss_one (ps_ret pe_bl)) pss_nil)
    (C8.pss_cut (ps_if (pt_cmpR op_ne (pe_said (k := 12) L.said L.eB L.eS L.ne (Rn1 (LX P w K mg base f0 (.ref c) A outer s0 H0 E0').env.cells lm3 ["c", "row"] [11] (tb3 K CB CS)) hr (by rfl) (pe_lm1 (T := TS) TB rfl hm hone (ndef_free lb3) rfl rfl pe_int)
          (run1 nsc3 lb3 rfl (fun _ _ _ _ _ _ _ _ _ ho hd => .of_defaults rfl ho hd rfl rfl) (hb3 L))) pe_str (nomark _)) (pss_one (ps_ret pe_bl)) pss_nil)
    (C8.pss_cut (ps_if (pt_cmpR op_ne (pe_said (k := 12) L.said L.eB L.eS L.ne (Rn1 (LX P w K mg base f0 (.ref c) A outer s0 H0 E0').env.cells lm4 ["d", "session"] [13] (tb4 C CD CS)) hr (by rfl) (pe_lm1 (T := TS) TB rfl hm hone (ndef_free lb4) rfl rfl pe_int)
          (run1 nsc4 lb4 rfl (fun _ _ _ _ _ _ _ _ _ ho hd => .of_defaults rfl ho hd rfl rfl) (hb4 L))) pe_str (nomark _)) (pss_one (ps_ret pe_bl)) pss_nil)
    (pss_one (ps_ret (pe_and (pe_cmpR (op_eqD hu) (pe_hasP L.log L.ts.cl hr2 pass0 (pv 13)) (pe_tupleOf (by rfl) B.tuple (pv 2)) (nomark _))
      (pe_one (pe_cmpR (op_eqD hu) (pe_said (k := 12) L.said L.eB L.eS L.ne (Rn1 (LX P w K mg base f0 (.ref c) A outer s0 H0 E0').env.cells lm5 ["g"] [] (tb5 CB CS)) hr (by rfl) (pe_lm1 (T := TS) TB rfl hm hone (ndef_free lb5) rfl rfl pe_int)
          (run1 nsc5 lb5 rfl (fun _ _ _ _ _ _ _ _ _ ho hd => .of_defaults rfl ho hd rfl rfl) (hb5 L))) (pe_tup (pa_cons pe_int (pa_cons pe_int pa_nil))) (nomark _))))))))), ?_⟩
  intro D H Hb x0 x1 x3 x4 x5 x6 x7 x8 x9 x10 x12 r sc lg p dk ll pD ns lv ls n log S lk ok q
  have xl := sessTx_len lk.gl ok
  have hlen := sessL_len ls log
  have h9 := ok.len
  have g4 := lk.gl.2.1
  refine ⟨fun σ' H' => σ' = sigD x0 x1 x3 x4 x5 x6 x7 x8 x9 x10 x12 lg r p (sessTx ls log) ∧ SnS K C CD TS Hb r sc lg p dk ll pD ns lv ls log log H', ?_, ?_⟩
  · refine ⟨S.tb, fun pe fe ce H1 e1 T1 _ fe1 pe1 ce1 => ⟨fe, rfl, fun E SK => ⟨ce, pe, fe1, pe1, ce1, ?_⟩⟩⟩
    have S1 := S.extN e1 T1
    have w7 : ("\n> wait" : Str).length = 7 := by decide +kernel
    refine ⟨_, rfl, _, _, rfl, rfl, by rw [sizeLine_eq, w7]; omega, .str _, rfl, .str _, .str _, (fun z => nomatch z), fun x hx => ?_⟩
    injection hx with hx
    subst hx
    refine ⟨rfl, by rw [app_len, w7]; omega, ?_⟩
    have est : stL (sessL ls log ++ [("> wait" : Str)]) = ls.length := stL_more (by decide +kernel)
    show RsOk CB H1 _ E (splS (sessTx ls log ++ ("\n> wait" : Str)) sNl)
    rw [sess_more lk.gl ok.nl (by decide +kernel) wait1]
    unfold RsOk
    rw [est]
    have el : (sessL ls log ++ [("> wait" : Str)]).length = ls.length + 2 * log.length + 1 := by rw [List.length_append, hlen]; rfl
    refine .inr ⟨fun i h1 h2 => ?_, .inl ⟨by rw [el]; omega, ?_⟩⟩
    · by_cases h : i < (sessL ls log).length
      · exact more_old h1 h
      · have e : i = (sessL ls log).length := by rw [el] at h2; omega
        rw [e, more_new]
        decide +kernel
    · refine SK.line _ 1 H1 fun rv H2 s2 tk2 => ?_
      refine ⟨_, rfl, ⟨_, rfl⟩, _, _, rfl, rfl, by decide +kernel, by rw [sizeLine_eq]; omega, fun pa hpa => ?_⟩
      rw [split_nl, sess_lines lk.gl ok.nl]
      have s3 := same_new (o := .lst ((sessL ls log).map V.str)) hpa
      have k3 : (upd H2 pa (.lst ((sessL ls log).map V.str))) pa = some (.lst ((sessL ls log).map V.str)) := upd_same
      generalize upd H2 pa (.lst ((sessL ls log).map V.str)) = H3 at *
      refine ⟨pa, _, rfl, .inl (SqL.of k3), _, _, rfl, rfl, Nat.le_of_ble_eq_true rfl, fun tp htp => ?_⟩
      have s4 := same_new (o := .tup [V.int ((((sessL ls log).map V.str).length : Nat) + 2 : Int), V.int 1]) htp
      refine said_ne (u := [(sessL ls log).length + 2, 1]) (TK.tm (.of (s3.trans s4)) tk2) ⟨tp, rfl, ?_⟩ (by rw [el, hlen]) ⟨false, rfl, iteF ⟨rfl, S1.same (s2.trans (s3.trans s4))⟩⟩
      rw [upd_same]
      exact congrArg (fun z => some (HO.tup [z, V.int 1])) (congrArg V.int (by rw [List.length_map]; omega))
  clear S
  rintro σ' H ⟨rfl, S⟩
  refine ⟨fun σ' H' => σ' = sigD x0 x1 x3 x4 x5 x6 x7 x8 x9 x10 x12 lg r p (sessTx ls log) ∧ SnS K C CD TS Hb r sc lg p dk ll pD ns lv ls log log H', ?_, ?_⟩
  · refine ⟨S.tb, fun pe fe ce H1 e1 T1 _ fe1 pe1 ce1 => ⟨fe, rfl, fun E SK => ⟨ce, pe, fe1, pe1, ce1, ?_⟩⟩⟩
    have S1 := S.extN e1 T1
    have w5 : ("\nwait" : Str).length = 5 := by decide +kernel
    refine ⟨_, rfl, _, _, rfl, rfl, by rw [sizeLine_eq, w5]; omega, _, rfl, by rw [app_len, w5]; omega, ?_⟩
    show FuOk CB noL H1 _ E (splS (sessTx ls log ++ ("\nwait" : Str)) sNl)
    have est : stL (sessL ls log ++ [("wait" : Str)]) = ls.length := stL_more (by decide +kernel)
    rw [sess_more lk.gl ok.nl (by decide +kernel) wait2]
    unfold FuOk
    rw [est]
    have el : (sessL ls log ++ [("wait" : Str)]).length = ls.length + 2 * log.length + 1 := by rw [List.length_append, hlen]; rfl
    refine .inl ⟨(sessL ls log).length, by rw [hlen]; omega, by rw [el, hlen]; omega, fun i h1 h2 => more_old h1 h2, by rw [more_new]; decide +kernel, ?_⟩
    refine SK.line _ 1 H1 fun rv H2 s2 tk2 => ?_
    refine ⟨_, rfl, ⟨_, rfl⟩, _, _, rfl, rfl, by decide +kernel, by rw [sizeLine_eq]; omega, fun pa hpa => ?_⟩
    rw [split_nl, sess_lines lk.gl ok.nl]
    have s3 := same_new (o := .lst ((sessL ls log).map V.str)) hpa
    have k3 : (upd H2 pa (.lst ((sessL ls log).map V.str))) pa = some (.lst ((sessL ls log).map V.str)) := upd_same
    generalize upd H2 pa (.lst ((sessL ls log).map V.str)) = H3 at *
    refine ⟨pa, _, rfl, .inl (SqL.of k3), _, _, rfl, rfl, Nat.le_of_ble_eq_true rfl, fun tp htp => ?_⟩
    have s4 := same_new (o := .tup [V.int ((((sessL ls log).map V.str).length : Nat) + 1 : Int), V.int 1]) htp
    refine said_ne (u := [(sessL ls log).length + 1, 1]) (TK.tm (.of (s3.trans s4)) tk2) ⟨tp, rfl, ?_⟩ rfl ⟨false, rfl, iteF ⟨rfl, S1.same (s2.trans (s3.trans s4))⟩⟩
    rw [upd_same]
    exact congrArg (fun z => some (HO.tup [z, V.int 1])) (congrArg V.int (by rw [List.length_map]; omega))
  clear S
  rintro σ' H ⟨rfl, S⟩
  refine ⟨fun σ' H' => σ' = sigD x0 x1 x3 x4 x5 x6 x7 x8 x9 x10 x12 lg r p (sessTx ls log) ∧ SnS K C CD TS Hb r sc lg p dk ll pD ns lv ls log log H', ?_, ?_⟩
  · refine ⟨S.tb, fun pe fe ce H1 e1 T1 _ fe1 pe1 ce1 => ⟨fe, rfl, fun E SK => ⟨ce, pe, fe1, pe1, ce1, ?_⟩⟩⟩
    have S1 := S.extN e1 T1
    refine ⟨_, rfl, Nat.le_of_ble_eq_true rfl, fun ta hta => ⟨Nat.le_of_ble_eq_true rfl, fun tl htl => ?_⟩⟩
    have s2 := same_new (o := .tup [V.str ("a" : Str)]) hta
    have s3 := same_new (o := .lst [V.non, V.int 7, V.ref ta]) htl
    have k2 := s3 _ _ (show (upd H1 ta (.tup [V.str ("a" : Str)])) ta = some (.tup [V.str ("a" : Str)]) from upd_same)
    have k3 : (upd (upd H1 ta (.tup [V.str ("a" : Str)])) tl (.lst [V.non, V.int 7, V.ref ta])) tl = some (.lst [V.non, V.int 7, V.ref ta]) := upd_same
    have ntl : tl ≠ r := ((S1.same s2).row.ne htl).symm
    have S3 := S1.same (s2.trans s3)
    generalize upd (upd H1 ta (.tup [V.str ("a" : Str)])) tl (.lst [V.non, V.int 7, V.ref ta]) = H3 at *
    refine ⟨r, tl, sc, ns, _, rfl, S3.row, k3, ntl, by show 1 ≤ 3; decide, by show 3 ≤ 1000; decide, fun x H4 hx st4 ra4 => ?_⟩
    have S4 := S3.rowX st4 ra4
    have k4 := (st4.tm S3.row).1 _ _ k2
    have fin : Bad0 CS H4 E := SK.str H4 fun H5 s5 => ⟨rfl, false, by rw [decide_eq_true rfl]; rfl, iteF ⟨rfl, S4.same s5⟩⟩
    simp only [List.mem_cons, List.not_mem_nil, or_false] at hx
    rcases hx with rfl | rfl | rfl
    · exact ⟨_, rfl, .none, .non, (fun _ => fin), fun x hx => nomatch hx⟩
    · exact ⟨_, rfl, .int 7, .int 7, (fun _ => fin), fun x hx => nomatch hx⟩
    · exact ⟨_, rfl, .tuple [.str ("a" : Str)], .tup (.inl k4) (.cons (.str _) .nil), (fun _ => fin), fun x hx => nomatch hx⟩
  clear S
  rintro σ' H ⟨rfl, S⟩
  refine ⟨fun σ' H' => σ' = sigD x0 x1 x3 x4 x5 x6 x7 x8 x9 x10 x12 lg r p (sessTx ls log) ∧ SnS K C CD TS Hb r sc lg p dk ll pD ns lv ls log log H', ?_, ?_⟩
  · refine ⟨S.tb, fun pe fe ce H1 e1 T1 _ fe1 pe1 ce1 => ⟨fe, rfl, fun E SK => ⟨ce, pe, fe1, pe1, ce1, ?_⟩⟩⟩
    have S1 := S.extN e1 T1
    obtain ⟨dx, lv2, hin, _⟩ := id S1.ss.ins
    refine ⟨_, rfl, p, dx, _, rfl, hin, rfl, p, dk, ll, ls, log, _, rfl, S1.ss, by omega, by decide +kernel, fun _ => SK.str H1 fun H5 s5 => ⟨rfl, false, by rw [decide_eq_true rfl]; rfl, iteF ⟨rfl, S1.same s5⟩⟩, fun z => absurd (by decide +kernel) z⟩
  clear S
  rintro σ' H ⟨rfl, S⟩
  obtain ⟨dx, lv2, hin, _⟩ := id S.ss.ins
  obtain ⟨xs, hl, pl⟩ := S.lgs
  refine ⟨_, rfl, p, dx, _, rfl, hin, p, dk, ll, ls, log, rfl, S.ss, fun tp xs2 H1 s1 htp pr1 => ⟨_, rfl, .inl ⟨lg, xs, rfl, SqL.of (s1 _ _ hl), fun tq htq => ?_⟩⟩⟩
  have s2 := same_new (o := .tup xs) htq
  have S2 := S.same (s1.trans s2)
  have r1 : Rp (upd H1 tq (.tup xs)) (.ref tp) (.tuple (log.map dPr)) := .tup (.inl (s2 _ _ htp)) (prs_rp (paired_mono (fun _ _ r => PrAt.tm (.of s2) r) pr1))
  have r2 : Rp (upd H1 tq (.tup xs)) (.ref tq) (.tuple (log.map dPr)) := .tup (.inl upd_same) (prs_rp (paired_mono (fun _ _ r => PrAt.tm (.of (s1.trans s2)) r) pl))
  generalize upd H1 tq (.tup xs) = H2 at *
  refine ⟨_, _, Rp.dp _ _ r1, Rp.dp _ _ r2, (sh_prs ok.sOk).1, (sh_prs ok.sOk).1, true, congrArg V.bl (eqv_prs log), iteT ?_⟩
  refine ⟨S2.tb, fun pe fe ce H3 e3 T3 _ fe3 pe3 ce3 => ⟨fe, rfl, fun E SK => ⟨ce, pe, fe3, pe3, ce3, ?_⟩⟩⟩
  refine ⟨.str ("| turn 0 0" : Str), rfl, .str ("| turn 0 0" : Str), .str _, (fun z => nomatch z), fun x hx => ?_⟩
  injection hx with hx
  subst hx
  refine ⟨rfl, by decide +kernel, ?_⟩
  have el : splS ("| turn 0 0" : Str) sNl = [("| turn 0 0" : Str)] := by decide +kernel
  have est : stL [("| turn 0 0" : Str)] = 1 := by decide +kernel
  show RsOk CB H3 _ E (splS ("| turn 0 0" : Str) sNl)
  rw [el]
  unfold RsOk
  rw [est]
  refine .inr ⟨fun i h1 h2 => ?_, .inr ⟨rfl, by decide +kernel, fun e he => ?_, fun ts hts => ?_⟩⟩
  · have h2 : i < 1 := h2
    omega
  · have he : (Except.error (1, 3) : Except (Nat × Nat) (List (List Nat))) = .error e := bent_lk.symm.trans he
    injection he with he
    subst he
    refine SK.line 1 3 H3 fun rv H4 s4 tk4 => ⟨Nat.le_of_ble_eq_true rfl, fun tp5 h5 => ?_⟩
    exact said_eq (u := [1, 3]) (TK.tm (.of (same_new h5)) tk4) ⟨tp5, rfl, upd_same⟩ rfl (q _)
  · have := hts.symm.trans bent_lk
    cases this
end
end Lt

set_option Elab.async false
set_option linter.all false
set_option maxRecDepth 100000
set_option maxHeartbeats 4000000
/-! k15: the law's bent texts -/
namespace Lt
open PySem PySem.Spec PyProof.Rows L2 NdefX LamX LmX MaX
open TL (tl)
section
variable {K : PySem.W.Frag} {C CD : Addr} {TS : List (Addr × Str)} {Hb Hr : Hp} {r sc lg p dk ll pD l : Addr} {ns : List Int} {lv : V} {ls : List (List Nat)} {log log2 : List (Str × Str)} {H H' : Hp} {xs : List V}
theorem SnS.rwX (h : SnS K C CD TS Hb r sc lg p dk ll pD ns lv ls log log2 H) (hr : RowAt K Hr r sc ns) (hn : Hr l = none) (hl : H l = some (.lst xs)) (n1 : lg ≠ l) (n2 : ll ≠ l) (s : StepR l H H') : SnS K C CD TS Hb r sc lg p dk ll pD ns lv ls log log2 H' := by
  have tm := stepR_tml s hl
  exact ⟨h.hb, h.hlg, h.hll, h.ne, hr.far' hn h.row s, h.tt.tm tm, let ⟨ys, x, q⟩ := h.lgs; ⟨ys, s _ _ n1 x, paired_mono (fun _ _ r => PrAt.tm tm r) q⟩, h.ss.far s hl n2, let ⟨dx, u, v, x⟩ := h.ds; ⟨dx, u, v, s _ _ (ne_of x hl (fun z => nomatch z)) x⟩, tabs_step h.tb hl s⟩
end
theorem ixN_nt {n j : Nat} (hj : j < n) : ixN n (j : Int) = some j := by
  unfold ixN
  rw [if_pos (by omega), if_pos (by omega)]
  rfl
theorem said1 : ("< " : Str) ++ ("never said" : Str) = ("< never said" : Str) := by decide +kernel
theorem set_sum {l : List Str} (h : (l.map (·.length)).sum ≤ 2300) {i : Nat} {x : Str} (hx : x.length ≤ 100) : ((l.set i x).map (·.length)).sum ≤ 2400 := by
  have : ∀ (l : List Str) (i : Nat), ((l.set i x).map (·.length)).sum ≤ (l.map (·.length)).sum + x.length := by
    intro l
    induction l with
    | nil => intro i; exact Nat.zero_le _
    | cons a l ih =>
      intro i
      cases i with
      | zero =>
        show x.length + (l.map (·.length)).sum ≤ a.length + (l.map (·.length)).sum + x.length
        omega
      | succ i =>
        have := ih i
        show a.length + ((l.set i x).map (·.length)).sum ≤ a.length + (l.map (·.length)).sum + x.length
        omega
  have := this l i
  omega
section
variable {P : Program} {w : World} {K : PySem.W.Frag} {mg : Str → Option Value} {base : Heap} {C CD CB CS c Pt : Addr}
abbrev sigE (x0 x1 x3 x4 x5 x6 x7 x8 : Option V) (x9 : V) (x10 : Option V) (rw_ : Addr) (lg r p : Addr) (tx : Str) : L2.St := [x0, x1, some (.ref lg), x3, x4, x5, x6, x7, x8, some x9, x10, some (.ref r), some (.ref rw_), some (.ref p), some (.str tx)]
theorem law_e {TS : List (Addr × Str)} {f0 : Addr} {A : Around} {outer : List Env} {s0 : Shared} {H0 : Hp} {E0' : XK} (hr : Room 13 (LX P w K mg base f0 (.ref c) A outer s0 H0 E0').A) (TB : TabB base mg c Pt) (hm : (Pt, q_lam) ∈ TS) (hone : ∀ p ∈ TS, p.1 = Pt → p.2 = q_lam)
    (L : LawHas P w K mg base C CD CB CS) :
    ∃ t, PSs (LX P w K mg base f0 (.ref c) A outer s0 H0 E0') ((defBody s_law).drop 12) t ∧ ∀ (D : Ends) (H Hb Hr : Hp) (x0 x1 x3 x4 x5 x6 x7 x8 x10 : Option V) (r sc lg p dk ll pD rw_ : Addr) (ns : List Int) (lv : V) (ls : List (List Nat)) (n : Nat) (log : List (Str × Str)),
      SnS K C CD TS Hb r sc lg p dk ll pD ns lv ls log log H → Lk ls n → LogOk log → RowAt K Hr r sc ns → Hr rw_ = none → lg ≠ rw_ → ll ≠ rw_ → H rw_ = some (.lst ((sessL ls log).map V.str)) → (∀ H', D.rt (.bl true) H') → t D (sigE x0 x1 x3 x4 x5 x6 x7 x8 (nI ls.length) x10 rw_ lg r p (sessTx ls log)) H := by
  have hu := hr.units
  have B := L.bi
  have hr1 : Room 1 (LX P w K mg base f0 (.ref c) A outer s0 H0 E0').A := hr.mono (by decide)
  have hr11 : Room 11 (LX P w K mg base f0 (.ref c) A outer s0 H0 E0').A := hr.mono (by decide)
  obtain ⟨td, hd, qd⟩ := law_d (outer := outer) (s0 := s0) (H0 := H0) (E0' := E0') hr TB hm hone L
  refine ⟨_, pss_cons (ps_if (pt_cmpR (op_neD hu) (pv 2) (pe_lst pa_nil) (nomark _))
      (C8.pss_cut (ps_set (i := 10) sc_law.nd rfl (Or.inl rfl) (pe_has L.taken hr1 (by rfl) (pa_cons (pv 11) (pa_cons (pe_callB call_len_seq (by rfl) B.len PySem.boot_len (pa_cons (pv 2) pa_nil)) pa_nil))))
      (C8.pss_cut (ps_asg pe_str (pg_sub (pv 12) (pe_op op_add (pe_op op_add (pv 9) (pe_op op_mul pe_int (pv 10))) pe_int) set_list))
      (C8.pss_cut (ps_if (pt_not (pt_val (pe_has (L.alike 0) hr1 (by rfl) (pa_cons (pe_hasL L.fu hr11 (by rfl) (pa_cons (pe_join pe_str (pv 12)) pa_nil)) (pa_cons (pv 10) pa_nil))))) (pss_one (ps_ret pe_bl)) pss_nil)
      (C8.pss_cut (ps_asg pe_str (pg_sub (pv 12) (pe_op op_add (pe_op op_add (pv 9) (pe_op op_mul pe_int (pv 10))) pe_int) set_list))
      (pss_one (ps_if (pt_cmpR (op_neD hu) (pe_said (k := 12) L.said L.eB L.eS L.ne (Rn0 (LX P w K mg base f0 (.ref c) A outer s0 H0 E0').env.cells lm0 ["rows"] [12] (tb0 K CB CS)) hr (by rfl) (pe_lm0 (T := TS) TB rfl hm hone (ndef_free lb0) rfl)
          (run0 nsc0 lb0 rfl (fun _ _ _ _ _ => .of_eq rfl) (hb0 L))) (pe_tup (pa_cons (pe_op op_add (pe_op op_add (pv 9) (pe_op op_mul pe_int (pv 10))) pe_int) (pa_cons pe_int pa_nil))) (nomark _)) (pss_one (ps_ret pe_bl)) pss_nil)))))) pss_nil) hd, ?_⟩
  intro D H Hb Hr x0 x1 x3 x4 x5 x6 x7 x8 x10 r sc lg p dk ll pD rw_ ns lv ls n log S lk ok ra0 n0 n1 n2 hrw q
  have hlen := sessL_len ls log
  have h9 := ok.len
  have g4 := lk.gl.2.1
  have w1 : sNl.length = 1 := by decide +kernel
  have w10 : ("never said" : Str).length = 10 := by decide +kernel
  have sm : ((sessL ls log).map (·.length)).sum ≤ 2300 := by
    have h2 := sum_le (fun z : Str => z.length) 102 (sessL_mem lk.gl ok.le)
    omega
  obtain ⟨xs, hl, pl⟩ := S.lgs
  have lx := Paired.length pl
  refine ⟨_, rfl, Nat.zero_le _, fun pe hpe => ?_⟩
  have s1 := same_new (o := .lst []) hpe
  have k1 : (upd H pe (.lst [])) pe = some (.lst ([] : List V)) := upd_same
  have S1 := S.same s1
  have hl1 := s1 _ _ hl
  have hrw1 := s1 _ _ hrw
  have pl1 := paired_mono (fun _ _ r => PrAt.tm (.of s1) r) pl
  generalize upd H pe (.lst []) = H1 at *
  refine ⟨.list (log.map dPr), .list [], .lst (SqL.of hl1) (RpAll.dp _ _ (prs_rp pl1)), .lst (SqL.of k1) .nil, (sh_prs ok.sOk).2, rfl, !decide (log = []), by rw [eqv_noPr], ?_⟩
  by_cases hne : log = []
  · rw [decide_eq_true hne]
    exact iteF (qd D H1 Hb _ _ _ _ _ _ _ _ _ _ _ r sc lg p dk ll pD ns lv ls n log S1 lk ok q)
  rw [decide_eq_false hne]
  have l1 : 1 ≤ log.length := List.length_pos_iff.mpr hne
  refine iteT ?_
  have cm2 : ∀ {k : Nat}, k < log.length → CMul 2 ((k : Nat) : Int) := fun {k} hk => by unfold CMul; omega
  let σE := fun (y : Option V) => sigE x0 x1 x3 x4 x5 x6 x7 x8 (nI ls.length) y rw_ lg r p (sessTx ls log)
  refine ⟨fun σ' H' => ∃ k, k < log.length ∧ σ' = σE (some (nI k)) ∧ SnS K C CD TS Hb r sc lg p dk ll pD ns lv ls log log H' ∧ H' rw_ = some (.lst ((sessL ls log).map V.str)), ?_, ?_⟩
  · refine ⟨_, rfl, _, rfl, lg, _, rfl, .inl (SqL.of hl1), r, sc, ns, xs.length, rfl, S1.row, by omega, by omega, fun k H2 hk st2 ra2 => ⟨k, by omega, rfl, S1.rowX st2 ra2, st2 _ _ (ra0.ne n0).symm hrw1⟩⟩
  rintro σ' H2 ⟨k, hk, rfl, S2, hrw2⟩
  have ek : ((ls.length : Nat) : Int) + 2 * ((k : Nat) : Int) + 1 = ((ls.length + 2 * k + 1 : Nat) : Int) := by omega
  have ek2 : ((ls.length : Nat) : Int) + 2 * ((k : Nat) : Int) + 2 = ((ls.length + 2 * k + 2 : Nat) : Int) := by omega
  have kl : ls.length + 2 * k + 1 < (sessL ls log).length := by rw [hlen]; omega
  have nl2 : ∀ b ∈ logSet log k ("never said" : Str), b ∈ log ∨ (b.1 ∈ lines9 ∧ b.2 = ("never said" : Str)) := fun b hb => by
    rcases List.mem_or_eq_of_mem_set hb with h | h
    · exact .inl h
    · refine .inr ⟨?_, by rw [h]⟩
      rw [h]
      have e : log.getD k (("" : Str), ("" : Str)) = log[k] := by
        rw [List.getD_eq_getElem?_getD, List.getElem?_eq_getElem hk]
        rfl
      rw [e]
      show log[k].1 ∈ lines9
      exact ok.ln _ (List.getElem_mem hk)
  have l9b : ∀ b ∈ logSet log k ("never said" : Str), b.1 ∈ lines9 ∧ 10 ∉ tl b.2 ∧ PyData.strOk b.2 = true := fun b hb => by
    rcases nl2 b hb with h | ⟨h1, h2⟩
    · exact ⟨ok.ln b h, (ok.nl b h).2, (ok.sOk b h).2⟩
    · refine ⟨h1, ?_, ?_⟩ <;> (rw [h2]; decide +kernel)
  have no2 : NoNl (logSet log k ("never said" : Str)) := fun b hb => ⟨(lines9_ok _ (l9b b hb).1).2.1, (l9b b hb).2.1⟩
  have ll2 : (logSet log k ("never said" : Str)).length = log.length := List.length_set ..
  have un2 : unlL (logSet log k ("never said" : Str)) 0 = some k := (unl_set log k 0 ((log.getD k (("" : Str), ("" : Str))).1, ("never said" : Str)) ok.an (show ("never said" : Str) ≠ ("what" : Str) by decide +kernel) hk).trans (by rw [Nat.zero_add])
  refine ⟨fun σ' H' => σ' = σE (some (nI k)) ∧ SnS K C CD TS Hb r sc lg p dk ll pD ns lv ls log log H' ∧ H' rw_ = some (.lst ((sessL ls (logSet log k ("never said" : Str))).map V.str)), ?_, ?_⟩
  · refine ⟨_, rfl, _, rfl, _, rfl, 2, (k : Int), rfl, rfl, cm2 hk, (ls.length : Int), _, rfl, rfl, _, 1, rfl, rfl, ?_⟩
    refine ⟨rw_, _, _, ls.length + 2 * k + 1, rfl, rfl, hrw2, (congrArg (ixN _) ek).trans (ixN_nt (by rw [List.length_map]; exact kl)), rfl, S2.rwX ra0 n0 hrw2 n1 n2 (StepR.put _ _ _), ?_⟩
    rw [upd_same, ← sess_set ls hk, said1, List.map_set]
  rintro σ' H3 ⟨rfl, S3, hrw3⟩
  refine ⟨fun σ' H' => σ' = σE (some (nI k)) ∧ SnS K C CD TS Hb r sc lg p dk ll pD ns lv ls log log H' ∧ H' rw_ = some (.lst ((sessL ls (logSet log k ("never said" : Str))).map V.str)), ?_, ?_⟩
  · have sm2 : ((sessL ls (logSet log k ("never said" : Str))).map (·.length)).sum ≤ 2400 := by
      rw [← sess_set ls hk]
      exact set_sum sm (by rw [said1]; decide +kernel)
    have hl3 := sessL_len ls (logSet log k ("never said" : Str))
    have jl := joinS_len sNl (sessL ls (logSet log k ("never said" : Str)))
    rw [w1] at jl
    refine ⟨⟨_, rfl⟩, _, rfl, sNl, rw_, sessL ls (logSet log k ("never said" : Str)), rfl, rfl, .inl (SqL.of hrw3), by rw [w1]; omega, _, rfl, by omega, ?_⟩
    show FuOk CB noL H3 _ E0 (splS (sessTx ls (logSet log k ("never said" : Str))) sNl)
    rw [sess_lines lk.gl no2]
    unfold FuOk
    rw [stL_sess, lkTx_sess, saidL_sess, un2]
    have ltx := lockTx_len lk.gl
    refine .inr ⟨fun i h1 h2 => gdM_sess ls _ i h1 (by omega), .inr ⟨by omega, by omega, ls, n, lock_loose lk.gl rfl, lk, by omega, fun b hb => ?_, fun H4 s4 => ?_⟩⟩
    · obtain ⟨k1, k2, k3, k4⟩ := lines9_ok _ (l9b b hb).1
      exact ⟨by omega, k2, k3, k4, (l9b b hb).2.2⟩
    · refine ⟨_, rfl, nI k, nI k, .int (k : Int), rfl, .int _, .int _, trivial, fun H5 s5 => ⟨true, rfl, iteF ⟨rfl, S3.same (s4.trans s5), s5 _ _ (s4 _ _ hrw3)⟩⟩⟩
  clear S3 hrw3
  rintro σ' H3 ⟨rfl, S3, hrw3⟩
  refine ⟨fun σ' H' => σ' = σE (some (nI k)) ∧ SnS K C CD TS Hb r sc lg p dk ll pD ns lv ls log log H' ∧ H' rw_ = some (.lst (((sessL ls log).set (ls.length + 2 * k + 1) ("never said" : Str)).map V.str)), ?_, ?_⟩
  · refine ⟨_, rfl, _, rfl, _, rfl, 2, (k : Int), rfl, rfl, cm2 hk, (ls.length : Int), _, rfl, rfl, _, 1, rfl, rfl, ?_⟩
    refine ⟨rw_, _, _, ls.length + 2 * k + 1, rfl, rfl, hrw3, (congrArg (ixN _) ek).trans (ixN_nt (by rw [List.length_map, sessL_len, ll2]; omega)), rfl, S3.rwX ra0 n0 hrw3 n1 n2 (StepR.put _ _ _), ?_⟩
    rw [upd_same, ← sess_set ls hk, List.map_set, List.set_set, ← List.map_set]
  clear S3 hrw3
  rintro σ' H3 ⟨rfl, S3, hrw3⟩
  refine ⟨S3.tb, fun fe ce H4 e4 T4 _ fe4 ce4 => ⟨fe, rfl, fun E SK => ⟨ce, fe4, ce4, ?_⟩⟩⟩
  have S4 := S3.extN e4 T4
  have hrw4 := e4 _ _ hrw3 (fun _ z => nomatch z)
  have sm3 : (((sessL ls log).set (ls.length + 2 * k + 1) ("never said" : Str)).map (·.length)).sum ≤ 2400 := set_sum sm (by rw [w10]; decide)
  have ll3 : ((sessL ls log).set (ls.length + 2 * k + 1) ("never said" : Str)).length = (sessL ls log).length := List.length_set ..
  have jl := joinS_len sNl ((sessL ls log).set (ls.length + 2 * k + 1) ("never said" : Str))
  rw [w1] at jl
  refine ⟨⟨_, rfl⟩, _, rfl, sNl, rw_, (sessL ls log).set (ls.length + 2 * k + 1) ("never said" : Str), rfl, rfl, .inl (SqL.of hrw4), by rw [w1]; omega, .str _, rfl, .str _, .str _, (fun z => nomatch z), fun x hx => ?_⟩
  injection hx with hx
  subst hx
  refine ⟨rfl, by omega, ?_⟩
  show RsOk CB H4 _ E (splS (Txt.join sNl ((sessL ls log).set (ls.length + 2 * k + 1) ("never said" : Str))) sNl)
  rw [set_lines lk.gl ok.nl (by decide +kernel)]
  unfold RsOk
  rw [stL_set]
  refine .inl ⟨ls.length + 2 * k + 1, by omega, by omega, fun i h1 h2 => set_old hk h1 h2, by rw [set_new hk]; decide +kernel, SK.line _ 1 H4 fun rv H5 s5 tk5 => ?_⟩
  refine ⟨_, rfl, _, rfl, 2, (k : Int), rfl, rfl, cm2 hk, (ls.length : Int), _, rfl, rfl, _, 2, rfl, rfl, Nat.le_of_ble_eq_true rfl, fun tp htp => ?_⟩
  have s6 := same_new (o := .tup [V.int (((ls.length : Nat) : Int) + 2 * ((k : Nat) : Int) + 2), V.int 1]) htp
  refine said_ne (u := [ls.length + 2 * k + 2, 1]) (TK.tm (.of s6) tk5) ⟨tp, rfl, ?_⟩ rfl ⟨false, rfl, iteF ?_⟩
  · exact upd_same.trans (congrArg (fun z => some (HO.tup [V.int z, V.int 1])) ek2)
  · exact qd D _ Hb _ _ _ _ _ _ _ _ _ _ _ r sc lg p dk ll pD ns lv ls n log (S4.same (s5.trans s6)) lk ok q
end
end Lt

set_option Elab.async false
set_option linter.all false
set_option maxRecDepth 100000
set_option maxHeartbeats 4000000
/-! k15: the law's text -/
namespace Lt
open PySem PySem.Spec PyProof.Rows L2 NdefX LamX LmX MaX
open TL (tl)
theorem LogOk.take {log : List (Str × Str)} (h : LogOk log) (i : Nat) : LogOk (log.take i) := ⟨by have := h.len; rw [List.length_take]; omega, fun b hb => h.ln b (List.mem_of_mem_take hb), fun b hb => h.an b (List.mem_of_mem_take hb)⟩
theorem PlS_log3 {log : List (Str × Str)} (h : LogOk log) : PlS 3 (.tuple (log.map dPr)) := by
  refine ⟨by rw [List.length_map]; have := h.len; omega, fun e he => ?_⟩
  obtain ⟨b, hb, rfl⟩ := List.mem_map.mp he
  obtain ⟨k1, k2⟩ := h.sOk b hb
  refine ⟨by show 2 ≤ 1000; decide, fun e he => ?_⟩
  simp only [List.mem_cons, List.not_mem_nil, or_false] at he
  rcases he with rfl | rfl
  · exact k1
  · exact k2
theorem PlS_log2 {log : List (Str × Str)} (h : LogOk log) : PlS 2 (.tuple (log.map dPr)) := by
  refine ⟨by rw [List.length_map]; have := h.len; omega, fun e he => ?_⟩
  obtain ⟨b, hb, rfl⟩ := List.mem_map.mp he
  obtain ⟨k1, k2⟩ := h.sOk b hb
  refine ⟨by show 2 ≤ 1000; decide, fun e he => ?_⟩
  simp only [List.mem_cons, List.not_mem_nil, or_false] at he
  rcases he with rfl | rfl
  · exact k1
  · exact k2
theorem PlS_both {ls : List (List Nat)} {n : Nat} {log : List (Str × Str)} (g : GL ls n) (h : LogOk log) : PlS 3 (.tuple [.tuple (ls.map dT), .tuple (log.map dPr)]) := by
  obtain ⟨g1, g4, n2, n9, hp⟩ := g
  refine ⟨by show 2 ≤ 1000; decide, fun e he => ?_⟩
  simp only [List.mem_cons, List.not_mem_nil, or_false] at he
  rcases he with rfl | rfl
  · refine ⟨by rw [List.length_map]; omega, fun e he => ?_⟩
    obtain ⟨t, ht, rfl⟩ := List.mem_map.mp he
    refine ⟨by rw [List.length_map, (hp t ht).len]; omega, fun e he => ?_⟩
    obtain ⟨k, _, rfl⟩ := List.mem_map.mp he
    exact trivial
  · exact PlS_log2 h
section
variable {P : Program} {w : World} {K : PySem.W.Frag} {mg : Str → Option Value} {base : Heap} {C CD CB CS c Pt : Addr}
abbrev sigC (x0 : Option V) (lv : V) (lg : Addr) (x3 x4 x5 x6 x7 x8 x9 x10 : Option V) (r : Addr) (x12 : Option V) (p : Addr) (x14 : Option V) : L2.St := [x0, some lv, some (.ref lg), x3, x4, x5, x6, x7, x8, x9, x10, some (.ref r), x12, some (.ref p), x14]
theorem law_c {TS : List (Addr × Str)} {f0 : Addr} {A : Around} {outer : List Env} {s0 : Shared} {H0 : Hp} {E0' : XK} (hr : Room 13 (LX P w K mg base f0 (.ref c) A outer s0 H0 E0').A) (TB : TabB base mg c Pt) (hm : (Pt, q_lam) ∈ TS) (hone : ∀ p ∈ TS, p.1 = Pt → p.2 = q_lam)
    (L : LawHas P w K mg base C CD CB CS) :
    ∃ t, PSs (LX P w K mg base f0 (.ref c) A outer s0 H0 E0') ((defBody s_law).drop 5) t ∧ ∀ (D : Ends) (H Hb : Hp) (x0 x3 x4 x5 x6 x7 x8 x9 x10 x12 x14 : Option V) (r sc lg p dk ll pD : Addr) (ns : List Int) (lv : V) (ls : List (List Nat)) (n : Nat) (log : List (Str × Str)),
      SnS K C CD TS Hb r sc lg p dk ll pD ns lv ls log log H → Lk ls n → LogOk log → (∀ H', D.rt (.bl true) H') → t D (sigC x0 lv lg x3 x4 x5 x6 x7 x8 x9 x10 r x12 p x14) H := by
  have hu := hr.units
  have B := L.bi
  have hr2 : Room 2 (LX P w K mg base f0 (.ref c) A outer s0 H0 E0').A := hr.mono (by decide)
  have hr4 : Room 4 (LX P w K mg base f0 (.ref c) A outer s0 H0 E0').A := hr.mono (by decide)
  have hr6 : Room 6 (LX P w K mg base f0 (.ref c) A outer s0 H0 E0').A := hr.mono (by decide)
  have hr7 : Room 7 (LX P w K mg base f0 (.ref c) A outer s0 H0 E0').A := hr.mono (by decide)
  have hr11 : Room 11 (LX P w K mg base f0 (.ref c) A outer s0 H0 E0').A := hr.mono (by decide)
  obtain ⟨te, he, qe⟩ := law_e (outer := outer) (s0 := s0) (H0 := H0) (E0' := E0') hr TB hm hone L
  refine ⟨_, C8.pss_cut (ps_set (i := 14) sc_law.nd rfl (Or.inr rfl) (pe_hasM0 L.text L.ts.cl hr7 passL (pv 13)))
    (C8.pss_cut (ps_if (PW.pt (pw_or (pt_not (pt_val (pe_has (L.alike 3) hr4 (by rfl) (pa_cons (pe_hasP L.log L.ts.cl hr2 pass0 (pv 13)) (pa_cons (pe_tupleOf (by rfl) B.tuple (pv 2)) pa_nil)))))
        (pw_or1 (pt_not (pt_val (pe_has (L.alike 3) hr4 (by rfl) (pa_cons (pe_hasL L.rs hr6 (by rfl) (pa_cons (pv 14) pa_nil)) (pa_cons (pe_tup (pa_cons (pv 1) (pa_cons (pe_tupleOf (by rfl) B.tuple (pv 2)) pa_nil))) pa_nil)))))))) (pss_one (ps_ret pe_bl)) pss_nil)
    (C8.pss_cut (ps_set (i := 7) sc_law.nd rfl (Or.inl rfl) (pe_join pe_str (pe_lc (own := [("line", 6)]) (g := gName 6) (te := tOp rApp (tC (.str "| ")) (tVar 6)) (by rfl) sc_law.nd (pi_list (pe_split (pe_hasL L.wl hr6 (by rfl) (pa_cons (pv 1) pa_nil)) pe_str)) (blkOk_by (own := [("line", 6)]) (N := lawN) (sc := defScope s_law) (by decide +kernel))
        (fun _ _ _ _ _ => pg_name (i := 6) sc_law.nd rfl (Or.inl rfl)) (fun _ _ _ _ _ => pts_nil) (fun _ _ _ _ _ => pe_op op_add_str pe_str (pv 6)))))
    (C8.pss_cut (ps_for (passes_of rfl) rfl (pi_list (pv 2)) (pg_tup rfl (pgs_cons (pg_name (i := 6) sc_law.nd rfl (Or.inl rfl)) (pgs_cons (pg_name (i := 8) sc_law.nd rfl (Or.inl rfl)) pgs_nil)))
        (pss_one (ps_set (i := 7) sc_law.nd rfl (Or.inl rfl) (pe_op op_add_str (pe_op op_add_str (pe_op op_add_str (pe_op op_add_str (pv 7) pe_str) (pv 6)) pe_str) (pv 8)))))
    (C8.pss_cut (ps_if (PW.pt (pw_or (pt_cmpR op_ne (pv 14) (pv 7) (nomark _)) (pw_or1 (pt_cmp (pc_notN (pe_hasL L.fu hr11 (by rfl) (pa_cons (pv 14) pa_nil))))))) (pss_one (ps_ret pe_bl)) pss_nil)
    (C8.pss_cut (ps_set (i := 12) sc_law.nd rfl (Or.inr rfl) (pe_split (pv 14) pe_str))
    (C8.pss_cut (ps_set (i := 9) sc_law.nd rfl (Or.inl rfl) (pe_op op_sub (pe_callB call_len_seq (by rfl) B.len PySem.boot_len (pa_cons (pv 12) pa_nil)) (pe_op op_mul pe_int (pe_callB call_len_seq (by rfl) B.len PySem.boot_len (pa_cons (pv 2) pa_nil)))))
    he)))))), ?_⟩
  intro D H Hb x0 x3 x4 x5 x6 x7 x8 x9 x10 x12 x14 r sc lg p dk ll pD ns lv ls n log S lk ok q
  have xl := sessTx_len lk.gl ok
  have hlen := sessL_len ls log
  have h9 := ok.len
  obtain ⟨g1, g4, n2, n9, hls⟩ := id lk.gl
  have ltx := lockTx_len lk.gl
  have w1 : sNl.length = 1 := by decide +kernel
  have w2 : ("| " : Str).length = 2 := by decide +kernel
  let σC := fun (x6 x7 x8 : Option V) => sigC x0 lv lg x3 x4 x5 x6 x7 x8 x9 x10 r x12 p (some (.str (sessTx ls log)))
  -- the text
  refine ⟨fun σ' H' => σ' = σC x6 x7 x8 ∧ SnS K C CD TS Hb r sc lg p dk ll pD ns lv ls log log H', ?_, ?_⟩
  · obtain ⟨dx, lv2, hin, _⟩ := id S.ss.ins
    exact ⟨_, rfl, p, dx, _, rfl, hin, rfl, p, dk, ll, ls, n, log, rfl, S.ss, lk, by omega, ok.le, fun H1 s1 => ⟨rfl, S.same s1⟩⟩
  clear S
  rintro σ' H ⟨rfl, S⟩
  -- read back
  refine ⟨fun σ' H' => σ' = σC x6 x7 x8 ∧ SnS K C CD TS Hb r sc lg p dk ll pD ns lv ls log log H', ?_, ?_⟩
  · obtain ⟨dx, lv2, hin, _⟩ := id S.ss.ins
    obtain ⟨xs, hl, pl⟩ := S.lgs
    refine ⟨_, rfl, p, dx, _, rfl, hin, p, dk, ll, ls, log, rfl, S.ss, fun tp xs2 H1 s1 htp pr1 => ⟨_, rfl, .inl ⟨lg, xs, rfl, SqL.of (s1 _ _ hl), fun tq htq => ?_⟩⟩⟩
    have s2 := same_new (o := .tup xs) htq
    have S2 := S.same (s1.trans s2)
    have r1 : Rp (upd H1 tq (.tup xs)) (.ref tp) (.tuple (log.map dPr)) := .tup (.inl (s2 _ _ htp)) (prs_rp (paired_mono (fun _ _ r => PrAt.tm (.of s2) r) pr1))
    have r2 : Rp (upd H1 tq (.tup xs)) (.ref tq) (.tuple (log.map dPr)) := .tup (.inl upd_same) (prs_rp (paired_mono (fun _ _ r => PrAt.tm (.of (s1.trans s2)) r) pl))
    have hl2 := (s1.trans s2) _ _ hl
    have pl2 := paired_mono (fun _ _ r => PrAt.tm (.of (s1.trans s2)) r) pl
    generalize upd H1 tq (.tup xs) = H2 at *
    refine ⟨.ref tp, .ref tq, .tuple (log.map dPr), rfl, r1, r2, PlS_log3 ok, fun H3 s3 => ⟨true, rfl, iteF ?_⟩⟩
    refine ⟨_, rfl, .str (sessTx ls log), rfl, .str (sessTx ls log), .str _, (fun z => nomatch z), fun x hx => ?_⟩
    injection hx with hx
    subst hx
    refine ⟨rfl, by omega, ?_⟩
    show RsOk CB H3 _ E0 (splS (sessTx ls log) sNl)
    rw [sess_lines lk.gl ok.nl]
    unfold RsOk
    rw [stL_sess, lkTx_sess, saidL_sess]
    refine .inr ⟨fun i h1 h2 => gdM_sess ls _ i h1 (by omega), .inr ⟨by omega, by omega, fun e he => ?_, fun ts hts r3 H4 s4 ss => ?_⟩⟩
    · have := he.symm.trans (lock_loose lk.gl rfl)
      cases this
    · have hts : (Except.ok ts : Except (Nat × Nat) (List (List Nat))) = .ok ls := hts.symm.trans (lock_loose lk.gl rfl)
      injection hts with hts
      subst hts
      obtain ⟨a, lv3, pa, xs3, rfl, ha, tv, hpa, pr⟩ := ss
      have s34 := s3.trans s4
      refine ⟨_, rfl, _, rfl, .inl ⟨lg, xs, rfl, SqL.of (s34 _ _ hl2), fun t5 h5 => ⟨Nat.le_of_ble_eq_true rfl, fun t6 h6 => ?_⟩⟩⟩
      have s5 := same_new (o := .tup xs) h5
      have s6 := same_new (o := .tup [lv, V.ref t5]) h6
      have s56 := s5.trans s6
      have S6 := S2.same (s34.trans s56)
      have k5 : (upd H4 t5 (.tup xs)) t5 = some (.tup xs) := upd_same
      have k6 := s6 _ _ k5
      have r5 : Rp (upd (upd H4 t5 (.tup xs)) t6 (.tup [lv, V.ref t5])) (.ref t5) (.tuple (log.map dPr)) := .tup (.inl k6) (prs_rp (paired_mono (fun _ _ r => PrAt.tm (.of (s34.trans s56)) r) pl2))
      have r6 : Rp (upd (upd H4 t5 (.tup xs)) t6 (.tup [lv, V.ref t5])) (.ref t6) (.tuple [.tuple (ts.map dT), .tuple (log.map dPr)]) := .tup (.inl upd_same) (.cons S6.tt.rp (.cons r5 .nil))
      have r7 : Rp (upd (upd H4 t5 (.tup xs)) t6 (.tup [lv, V.ref t5])) (.ref pa) (.tuple (log.map dPr)) := .tup (.inl (s56 _ _ hpa)) (prs_rp (paired_mono (fun _ _ r => PrAt.tm (.of s56) r) pr))
      have r8 : Rp (upd (upd H4 t5 (.tup xs)) t6 (.tup [lv, V.ref t5])) (.ref a) (.tuple [.tuple (ts.map dT), .tuple (log.map dPr)]) := .tup (.inl (s56 _ _ ha)) (.cons (ttk_same s56 tv).tt.rp (.cons r7 .nil))
      exact ⟨.ref a, .ref t6, _, rfl, r8, r6, PlS_both lk.gl ok, fun H7 s7 => ⟨true, rfl, iteF ⟨rfl, S6.same s7⟩⟩⟩
  clear S
  rintro σ' H ⟨rfl, S⟩
  -- the lock's lines
  refine ⟨fun σ' H' => σ' = σC x6 (some (.str (sessTx ls []))) x8 ∧ SnS K C CD TS Hb r sc lg p dk ll pD ns lv ls log log H', ?_, ?_⟩
  · refine ⟨⟨_, rfl⟩, _, rfl, lv, ls, n, rfl, ⟨S.tt, lk.gl, lk.few⟩, fun H1 s1 => ⟨⟨lockTx ls, rfl⟩, lockTx ls, sNl, rfl, rfl, by decide +kernel, by rw [sizeLine_eq]; omega, fun pa hpa => ?_⟩⟩
    rw [split_nl, lockTx_lines lk.gl]
    have s2 := same_new (o := .lst ((ls.map lnT).map V.str)) hpa
    have k2 : (upd H1 pa (.lst ((ls.map lnT).map V.str))) pa = some (.lst ((ls.map lnT).map V.str)) := upd_same
    have s02 := s1.trans s2
    generalize upd H1 pa (.lst ((ls.map lnT).map V.str)) = H2 at *
    refine ⟨pa, rfl, ⟨_, SqL.of k2⟩, fun D hD => lc_genF (J := Itl K pa) (n := ls.length) RStr (fun _ => true) (fun i => ("| " : Str) ++ lnT (ls.getD i [])) (fun _ _ _ _ _ r => r) (by omega) hD
      (fun i H3 hi s3 => ⟨_, .str (lnT (ls.getD i [])), SqL.of (s3 _ _ k2), by rw [List.getElem?_map, List.getElem?_map, getD_of (d := []) hi]; rfl⟩) (fun H3 s3 => ⟨_, SqL.of (s3 _ _ k2), by rw [List.length_map, List.length_map]; exact Nat.le_refl _⟩) (fun i H3 x' H4 hi s3 y => ?_) (fun H3 zs s3 hz pr => ?_)⟩
    · obtain ⟨rfl, hx'⟩ := y
      have hx' := hx' _ (SqL.of (s3 _ _ k2))
      rw [List.getElem?_map, List.getElem?_map, getD_of (d := []) hi] at hx'
      have hx' := (Option.some.inj hx').symm
      subst hx'
      have := lnT_len (hls _ (List.mem_of_getElem? (getD_of (d := []) hi))) n9
      exact ⟨Same.refl _, _, fun Kk q => q, rfl, fun Q q => q _ (Same.refl _), fun hp H5 s5 Q q => ⟨_, rfl, _, _, rfl, rfl, by rw [sizeLine_eq, w2]; omega, q _ H5 (Same.refl _) rfl⟩⟩
    have e1 : ((List.range ls.length).filter fun _ => true).map (fun i => ("| " : Str) ++ lnT (ls.getD i [])) = lkL ls := by
      rw [List.filter_eq_self.mpr fun _ _ => rfl]
      unfold lkL
      conv => rhs; rw [← getDd_range ([] : List Nat) ls, List.map_map]
      rfl
    rw [e1] at pr
    rw [RStr.all pr] at hz
    have sm : ((lkL ls).map (·.length)).sum ≤ 4 * 102 := by
      have h2 := sum_le (fun z : Str => z.length) 102 (l := lkL ls) fun z hz => sessL_mem lk.gl ok.le z (List.mem_append_left _ hz)
      rw [lkL_len] at h2
      omega
    have ll4 := lkL_len ls
    refine ⟨sNl, D, lkL ls, rfl, rfl, .inl (SqL.of hz), by rw [w1]; omega, ?_⟩
    rw [← sessTx_nil]
    exact ⟨rfl, S.same (s02.trans s3)⟩
  clear S
  rintro σ' H ⟨rfl, S⟩
  -- the lines that were said
  refine ⟨fun σ' H' => ∃ y6 y8, σ' = σC y6 (some (.str (sessTx ls log))) y8 ∧ SnS K C CD TS Hb r sc lg p dk ll pD ns lv ls log log H', ?_, ?_⟩
  · obtain ⟨xs, hl, pl⟩ := S.lgs
    have lg' := Paired.length pl
    refine ⟨_, rfl, lg, rfl, ⟨_, SqL.of hl⟩, for_list (K := K) (a := lg) (xs := xs) (fun i σ H' => ∃ y6 y8, σ = σC y6 (some (.str (sessTx ls (log.take i)))) y8 ∧ Same H H')
      ⟨_, _, rfl, Same.refl _⟩ (fun i σ H' _ ⟨_, _, _, s⟩ => SqL.of (s _ _ hl)) ?_ ?_⟩
    · rintro i xv σ H' hi ⟨y6, y8, rfl, s'⟩
      obtain ⟨b, hb, tq, rfl, htq⟩ := Lt.Paired.getL pl hi
      obtain ⟨h1, h2⟩ := ok.le b (List.mem_of_getElem? hb)
      have ht : log.take (i + 1) = log.take i ++ [b] := by rw [List.take_add_one, hb]; rfl
      have w3 : ("\n> " : Str).length = 3 := by decide +kernel
      have w4 : ("\n< " : Str).length = 3 := by decide +kernel
      have xi := sessTx_len lk.gl (ok.take i)
      refine ⟨tq, _, rfl, SqT.of (s' _ _ htq), rfl, _, _, rfl, _, _, rfl, rfl, ?_⟩
      refine ⟨_, rfl, _, _, rfl, rfl, by rw [sizeLine_eq, w3]; omega, _, rfl, _, _, rfl, rfl, by rw [app_len, w3, sizeLine_eq]; omega, _, _, rfl, rfl, by rw [app_len, app_len, w3, w4, sizeLine_eq]; omega, _, rfl, _, _, rfl, rfl, by rw [app_len, app_len, app_len, w3, w4, sizeLine_eq]; omega, ?_⟩
      refine ⟨some (.str b.1), some (.str b.2), ?_, s'⟩
      rw [ht, sessTx_snoc lk.gl]
      rfl
    · rintro σ H' ⟨y6, y8, rfl, s'⟩
      rw [lg', List.take_length]
      exact ⟨_, _, rfl, S.same s'⟩
  clear S
  rintro σ' H ⟨y6, y8, rfl, S⟩
  -- as it is due, nothing unlike
  refine ⟨fun σ' H' => σ' = σC y6 (some (.str (sessTx ls log))) y8 ∧ SnS K C CD TS Hb r sc lg p dk ll pD ns lv ls log log H', ?_, ?_⟩
  · refine ⟨_, rfl, _, rfl, rfl, false, by rw [decide_eq_true rfl]; rfl, iteF ⟨_, rfl, _, rfl, by omega, ?_⟩⟩
    show FuOk CB noL H _ E0 (splS (sessTx ls log) sNl)
    rw [sess_lines lk.gl ok.nl]
    unfold FuOk
    rw [stL_sess, lkTx_sess, saidL_sess, unl_what log 0 ok.an]
    refine .inr ⟨fun i h1 h2 => gdM_sess ls _ i h1 (by omega), .inr ⟨by omega, by omega, ls, n, lock_loose lk.gl rfl, lk, by omega, fun b hb => ?_, fun H4 s4 => ?_⟩⟩
    · obtain ⟨k1, k2, k3, k4⟩ := lines9_ok _ (ok.ln b hb)
      exact ⟨by omega, k2, k3, k4, (ok.sOk b hb).2⟩
    · exact ⟨false, congrArg V.bl (show (!decide (V.non = V.non)) = false by rw [decide_eq_true rfl]; rfl), iteF ⟨rfl, S.same s4⟩⟩
  clear S
  rintro σ' H ⟨rfl, S⟩
  -- its rows
  refine ⟨fun σ' H' => ∃ rw_ Hr, σ' = sigC x0 lv lg x3 x4 x5 y6 (some (.str (sessTx ls log))) y8 x9 x10 r (some (.ref rw_)) p (some (.str (sessTx ls log))) ∧ SnS K C CD TS Hb r sc lg p dk ll pD ns lv ls log log H' ∧ RowAt K Hr r sc ns ∧ Hr rw_ = none ∧ lg ≠ rw_ ∧ ll ≠ rw_ ∧ H' rw_ = some (.lst ((sessL ls log).map V.str)), ?_, ?_⟩
  · refine ⟨_, rfl, ⟨_, rfl⟩, _, _, rfl, rfl, by decide +kernel, by rw [sizeLine_eq]; omega, fun pa hpa => ?_⟩
    rw [split_nl, sess_lines lk.gl ok.nl]
    obtain ⟨xs, hl, _⟩ := S.lgs
    obtain ⟨ys, hl2, _⟩ := S.ss.log
    exact ⟨pa, H, rfl, S.same (same_new hpa), S.row, hpa, ne_of_none hl hpa, ne_of_none hl2 hpa, upd_same⟩
  clear S
  rintro σ' H ⟨rw_, Hr, rfl, S, ra0, n0, n1, n2', hrw⟩
  -- where the lines start
  refine ⟨fun σ' H' => σ' = sigE x0 (some lv) x3 x4 x5 y6 (some (.str (sessTx ls log))) y8 (nI ls.length) x10 rw_ lg r p (sessTx ls log) ∧ H' = H, ?_, ?_⟩
  · obtain ⟨xs, hl, pl⟩ := S.lgs
    have lg' := Paired.length pl
    refine ⟨_, rfl, rw_, _, rfl, .inl (SqL.of hrw), _, rfl, lg, _, rfl, .inl (SqL.of hl), 2, _, rfl, rfl, by unfold CMul; omega, _, _, rfl, rfl, ?_⟩
    refine ⟨congrArg (fun v => sigE x0 (some lv) x3 x4 x5 y6 (some (.str (sessTx ls log))) y8 v x10 rw_ lg r p (sessTx ls log)) (congrArg V.int ?_), rfl⟩
    rw [List.length_map, hlen, lg']
    omega
  rintro σ' H' ⟨rfl, rfl⟩
  exact qe D H' Hb Hr _ _ _ _ _ _ _ _ _ r sc lg p dk ll pD rw_ ns lv ls n log S lk ok ra0 n0 n1 n2' hrw q
end
end Lt

set_option Elab.async false
set_option linter.all false
set_option maxRecDepth 100000
set_option maxHeartbeats 4000000
/-! k15: the law -/
namespace Lt
open PySem PySem.Spec PyProof.Rows L2 NdefX LamX LmX MaX
open TL (tl)
abbrev odds5 : List Str := ["wait", "read 0", "program say:zero 0:get 0:go 0", "keep", "share"]
abbrev odds4 : List Str := ["held", "sing", "", "touch 0"]
def kinds15 : List Str := ["four", "square", "three", "klein"]
section
variable {P : Program} {w : World} {K : PySem.W.Frag} {mg : Str → Option Value} {base : Heap} {C CD CB CS c Pt : Addr}
theorem law_all {TS : List (Addr × Str)} {f0 : Addr} {A : Around} {outer : List Env} {s0 : Shared} {H0 : Hp} {E0' : XK} (hr : Room 13 (LX P w K mg base f0 (.ref c) A outer s0 H0 E0').A) (TB : TabB base mg c Pt) (hm : (Pt, q_lam) ∈ TS) (hone : ∀ p ∈ TS, p.1 = Pt → p.2 = q_lam)
    (L : LawHas P w K mg base C CD CB CS) :
    ∃ t, PSs (LX P w K mg base f0 (.ref c) A outer s0 H0 E0') (defBody s_law) t ∧ ∀ (D : Ends) (vs : List V) (Q : VK), D.rt = Q → spLamN K TS vs H0 Q C8.E0 → t D (start lawN vs) H0 := by
  have hu := hr.units
  have B := L.bi
  have hr1 : Room 1 (LX P w K mg base f0 (.ref c) A outer s0 H0 E0').A := hr.mono (by decide)
  have hr2 : Room 2 (LX P w K mg base f0 (.ref c) A outer s0 H0 E0').A := hr.mono (by decide)
  have hr3 : Room 3 (LX P w K mg base f0 (.ref c) A outer s0 H0 E0').A := hr.mono (by decide)
  have hr4 : Room 4 (LX P w K mg base f0 (.ref c) A outer s0 H0 E0').A := hr.mono (by decide)
  have hr6 : Room 6 (LX P w K mg base f0 (.ref c) A outer s0 H0 E0').A := hr.mono (by decide)
  have hr8 : Room 8 (LX P w K mg base f0 (.ref c) A outer s0 H0 E0').A := hr.mono (by decide)
  have hr10 : Room 10 (LX P w K mg base f0 (.ref c) A outer s0 H0 E0').A := hr.mono (by decide)
  obtain ⟨tc, hc, qc⟩ := law_c (outer := outer) (s0 := s0) (H0 := H0) (E0' := E0') hr TB hm hone L
  refine ⟨_, pss_cons (ps_set (i := 11) sc_law.nd rfl (Or.inr rfl) (pe_lst (pa_cons (pv 0) (pa_cons pe_int (pa_cons pe_int (pa_cons pe_int pa_nil))))))
    (C8.pss_cut (ps_par (i := 1) (j := 2) (by rfl) sc_law.nd rfl rfl (by decide) rfl rfl (pa_cons (pe_has L.lock hr4 (by rfl) (pa_cons (pv 11) (pa_cons (pe_lst (pa_cons pe_str (pa_cons pe_str (pa_cons pe_str (pa_cons pe_str pa_nil))))) pa_nil))) (pa_cons (pe_lst pa_nil) pa_nil)) (by rfl))
    (C8.pss_cut (ps_asg (pe_tup (pa_cons (pe_hasI L.si hr10 (by rfl) passL (pa_cons (pe_hasL L.wl hr6 (by rfl) (pa_cons (pv 1) pa_nil)) pa_nil)) (pa_cons (pe_hasI0 L.di hr2 (by rfl) passL) pa_nil))) (pg_tup (by rfl) (pgs_cons (pg_name (i := 13) sc_law.nd rfl (Or.inr rfl)) (pgs_cons (pg_name (i := 3) sc_law.nd rfl (Or.inl rfl)) pgs_nil))))
    (C8.pss_cut (ps_expr (pe_hasM L.take L.td.cl hr8 passL (pv 3) (pa_cons (pe_hasL L.wl hr6 (by rfl) (pa_cons (pv 1) pa_nil)) pa_nil)))
    (C8.pss_cut (ps_for (passes_of rfl) rfl (pi_range1 (by rfl) B.range (pa_cons (pe_has L.taken hr1 (by rfl) (pa_cons (pv 11) (pa_cons pe_int pa_nil))) pa_nil)) (pg_name (i := 4) sc_law.nd rfl (Or.inl rfl))
      (pss_cons (ps_set (i := 5) sc_law.nd rfl (Or.inl rfl) (pe_lst (pa_cons pe_str (pa_cons pe_str (pa_cons pe_str (pa_cons pe_str (pa_cons pe_str pa_nil)))))))
      (pss_cons (ps_set (i := 6) sc_law.nd rfl (Or.inl rfl) (pe_has L.pick hr2 (by rfl) (pa_cons (pv 11) (pa_cons (pe_op op_cat (pv 5) (pe_lst (pa_cons pe_str (pa_cons pe_str (pa_cons pe_str (pa_cons pe_str pa_nil)))))) pa_nil))))
      (pss_cons (ps_set (i := 7) sc_law.nd rfl (Or.inl rfl) (pe_hasM L.dsay L.td.cl hr2 passL (pv 3) (pa_cons (pv 6) pa_nil)))
      (pss_cons (ps_if (pt_cmpR op_ne (pe_hasM L.say L.ts.cl hr3 passL (pv 13) (pa_cons (pv 6) pa_nil)) (pv 7) (nomark _)) (pss_one (ps_ret pe_bl)) pss_nil)
      (pss_one (ps_expr (pe_bm PySem.F.plainAttrs_list PySem.F.slot_list_append PySem.F.type_list_append mt_append (pv 2) (pa_cons (pe_tup (pa_cons (pv 6) (pa_cons (pv 7) pa_nil))) pa_nil)))))))))
    hc)))), ?_⟩
  rintro D vs Q rfl ⟨sc, ns, rfl, hsc, hT, q⟩
  refine ⟨_, rfl, Nat.le_of_ble_eq_true rfl, fun r hr0 => ?_⟩
  have s1 := same_new (o := .lst [V.ref sc, V.int 0, V.int 7715, V.int 0]) hr0
  have ra1 : RowAt K (upd H0 r (.lst [V.ref sc, V.int 0, V.int 7715, V.int 0])) r sc ns := ⟨0, 7715, 0, upd_same, Same.seq s1 hsc, by omega, by omega, by omega⟩
  have hT1 := hT.ext s1
  generalize upd H0 r (.lst [V.ref sc, V.int 0, V.int 7715, V.int 0]) = H1 at *
  have hl14 : ∀ ls n, GL ls n → (lockTx ls).length ≤ 80000 := fun ls n g => by have := lockTx_len g; omega
  -- the lock, an empty log
  refine ⟨fun σ' H' => ∃ lv lg ls n, σ' = [some (.ref sc), some lv, some (.ref lg), none, none, none, none, none, none, none, none, some (.ref r), none, none, none] ∧ (∃ Hb, RowAt K Hb r sc ns ∧ Hb lg = none ∧ Same Hb H') ∧ TT H' lv ls ∧ Lk ls n ∧ H' lg = some (.lst []) ∧ Tabs TS H', ?_, ?_⟩
  · refine ⟨_, rfl, by show 4 ≤ sizeLine; decide, fun kl hkl => ?_⟩
    have s2 := same_new (o := .lst (kinds15.map V.str)) hkl
    have nkr : kl ≠ r := (ra1.ne hkl).symm
    refine ⟨r, kl, sc, ns, kinds15, rfl, ra1.step s2, upd_same, nkr, by decide, by decide, by decide, fun lv H3 ls n l3 gl fw st3 ra3 tt3 => ?_⟩
    have hT3 := Tabs.rowX (ra1.step s2) st3 (hT1.ext s2)
    refine ⟨Nat.zero_le _, fun lg hlg => ?_⟩
    have s4 := same_new (o := .lst []) hlg
    exact ⟨lv, .ref lg, rfl, lv, lg, ls, n, rfl, ⟨H3, ra3, hlg, s4⟩, tt3.tm (.of s4), ⟨gl, fw.mono (by omega)⟩, upd_same, hT3.ext s4⟩
  rintro σ' H ⟨lv, lg, ls, n, rfl, ⟨Hb, hb, hlg0, sb⟩, tt, lk, hlg, hT2⟩
  -- a session, a desk
  refine ⟨fun σ' H' => ∃ p dk ll pD Hm, σ' = [some (.ref sc), some lv, some (.ref lg), some (.ref pD), none, none, none, none, none, none, none, some (.ref r), none, some (.ref p), none] ∧ SnS K C CD TS Hb r sc lg p dk ll dk ns lv ls [] [] Hm ∧ Hm pD = none ∧ StepR pD Hm H' ∧ ∃ dx, H' pD = some (.ins CD dx (dkF .non .non)), ?_, ?_⟩
  · refine ⟨_, rfl, lv, ls, n, rfl, ⟨tt, lk.gl, lk.few⟩, fun H2 s2 => fun px dx npx ndx nex => ?_⟩
    refine ⟨px, dx, lockTx ls, ls, n, rfl, upd_same, hl14 _ _ lk.gl, lock_loose lk.gl rfl, lk, fun dk ll H3 st3 nd3 nl3 S3 => ⟨rfl, ?_⟩⟩
    have s23 : Same H2 H3 := fun b o hb => st3 b o (ne_of_none hb npx) ((upd_ne (ne_of_none hb npx)).trans ((upd_ne (ne_of_none hb ndx)).trans hb))
    have s03 := s2.trans s23
    have nll : H2 ll = none := by
      cases e : H2 ll with
      | none => rfl
      | some o =>
        rw [(upd_ne (ne_of_none e npx)).trans ((upd_ne (ne_of_none e ndx)).trans e)] at nl3
        cases nl3
    have nll0 : H ll = none := s2.free nll
    have nllb : Hb ll = none := sb.free nll0
    have nlg : ll ≠ lg := (ne_of_none hlg nll0).symm
    obtain ⟨dxk, u, v, hdk⟩ := id S3.desk
    have SS : SnS K C CD TS Hb r sc lg px dk ll dk ns lv ls [] [] H3 := ⟨hb, hlg0, nllb, nlg, (hb.step sb).step s03, tt.tm (.of s03), ⟨[], s03 _ _ hlg, .nil⟩, S3, ⟨dxk, u, v, hdk⟩, hT2.ext s03⟩
    refine fun pD dD npD ndD neD => ⟨pD, dD, rfl, upd_same, fun H4 st4 h4 => ⟨rfl, Nat.le_of_ble_eq_true rfl, fun tp htp => ?_⟩⟩
    have s5 := same_new (o := .tup [V.ref px, V.ref pD]) htp
    refine ⟨tp, _, rfl, SqT.of upd_same, rfl, _, _, rfl, _, _, rfl, rfl, ?_⟩
    refine ⟨px, dk, ll, pD, H3, rfl, SS, npD, ?_, dD, s5 _ _ h4⟩
    exact fun b o nb e => s5 b o (st4 b o nb ((upd_ne nb).trans ((upd_ne (ne_of_none e ndD)).trans e)))
  rintro σ' H2 ⟨p, dk, ll, pD, Hm, rfl, SS, npD, stD, dx, hpD⟩
  -- the desk takes the lock
  refine ⟨fun σ' H' => σ' = [some (.ref sc), some lv, some (.ref lg), some (.ref pD), none, none, none, none, none, none, none, some (.ref r), none, some (.ref p), none] ∧ SnS K C CD TS Hb r sc lg p dk ll pD ns lv ls [] [] H', ?_, ?_⟩
  · have sD : Same Hm H2 := fun b o h => stD b o (ne_of_none h npD) h
    refine ⟨_, rfl, pD, dx, _, rfl, hpD, rfl, _, rfl, lv, ls, n, rfl, ⟨SS.tt.tm (.of sD), lk.gl, lk.few⟩, fun H3 s3 => ?_⟩
    refine ⟨pD, dx, .non, .non, lockTx ls, ls, n, rfl, s3 _ _ hpD, hl14 _ _ lk.gl, lock_loose lk.gl rfl, lk, fun u v H4 st4 h4 => ⟨rfl, ?_⟩⟩
    have sF : Same Hm H4 := fun b o h => st4 b o (ne_of_none h npD) (s3 _ _ (sD _ _ h))
    have S4 := SS.same sF
    exact ⟨S4.hb, S4.hlg, S4.hll, S4.ne, S4.row, S4.tt, S4.lgs, S4.ss, ⟨dx, u, v, h4⟩, S4.tb⟩
  rintro σ' H3 ⟨rfl, S3⟩
  -- what is said
  refine ⟨fun σ' H' => ∃ y4 y5 y6 y7 log, σ' = [some (.ref sc), some lv, some (.ref lg), some (.ref pD), y4, y5, y6, y7, none, none, none, some (.ref r), none, some (.ref p), none] ∧ SnS K C CD TS Hb r sc lg p dk ll pD ns lv ls log log H' ∧ LogOk log, ?_, ?_⟩
  · refine ⟨_, rfl, r, sc, ns, 10, rfl, S3.row, by decide, by decide, fun m H4 hm10 st4 ra4 => ?_⟩
    have S4 := S3.rowX st4 ra4
    refine ⟨(m : Int), rfl, by omega, by omega, for_range (lo := 0) (n := (m : Int).toNat) (fun i σ H' => ∃ y4 y5 y6 y7 log, σ = [some (.ref sc), some lv, some (.ref lg), some (.ref pD), y4, y5, y6, y7, none, none, none, some (.ref r), none, some (.ref p), none] ∧ SnS K C CD TS Hb r sc lg p dk ll pD ns lv ls log log H' ∧ log.length = i ∧ (∀ b ∈ log, b.1 ∈ lines9) ∧ ∀ b ∈ log, b.2 = ("what" : Str))
      ⟨_, _, _, _, [], rfl, S4, rfl, (fun b h => by cases h), (fun b h => by cases h)⟩ ?_ ?_⟩
    · rintro i σ H' hi ⟨y4, y5, y6, y7, log, rfl, S, hlen, h9, hw⟩
      have hi9 : i < 9 := by omega
      refine ⟨Nat.le_of_ble_eq_true rfl, fun l1 h1 => ⟨_, rfl, _, rfl, Nat.le_of_ble_eq_true rfl, fun l2 h2 => ?_⟩⟩
      have s1 := same_new (o := .lst (odds5.map V.str)) h1
      have k1 : (upd H' l1 (.lst (odds5.map V.str))) l1 = some (.lst (odds5.map V.str)) := upd_same
      have s2 := same_new (o := .lst (odds4.map V.str)) h2
      have k2 := s2 _ _ k1
      refine ⟨l1, l2, _, _, rfl, rfl, k2, upd_same, Nat.le_of_ble_eq_true rfl, fun l3 h3 => ?_⟩
      have s3 := same_new (o := .lst (lines9.map V.str)) h3
      have k3 : (upd (upd (upd H' l1 (.lst (odds5.map V.str))) l2 (.lst (odds4.map V.str))) l3 (.lst (lines9.map V.str))) l3 = some (.lst (lines9.map V.str)) := upd_same
      have S5 := S.same (s1.trans (s2.trans s3))
      have n3 : l3 ≠ r := ((S.same (s1.trans s2)).row.ne h3).symm
      refine ⟨r, l3, sc, ns, lines9.map V.str, rfl, S5.row, k3, n3, by show 1 ≤ 9; decide, by show 9 ≤ 1000; decide, fun x H6 hx st6 ra6 => ?_⟩
      obtain ⟨z, hz, rfl⟩ := List.mem_map.mp hx
      obtain ⟨z1, z2, z3, z4⟩ := lines9_ok z hz
      have S6 := S5.rowX st6 ra6
      obtain ⟨dx, u, v, hds⟩ := S6.ds
      refine ⟨_, rfl, pD, dx, _, rfl, hds, rfl, _, rfl, .ref pD, z, rfl, by omega, z3, fun H7 s7 => ?_⟩
      have S7 := S6.same s7
      obtain ⟨dx2, lv2, hin, _⟩ := id S7.ss.ins
      refine ⟨_, rfl, p, dx2, _, rfl, hin, rfl, _, rfl, p, dk, ll, ls, log, z, rfl, S7.ss, by omega, by omega, fun h => absurd h z2, fun _ => ⟨z3, fun H8 st8 SS8 => ?_⟩⟩
      have S8 := S7.llX st8 SS8
      refine ⟨_, rfl, rfl, false, by rw [decide_eq_true rfl]; rfl, iteF ?_⟩
      obtain ⟨xs, hl, pl⟩ := S8.lgs
      have lx := Paired.length pl
      refine ⟨_, rfl, .inl ⟨rfl, _, SqL.of hl⟩, _, rfl, _, rfl, Nat.le_of_ble_eq_true rfl, fun tp htp => ?_⟩
      have s9 := same_new (o := .tup [V.str z, V.str ("what" : Str)]) htp
      have S9 := S8.same s9
      refine ⟨lg, xs, .ref tp, rfl, rfl, s9 _ _ hl, by rw [lx, sizeLine_eq]; omega, ?_⟩
      have S10 := S9.lgX (s9 _ _ hl) (paired_mono (fun _ _ r => PrAt.tm (.of s9) r) pl) (b := (z, ("what" : Str))) ⟨tp, rfl, upd_same⟩
      refine ⟨_, _, _, _, log ++ [(z, ("what" : Str))], rfl, S10, by rw [List.length_append, hlen]; rfl, fun b hb => ?_, fun b hb => ?_⟩
      · rcases List.mem_append.mp hb with h | h
        · exact h9 b h
        · rw [List.mem_singleton.mp h]
          exact hz
      · rcases List.mem_append.mp hb with h | h
        · exact hw b h
        · rw [List.mem_singleton.mp h]
    · rintro σ H' ⟨y4, y5, y6, y7, log, rfl, S, hlen, h9, hw⟩
      exact ⟨_, _, _, _, log, rfl, S, ⟨by omega, h9, hw⟩⟩
  rintro σ' H4 ⟨y4, y5, y6, y7, log, rfl, S4, ok⟩
  exact qc D H4 Hb _ _ _ _ _ _ _ _ _ _ _ r sc lg p dk ll pD ns lv ls n log S4 lk ok q
end
end Lt

set_option Elab.async false
set_option linter.all false
set_option maxRecDepth 100000
set_option maxHeartbeats 2000000
namespace Lt
open PySem PySem.Spec PyProof.Rows L2 NdefX LamX LmX MaX
section
variable {P : Program} {w : World} {K : PySem.W.Frag} {mg : Str → Option Value} {CL CB CM CS CI CW CD C c Pt : Addr}
theorem Cn.gl6 {x : Str} {i : Int} (h : Cn mg x i) : ∃ u, mg x = some u ∧ RelV (.int i) u := let ⟨t, h⟩ := h; ⟨_, h, ⟨t, rfl⟩⟩
theorem Cs.gl6 {x z : Str} (h : Cs mg x z) : ∃ u, mg x = some u ∧ RelV (.str z) u := let ⟨t, h⟩ := h; ⟨_, h, ⟨t, rfl⟩⟩
theorem TopFs.has (T : TopFs w K mg CL CB CM CS CI CW CD C) (base : Heap) : LawHas P w K mg base C CD CB CS := by
  have B := T.bi
  have eL : ErrI P w K mg base "BadLock" "place" CL := T.e_BadLock.errI init_BadLock
  have eM : ErrI P w K mg base "TooMany" "most" CM := T.e_TooMany.errI init_TooMany
  have eB : ErrI2 P w K mg base "BadLine" "line" "place" CB := T.e_BadLine.errI2 init_BadLine
  have i1 : Has P w K mg base CX0 1 "is_number" _ _ := has_is_number T.f_is_number B
  have i2 := has_are_numbers T.f_are_numbers B i1
  have i3 := has_is_permutation T.f_is_permutation B i2
  have i4 : Has P w K mg base CX0 1 "still_of" _ _ := has_still_of T.f_still_of B
  have i5 : Has P w K mg base CX0 1 "product_of" _ _ := has_product_of T.f_product_of B
  have i8 := has_words_of T.f_words_of B T.c_MOST_TURNS i4 i5
  have i16 := has_check_lock T.f_check_lock B eL T.c_MOST_GIVEN T.c_FEWEST_PLACES T.c_MOST_PLACES i3
  have i17 := has_made_words T.f_made_words B eM T.c_MOST_TURNS i16 i8
  have D : DialT K mg CI := ⟨T.k_Dial.cl, T.a_Dial_made, T.a_Dial_stood, T.i_Dial, T.m_Dial_turn, T.m_Dial_step, T.m_Dial_undo, T.m_Dial_home, T.p_Dial_stands, T.p_Dial_done⟩
  have d0 : HasI P w K mg base (L2.CX P w) 6 CI "Dial" _ _ := has_DInit D B i17 i4
  have TW : WlT K mg CW := ⟨T.k_WordLine.cl, T.a_WordLine_number, T.a_WordLine_words, T.a_WordLine_at, T.i_WordLine, T.m_WordLine_take, T.m_WordLine_take_places, T.m_WordLine_end⟩
  have v0 : HasI P w K mg base (L2.CX P w) 1 CW "WordLine" _ _ := has_WInit TW
  have v1 := has_WTake TW B eB
  have v2 := has_WPlaces TW B eB v1
  have v4 := has_WEnd TW B eB
  have u1 : Has P w K mg base (L2.CX P w) 1 "check_text" _ _ := has_check_text T.f_check_text B T.e_BadString
  have u2 : Has P w K mg base CX0 1 "spaced" _ _ := has_spaced T.f_spaced B
  have u3 : Has P w K mg base CX0 1 "words_in" _ _ := has_words_in T.f_words_in
  have u4 := has_worded_lines T.f_worded_lines B u1 u3 v0
  have wl := has_write_lock T.f_write_lock B i17 u2
  have rl := has_read_lock T.f_read_lock B T.b_max T.b_min TW eB T.c_MOST_GIVEN.gl6 T.c_FEWEST_PLACES.gl6 T.c_MOST_PLACES.gl6 u4 v1 v2 v4
  have TD : DeskT K mg CD := ⟨T.k_Desk.cl, T.a_Desk_lock, T.a_Desk_dial, T.i_Desk, T.m_Desk_take_lock, T.m_Desk_say⟩
  have TS : SessT K mg C := ⟨T.k_Session.cl, T.a_Session_desk, T.a_Session_lock, T.a_Session_log, T.i_Session, T.m_Session_say, T.m_Session_text, T.p_Session_log⟩
  have n1 : Has P w K mg base CX0 1 "is_known" _ (spKnownW noL) := has_is_known T.f_is_known B T.d_LOCK_ANSWERS T.d_DIAL_ANSWERS
  have n2 : HasI P w K mg base (L2.CX P w) 1 CD "Desk" _ _ := has_DkInit TD
  have n3 := has_DkTake TD rl d0
  have n4 := has_DkSay TD B u3 n1
  have n5 := has_SsInit TS TD rl n2 n3
  have n6 := has_SsSay TS TD B T.e_BadString n4
  have G1 := T.c_LOCK_MARK.gl6
  have G2 := T.c_LINE_MARK.gl6
  have G3 := T.c_ANSWER_MARK.gl6
  have n7 := has_SsText (C := C) (CD := CD) TS G1 G2 G3 wl
  have n8 : HasP P w K mg base CX0 1 C "log" (spSsLog C CD) := has_SsLog TS B
  have n9 : Has P w K mg base CX0 1 "unmarked" _ _ := has_unmarked T.f_unmarked B G2
  have n10 := has_check_marks T.f_check_marks B eB G2 G3
  have n11 := has_read_session T.f_read_session B T.b_zip B.list G1 u1 n10 n9 rl
  have n12 := has_first_unlike T.f_first_unlike B T.b_zip TS n11 wl n5 n6 n8
  have j1 : Has P w K mg base CX0 1 "_law_taken" _ _ := has_law_taken T.f_law_taken B
  have j2 := has_law_pick T.f_law_pick B j1
  have j5 := has_law_permutation T.f_law_permutation B j1
  have j10 := has_law_known T.f_law_known B j2 j5
  exact { bi := B, ts := TS, td := TD, wl := wl, si := n5, say := n6, text := n7, log := n8, di := n2, take := n3, dsay := n4, rs := n11, fu := n12, eB := eB, eS := T.e_BadString, ne := T.n_BadString_BadLine, said := T.f_law_said_session,
          alike := fun k => has_law_alikeS T.f_law_alike B k, taken := j1, pick := j2, lock := has_law_lock T.f_law_lock B j1 j10 j5 }
theorem law_top (T : TopFs w K mg CL CB CM CS CI CW CD C) {f0 : Addr} (base : Heap) (TB : TabB base mg c Pt) (A : Around) (outer : List Env) (s0 : Shared) (H0 : Hp) (E0' : XK) (hr : Room 13 (LX P w K mg base f0 (.ref c) A outer s0 H0 E0').A) :
    ∃ t, PSs (LX P w K mg base f0 (.ref c) A outer s0 H0 E0') (defBody s_law) t ∧ ∀ (D : Ends) (vs : List V) (Q : VK), D.rt = Q → spLamN K [(Pt, q_lam)] vs H0 Q C8.E0 → t D (start lawN vs) H0 :=
  law_all hr TB (List.mem_cons_self ..) (fun p hp _ => by rw [List.mem_singleton.mp hp]) (T.has base)
end
end Lt

set_option Elab.async false
set_option linter.all false
set_option maxRecDepth 100000
set_option maxHeartbeats 4000000
namespace Lt
open PySem PySem.Spec PyProof.Rows L2 NdefX LamX LmX
theorem kdnY {w : World} {K : PySem.W.Frag} {mg : Str → Option Value} {x : Str} {a : Addr} (g : mg x = some (.ref a)) (t : ∃ es n, KDict K w a es n) (b : noB K a = true) : Kdn K w mg x noL := let ⟨es, n, k⟩ := t; ⟨a, es, n, g, k, fun z hz => He.eqO_ok (List.all_eq_true.mp b z (show z ∈ noY from hz))⟩
theorem topFs {w : World} {h : Heap} {K : PySem.W.Frag} {mg : Str → Option Value} (c : SaysY fxl tsl tfl bsl w h K) (X : K.In h) (G : h.Ns mainGlobals mg) : TopFs w K mg (He.ga K "BadLock") (He.ga K "BadLine") (He.ga K "TooMany") (He.ga K "BadString") (He.ga K "Dial") (He.ga K "WordLine") (He.ga K "Desk") (He.ga K "Session") :=
  { bi := { tuple := He.free_ok X G (c.b 0 rfl), list := He.free_ok X G (c.b 1 rfl), range := He.free_ok X G (c.b 2 rfl), len := He.free_ok X G (c.b 3 rfl), sorted := He.free_ok X G (c.b 4 rfl), enumerate := He.free_ok X G (c.b 5 rfl), isinstance := He.free_ok X G (c.b 6 rfl), all := He.free_ok X G (c.b 7 rfl), set := He.free_ok X G (c.b 8 rfl), int := He.free_ok X G (c.b 9 rfl), bool := He.free_ok X G (c.b 10 rfl), str := He.free_ok X G (c.b 11 rfl) },
    b_sum := He.free_ok X G (c.b 12 rfl),
    b_zip := He.free_ok X G (c.b 13 rfl),
    b_min := He.free_ok X G (c.b 14 rfl),
    b_max := He.free_ok X G (c.b 15 rfl),
    b_reversed := He.free_ok X G (c.b 16 rfl),
    c_MOST_TURNS := He.int_ok X G (c.b 17 rfl),
    c_MOST_GIVEN := He.int_ok X G (c.b 18 rfl),
    c_FEWEST_PLACES := He.int_ok X G (c.b 19 rfl),
    c_MOST_PLACES := He.int_ok X G (c.b 20 rfl),
    c_LOCK_MARK := He.str_ok X G (c.b 21 rfl),
    c_LINE_MARK := He.str_ok X G (c.b 22 rfl),
    c_ANSWER_MARK := He.str_ok X G (c.b 23 rfl),
    d_LOCK_ANSWERS := kdnY (He.glo_ok X G (c.b 24 rfl)) (c.t 0 rfl) (c.b 25 rfl),
    d_DIAL_ANSWERS := kdnY (He.glo_ok X G (c.b 26 rfl)) (c.t 1 rfl) (c.b 27 rfl),
    e_BadLock := err1Y X G (c.b 28 rfl) (c.f 0 rfl) (fun _ _ _ _ _ _ us hl => match us, hl with | [_, _], _ => rfl),
    e_BadLine := err2Y X G (c.b 29 rfl) (c.f 1 rfl) (fun _ _ _ _ _ _ us hl => match us, hl with | [_, _, _], _ => rfl),
    e_TooMany := err1Y X G (c.b 30 rfl) (c.f 2 rfl) (fun _ _ _ _ _ _ us hl => match us, hl with | [_, _], _ => rfl),
    e_BadString := err0Y X G (c.b 31 rfl),
    n_BadString_BadLine := He.exm_ok (c.b 32 rfl),
    k_Dial := clsY X G (c.b 33 rfl),
    a_Dial_made := He.noat_ok (c.b 34 rfl),
    a_Dial_stood := He.noat_ok (c.b 35 rfl),
    i_Dial := initY X G (c.b 36 rfl) (c.b 37 rfl) (c.f 3 rfl) (fun _ _ _ _ _ _ us hl => match us, hl with | [_, _], _ => rfl),
    m_Dial_turn := methY (c.b 38 rfl) (c.f 4 rfl) (fun _ _ _ _ _ _ us hl => match us, hl with | [_, _], _ => rfl),
    m_Dial_step := methY (c.b 39 rfl) (c.f 5 rfl) (fun _ _ _ _ _ _ us hl => match us, hl with | [_, _, _], _ => rfl),
    m_Dial_undo := methY (c.b 40 rfl) (c.f 6 rfl) (fun _ _ _ _ _ _ us hl => match us, hl with | [_], _ => rfl),
    m_Dial_home := methY (c.b 41 rfl) (c.f 7 rfl) (fun _ _ _ _ _ _ us hl => match us, hl with | [_], _ => rfl),
    p_Dial_stands := propY (c.b 42 rfl) (c.f 8 rfl) (fun _ _ _ _ _ _ us hl => match us, hl with | [_], _ => rfl),
    p_Dial_done := propY (c.b 43 rfl) (c.f 9 rfl) (fun _ _ _ _ _ _ us hl => match us, hl with | [_], _ => rfl),
    k_WordLine := clsY X G (c.b 44 rfl),
    a_WordLine_at := He.noat_ok (c.b 45 rfl),
    a_WordLine_number := He.noat_ok (c.b 46 rfl),
    a_WordLine_words := He.noat_ok (c.b 47 rfl),
    i_WordLine := initY X G (c.b 48 rfl) (c.b 49 rfl) (c.f 10 rfl) (fun _ _ _ _ _ _ us hl => match us, hl with | [_, _, _], _ => rfl),
    m_WordLine_take := methY (c.b 50 rfl) (c.f 11 rfl) (fun _ _ _ _ _ _ us hl => match us, hl with | [_, _], _ => rfl),
    m_WordLine_take_places := methY (c.b 51 rfl) (c.f 12 rfl) (fun _ _ _ _ _ _ us hl => match us, hl with | [_, _], _ => rfl),
    m_WordLine_take_turn := methY (c.b 52 rfl) (c.f 13 rfl) (fun _ _ _ _ _ _ us hl => match us, hl with | [_, _, _], _ => rfl),
    m_WordLine_end := methY (c.b 53 rfl) (c.f 14 rfl) (fun _ _ _ _ _ _ us hl => match us, hl with | [_], _ => rfl),
    k_Desk := clsY X G (c.b 54 rfl),
    a_Desk_dial := He.noat_ok (c.b 55 rfl),
    a_Desk_lock := He.noat_ok (c.b 56 rfl),
    i_Desk := initY X G (c.b 57 rfl) (c.b 58 rfl) (c.f 15 rfl) (fun _ _ _ _ _ _ us hl => match us, hl with | [_], _ => rfl),
    m_Desk_take_lock := methY (c.b 59 rfl) (c.f 16 rfl) (fun _ _ _ _ _ _ us hl => match us, hl with | [_, _], _ => rfl),
    m_Desk_say := methY (c.b 60 rfl) (c.f 17 rfl) (fun _ _ _ _ _ _ us hl => match us, hl with | [_, _], _ => rfl),
    k_Session := clsY X G (c.b 61 rfl),
    a_Session_desk := He.noat_ok (c.b 62 rfl),
    a_Session_lock := He.noat_ok (c.b 63 rfl),
    a_Session_log := He.noat_ok (c.b 64 rfl),
    i_Session := initY X G (c.b 65 rfl) (c.b 66 rfl) (c.f 18 rfl) (fun _ _ _ _ _ _ us hl => match us, hl with | [_, _], _ => rfl),
    m_Session_say := methY (c.b 67 rfl) (c.f 19 rfl) (fun _ _ _ _ _ _ us hl => match us, hl with | [_, _], _ => rfl),
    m_Session_text := methY (c.b 68 rfl) (c.f 20 rfl) (fun _ _ _ _ _ _ us hl => match us, hl with | [_], _ => rfl),
    p_Session_log := propY (c.b 69 rfl) (c.f 21 rfl) (fun _ _ _ _ _ _ us hl => match us, hl with | [_], _ => rfl),
    f_is_number := topY X G (c.b 70 rfl) (c.f 22 rfl) (fun _ _ _ _ _ _ us hl => match us, hl with | [_], _ => rfl),
    f_are_numbers := topY X G (c.b 71 rfl) (c.f 23 rfl) (fun _ _ _ _ _ _ us hl => match us, hl with | [_], _ => rfl),
    f_is_permutation := topY X G (c.b 72 rfl) (c.f 24 rfl) (fun _ _ _ _ _ _ us hl => match us, hl with | [_, _], _ => rfl),
    f_still_of := topY X G (c.b 73 rfl) (c.f 25 rfl) (fun _ _ _ _ _ _ us hl => match us, hl with | [_], _ => rfl),
    f_product_of := topY X G (c.b 74 rfl) (c.f 26 rfl) (fun _ _ _ _ _ _ us hl => match us, hl with | [_, _], _ => rfl),
    f_words_of := topY X G (c.b 75 rfl) (c.f 27 rfl) (fun _ _ _ _ _ _ us hl => match us, hl with | [_, _], _ => rfl),
    f_check_lock := topY X G (c.b 76 rfl) (c.f 28 rfl) (fun _ _ _ _ _ _ us hl => match us, hl with | [_], _ => rfl),
    f_made_words := topY X G (c.b 77 rfl) (c.f 29 rfl) (fun _ _ _ _ _ _ us hl => match us, hl with | [_], _ => rfl),
    f_write_lock := topY X G (c.b 78 rfl) (c.f 30 rfl) (fun _ _ _ _ _ _ us hl => match us, hl with | [_], _ => rfl),
    f_read_lock := topY X G (c.b 79 rfl) (c.f 31 rfl) (fun _ _ _ _ _ _ us hl => match us, hl with | [_], _ => rfl),
    f_check_text := topY X G (c.b 80 rfl) (c.f 32 rfl) (fun _ _ _ _ _ _ us hl => match us, hl with | [_], _ => rfl),
    f_spaced := topY X G (c.b 81 rfl) (c.f 33 rfl) (fun _ _ _ _ _ _ us hl => match us, hl with | [_], _ => rfl),
    f_words_in := topY X G (c.b 82 rfl) (c.f 34 rfl) (fun _ _ _ _ _ _ us hl => match us, hl with | [_], _ => rfl),
    f_worded_lines := topY X G (c.b 83 rfl) (c.f 35 rfl) (fun _ _ _ _ _ _ us hl => match us, hl with | [_], _ => rfl),
    f_is_known := topY X G (c.b 84 rfl) (c.f 36 rfl) (fun _ _ _ _ _ _ us hl => match us, hl with | [_], _ => rfl),
    f_read_session := topY X G (c.b 85 rfl) (c.f 37 rfl) (fun _ _ _ _ _ _ us hl => match us, hl with | [_], _ => rfl),
    f_first_unlike := topY X G (c.b 86 rfl) (c.f 38 rfl) (fun _ _ _ _ _ _ us hl => match us, hl with | [_], _ => rfl),
    f_check_marks := topY X G (c.b 87 rfl) (c.f 39 rfl) (fun _ _ _ _ _ _ us hl => match us, hl with | [_, _], _ => rfl),
    f_unmarked := topY X G (c.b 88 rfl) (c.f 40 rfl) (fun _ _ _ _ _ _ us hl => match us, hl with | [_], _ => rfl),
    f_law_taken := topY X G (c.b 89 rfl) (c.f 41 rfl) (fun _ _ _ _ _ _ us hl => match us, hl with | [_, _], _ => rfl),
    f_law_pick := topY X G (c.b 90 rfl) (c.f 42 rfl) (fun _ _ _ _ _ _ us hl => match us, hl with | [_, _], _ => rfl),
    f_law_alike := topY X G (c.b 91 rfl) (c.f 43 rfl) (fun _ _ _ _ _ _ us hl => match us, hl with | [_, _], _ => rfl),
    f_law_permutation := topY X G (c.b 92 rfl) (c.f 44 rfl) (fun _ _ _ _ _ _ us hl => match us, hl with | [_, _], _ => rfl),
    f_law_known := topY X G (c.b 93 rfl) (c.f 45 rfl) (fun _ _ _ _ _ _ us hl => match us, hl with | [_, _], _ => rfl),
    f_law_lock := topY X G (c.b 94 rfl) (c.f 46 rfl) (fun _ _ _ _ _ _ us hl => match us, hl with | [_, _], _ => rfl),
    f_law_said_session := topY X G (c.b 95 rfl) (c.f 47 rfl) (fun _ _ _ _ _ _ us hl => match us, hl with | [_], _ => rfl) }
end Lt

open PySem PySem.W PySem.Calls PyProof.Rows
set_option Elab.async false
set_option linter.all false
set_option maxRecDepth 100000
set_option maxHeartbeats 0
theorem PySem.Challenge.cw_lockturns_k15_whole_sessions_holds : PySem.Challenge.rw_lockturns_k15_whole_sessions.Holds := by
  w_on; o_law
  refine HandSHeadRun.head_any (r := OpenLaw.row PySem.Challenge.rw_lockturns_k15_whole_sessions) (q := view (OpenLaw.row PySem.Challenge.rw_lockturns_k15_whole_sessions).prog [143]) (H := Hd.hk) (ob := Hd.ob) (M := 16000) (loose := Hd.names) (d := HandSHeadRun.topDef (OpenLaw.row PySem.Challenge.rw_lockturns_k15_whole_sessions).prog 143) (kwd := []) Hd.ob_eq
    (by kernel_rfl) (fun s => by kernel_rfl) Hd.run (by kernel_rfl) (by kernel_rfl) (by kernel_rfl) (by rfl) (by first | assumption | decide +kernel) (by decide +kernel) ⟨rfl, rfl, rfl, rfl, rfl, by decide +kernel⟩ ?hw ?hc
  case hw => w_witness2
  case hc =>
    refine LamX.walk_ofTsE (l := PySem.Challenge.rw_lockturns_k15_whole_sessions) (n := 63) (k := 14) (x := "script") (CX := fun _ => L2.CX0) rfl (by decide) (by kernel_rfl) ⟨rfl, by decide, by decide⟩ ?F (fun _ _ _ _ _ z => z)
    intro w mg fa h Y G hmg0
    obtain ⟨K, KX, c⟩ := Y
    have hmg : mg ("law" : PySem.Str) = some (.ref fa) := by
      have e : (HandSHeadRun.topDef (OpenLaw.row PySem.Challenge.rw_lockturns_k15_whole_sessions).prog 143).name = ("law" : PySem.Str) := by kernel_rfl
      rw [← e]
      exact hmg0
    exact ⟨K, KX, Lt.lawY (lvl := 13) Lt.sc_law KX G hmg (c.b 96 rfl) (c.f 48 rfl) (c.hd ("law", none) List.mem_cons_self) (fun _ _ _ _ _ _ s u => .of_eq rfl) (fun base f cA Pt TB A outer s0 H0 E0x hr => Lt.law_top (Lt.topFs c KX G) base TB A outer s0 H0 E0x hr)⟩
#print axioms PySem.Challenge.cw_lockturns_k15_whole_sessions_holds

