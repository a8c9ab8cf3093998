import PyProof.Rows.All
import Wide.All
import OpenK.AllK
import Wide.FinOn
import HandS.ForMost
import HandS.TupSets
import HandS.Conv
import HandS.Strs
import HandS.SortInts
import HandS.IsInst
import HandS.TupAny
import HandS.TupLen
import HandS.TupMul
import HandS.Deep
import HandS.Evl
import KE.GoesEnum
import KE.KDictDisplayH
import HandS.ExcInit
import HandS.ExcOwn
import HandS.ExcField
import HandS.TryOnly
import HandS.ForExc
import HandS.Small
import HandS.Property
import HandS.Lambda
import HandS.Nested
import KE.KDflt
import HandS.EndOwn
import HandS.NestedK
import HandS.Codes
import HandS.FStr
import HandS.WideBits
import PyProof.StrBlock2
import HandS.DictComp
import HandS.SortKw
import KE.SortCalls
import KE.SortData
import KE.SortKeyHeap
import KE.KSortKey
import HandS.Zip
import KE.DataMinMax
import PyProof.AutoIntOps
import HandS.Rev
import HandS.Iter
import PyProof.P3In
import KE.KDictPairs
import PySem.Challenge.RW_lockturns_k07_whole_weights
set_option Elab.async false
set_option linter.all false
set_option maxRecDepth 100000
set_option maxHeartbeats 4000000
/-! enumerate over a tuple, in a for -/
namespace LtR
open PySem PyProof.Rows
open AutoSeq1 (wpAny_loadPart')
theorem meets_enum1 {v : Value} {o : Obj} {H : Heap → Prop} (B : Begins v o H) :
    Meets (Builtin.«enumerate.__new__» ⟨[.type "enumerate", v], []⟩) (fun _ R s => H s.heap ∧
      R (.ok (.ret (.ref (s.heap.push o).objs.size))) { s with heap := (s.heap.push o).push { cls := .type "enumerate", data := .fields #[.none, .bool false, .ref s.heap.objs.size, rawInt 0, .none, .none] } }) :=
  .of_wp fun prog w A R s h => by
    obtain ⟨hp, g, d, tk, os⟩ := s
    obtain ⟨h1, h⟩ := h
    have hsub := sub_enumerate
    have q1 : ∀ {A' : Around} {E : Value → Shared → Prop} {Q : Value → Shared → Prop}, Q (.ref hp.objs.size) ⟨hp.push o, g, d, tk, os⟩ → wpAny (model prog w) A' (pyIter v) Q E ⟨hp, g, d, tk, os⟩ :=
      fun q => B.iter prog w _ _ ⟨hp, g, d, tk, os⟩ _ h1 q
    wp_walk using q1
    refine wpAny_stack_any fun st => wpAny_pure ?_
    split
    · rename_i c _ _ _ _ _
      cases (c == Value.type "enumerate")
      · wp_walk using q1
        exact ⟨_, rfl, h⟩
      · wp_walk using q1
        exact ⟨_, rfl, h⟩
    · wp_walk using q1
      exact ⟨_, rfl, h⟩
section
variable {prog : Program} {w : World} {A : Around} {E : Value → Shared → Prop} {s : Shared}
theorem enum1_begins {v : Value} {o : Obj} {H : Heap → Prop} {Q : Value → Shared → Prop} (B : Begins v o H) (h1 : H s.heap)
    (h : ∀ h', IsEnum h' (s.heap.objs.size + 1) s.heap.objs.size 0 .none → h'.get? s.heap.objs.size = some o → h'.objs.size = s.heap.objs.size + 2 →
      (∀ b o, s.heap.get? b = some o → h'.get? b = some o) → Q (.ref (s.heap.objs.size + 1)) { s with heap := h' }) :
    wpAny (model prog w) A (call (.type "enumerate") [v]) Q E s := by
  refine callType_new F.called_enumerate (by decide) (F.typeCall_enumerate_1 _) (F.newCall_enumerate_1 _) (fun obj => F.args_object_init_2 obj _) F.entry_enumerate_new
    (meets_enum1 B) ⟨h1, ?_⟩
  have hz : (s.heap.push o).objs.size = s.heap.objs.size + 1 := Heap.size_push ..
  show _ ∧ _
  rw [hz]
  have he : IsEnum ((s.heap.push o).push { cls := .type "enumerate", data := .fields #[.none, .bool false, .ref s.heap.objs.size, rawInt 0, .none, .none] }) (s.heap.objs.size + 1) s.heap.objs.size 0 .none := by
    have := Heap.get?_push_size (s.heap.push o) (o := { cls := .type "enumerate", data := .fields #[.none, .bool false, .ref s.heap.objs.size, rawInt 0, .none, .none] }) rfl
    rw [hz] at this; exact this
  refine ⟨⟨_, he, rfl⟩, h _ he (Heap.get?_push_of_some _ (Heap.get?_push_size _ B.free)) (by rw [Heap.size_push, hz]) fun b o x => Heap.get?_push_of_some _ (Heap.get?_push_of_some _ x)⟩
end
end LtR
namespace L2
open PySem PySem.Spec PyProof.Rows
/-- the tuple at a as it stands at each turn, each item in a new pair -/
def Itet (K : PySem.W.Frag) (a : Addr) : It :=
  ⟨fun i H => ∃ (xs : List V) (x : V), SqT K H a xs ∧ xs[i]? = some x, fun i H v H' => ∃ T x, v = .ref T ∧ H T = none ∧ H' = upd H T (.tup [.int (i : Nat), x]) ∧ ∀ xs, SqT K H a xs → xs[i]? = some x, fun i H => ∃ xs : List V, SqT K H a xs ∧ xs.length = i⟩
theorem turn_enumT {P : Program} {w : World} {K : PySem.W.Frag} {elts : List Expr} {kk : Nat} {tpos : Pos} (a e it : Addr) (hae : a ≠ e) (hai : a ≠ it) :
    Turn P w K (.Tuple elts kk tpos) (Itet K a) [e, it] e (fun i h => (∃ old, IsEnum h e it ((i : Nat) : Int) old) ∧ h.IsTupleIter it a i ∧ e ≠ it) where
  mem := by simp
  obj := fun i h st b hb => by
    obtain ⟨⟨old, he⟩, ⟨o, ho, hc, hd⟩, _⟩ := st
    have e' : b = e ∨ b = it := by simpa using hb
    rcases e' with z | z
    · rw [z]; exact ⟨_, he, fun v q => nomatch q⟩
    · rw [z]; exact ⟨o, ho, fun v q => by rw [hd] at q; cases q⟩
  keep := fun i h h' st k => let ⟨⟨old, he⟩, hi, hne⟩ := st; ⟨⟨old, k e (by simp) _ he⟩, hi.at fun o q => k it (by simp) o q, hne⟩
  item := by
    intro X hP hw hK hc i pins s σ H E I hf st hg
    subst hP hw hK
    obtain ⟨⟨old, he⟩, hit, hne⟩ := st
    obtain ⟨xs, x, hq, hx⟩ := hg
    obtain ⟨its, rv, p, hz⟩ := I.tuple hq
    obtain ⟨u, hu, ru⟩ := rv.get hx
    have hel : e < s.heap.objs.size := Heap.lt_size he
    have hil : it < s.heap.objs.size := by obtain ⟨_, q, _⟩ := hit; exact Heap.lt_size q
    have hu' : its.toArray[i]? = some u := by simpa using hu
    have hlt : i < its.toArray.size := (Array.getElem?_eq_some_iff.mp hu').1
    refine wpAny_pyNext_enum_itemD (Draws.tuple (prog := X.prog) (w := X.w) (A := X.A.in1) (I.ok.hd hc) it a hai its.toArray) he ⟨hit, (show s.heap.IsTuple a its.toArray from p)⟩ hlt hne (by simp [hne, Ne.symm hae]) fun x' h' tk hP ho hst' hT hsz hk => ?_
    have ex : x' = u := Option.some.inj ((show its.toArray[i]? = some x' from hP).symm.trans hu')
    subst ex
    obtain ⟨hit', hp'⟩ := hst'
    refine ⟨_, rfl, wpAny_letOwnedTupleGo_enum (s := { s with heap := h', toks := tk + 1 }) ho fun h'' he' sb => ?_⟩
    have hT2 : h''.get? s.heap.objs.size = some { cls := .type "tuple", data := .seq #[.int i tk, x'] } := (sb.2 _ (Nat.ne_of_gt hel)).trans hT
    have new : ObjOk X.prog X.w (upd H s.heap.objs.size (.tup [.int (i : Nat), x])) h'' s.heap.objs.size (.tup [.int (i : Nat), x]) :=
      ⟨by show 2 ≤ sizeLine; decide, [.int i tk, x'], .cons ⟨_, rfl⟩ (.cons ru .nil), ⟨_, hT2, rfl, _, rfl⟩⟩
    have I1 : Inv X pins σ (upd H s.heap.objs.size (.tup [.int (i : Nat), x])) { s with heap := h'', toks := tk + 1 } :=
      I.turnedNew (ch := [e, it]) (fun b ob hb q => (sb.2 b (fun z => hb (by simp [z]))).trans (hk b ob (fun z => hb (by simp [z])) (fun z => hb (by simp [z])) q)) hf (Nat.le_refl _) new
    refine ⟨.ref s.heap.objs.size, _, I1, rfl, ⟨_, x, rfl, I.hok.fresh (Nat.le_refl _), rfl, fun ys hy => by rw [I.tuple_inj hy hq]; exact hx⟩, ⟨⟨x', ?_⟩, hit'.at fun o q => (sb.2 it (Ne.symm hne)).trans q, hne⟩, fun b hb => ?_⟩
    · have e1 : ((i + 1 : Nat) : Int) = (i : Int) + 1 := by omega
      rw [e1]; exact he'
    · have hb' : b < s.heap.objs.size := by
        have e' : b = e ∨ b = it := by simpa using hb
        rcases e' with z | z
        · rw [z]; exact hel
        · rw [z]; exact hil
      rw [upd_ne (Nat.ne_of_lt hb')]
      exact (hf b hb).1
  done := by
    intro X hP hw hK hc i pins s σ H E I hf st hg
    subst hP hw hK
    obtain ⟨⟨old, he⟩, hit, hne⟩ := st
    obtain ⟨xs, hq, hx⟩ := hg
    obtain ⟨its, rv, p, hz⟩ := I.tuple hq
    obtain ⟨f0, f1, f2, f3, f4, f5⟩ := hf it (by simp)
    have hl := rv.length
    have hn : its.toArray.size = i := by simp; omega
    exact wpAny_pyNext_enum_endD (Draws.tuple (prog := X.prog) (w := X.w) (A := X.A.in1) (I.ok.hd hc) it a hai its.toArray) he (show s.heap.IsTupleIter it a its.toArray.size ∧ s.heap.IsTuple a its.toArray from ⟨by rw [hn]; exact hit, p⟩) fun h' eb => ⟨rfl, I.turned (t' := s.toks) (fun b o hb q => eb b o hb q) f0 f1 f3 f4 f5⟩
  self := fun A i s Q E st h => let ⟨⟨_, he⟩, _⟩ := st; wpAny_pyIter_enum he h
def iEnumT (K : PySem.W.Frag) (ta : TA) : TI := fun σ H R => ta σ H fun vs H1 => ∃ a xs, vs = [.ref a] ∧ SqT K H1 a xs ∧ R (Itet K a) H1
theorem pi_enumT {X : Cx} {e : Expr} {ta : TA} {p pos tpos : Pos} {elts : List Expr} {kk : Nat} (hg : Gl X "enumerate") (hm : X.mg "enumerate" = none) (ha : PA X [e] ta) (hs : starEach [e] X.env = [(false, eval e X.env)] := by rfl) :
    PI X (.Tuple elts kk tpos) (.Call (.Name "enumerate" p) [e] [] pos) (iEnumT X.K ta) := by
  refine ⟨fun pins s σ H R I h => ?_⟩
  refine Call_ (ld_blt I hg hm boot_enumerate (PyProof.Rows.callWith_type1 (thn (ha.run pos pins s σ H _ I h) fun us s1 ⟨vs, H1, I1, r1, q1⟩ => ?_) hs rfl))
  obtain ⟨a, xs, ex, hq, q⟩ := q1
  subst ex
  cases r1 with
  | cons r rr =>
    cases rr
    cases r
    obtain ⟨its, rv, p', hz⟩ := I1.tuple hq
    have hal : a < s1.heap.objs.size := by obtain ⟨_, e, _⟩ := p'; exact Heap.lt_size e
    refine LtR.enum1_begins (begins_tuple a its.toArray) (show s1.heap.IsTuple a its.toArray from p') fun h' he hit hsz hk => wpAny_pyIter_enum he ?_
    have I2 : Inv X pins σ H1 { s1 with heap := h' } := I1.kept (t' := s1.toks) hk
    refine ⟨s1.heap.objs.size + 1, [s1.heap.objs.size + 1, s1.heap.objs.size], _, _, H1, rfl, I2, turn_enumT a (s1.heap.objs.size + 1) s1.heap.objs.size (Nat.ne_of_lt (Nat.lt_succ_of_lt hal)) (Nat.ne_of_lt hal), ⟨⟨.none, he⟩, ⟨_, hit, rfl, rfl⟩, Nat.succ_ne_self _⟩, fun b hb => ?_, q⟩
    have e' : b = s1.heap.objs.size + 1 ∨ b = s1.heap.objs.size := by simpa using hb
    have hle : s1.heap.objs.size ≤ b := by
      rcases e' with z | z
      · rw [z]; exact Nat.le_add_right _ _
      · rw [z]; exact Nat.le_refl _
    exact I1.fpOk hle (I1.hok.fresh hle)
end L2

set_option Elab.async false
set_option linter.all false
set_option maxRecDepth 100000
set_option maxHeartbeats 4000000
/-! sorted of a dict whose keys are tuples of ints; sorted of a tuple of ints; tuple.index of ints; {tuple: v} -/
namespace L2
open PySem PySem.Spec PyProof.Rows
section
variable {X : Cx}
/-- t.index(i), the first place -/
theorem mt_tup_indexI : MtR X "tuple.index" (fun x xs H Q => ∃ p, ∃ ys : List Int, ∃ z j, x = .ref p ∧ xs = [.int z] ∧ SqT X.K H p (ys.map V.int) ∧ ys[j]? = some z ∧ (∀ m, m < j → ys[m]? ≠ some z) ∧ Q (.int (j : Nat)) H) := by
  intro pins s σ H x xs v us Q I rx rs h
  obtain ⟨p, ys, z, j, rfl, rfl, hq, hy, hno, q⟩ := h
  cases rx
  obtain ⟨u, rfl, t, rfl⟩ := vals1 rs
  obtain ⟨its, r, pl, hz⟩ := I.tuple hq
  obtain ⟨⟨cls, dd, dt, sl⟩, ho, hc, n, hd⟩ := pl
  simp only at hc hd
  subst hc
  subst hd
  have hl : its.toArray.size = ys.length := by rw [List.size_toArray, ← r.length, List.length_map]
  have hj : j < its.toArray.size := by rw [hl]; exact (List.getElem?_eq_some_iff.mp hy).1
  have at' : ∀ (m : Nat) (hm : m < its.toArray.size), ∃ y t', ys[m]? = some y ∧ its.toArray[m] = Value.int y t' := fun m hm => by
    have hm' : m < ys.length := by rw [← hl]; exact hm
    obtain ⟨w, hw, t', hw'⟩ := r.get (i := m) (x := .int ys[m]) (by simp [hm'])
    refine ⟨ys[m], t', List.getElem?_eq_getElem hm', ?_⟩
    have e := (List.getElem?_eq_some_iff.mp hw).2
    rw [← hw', ← e]
    simp
  have flat : (ys.map V.int).all flatV = true := by
    rw [List.all_map]
    exact List.all_eq_true.mpr fun _ _ => rfl
  refine call_meets PySem.F.slot_tuple_index ⟨_, ho, rfl⟩ PySem.F.entry_tuple_index (PySem.F.args_tuple_index_2 _ _) (TI.tuple_indexAt p its.toArray n dd sl (.int z t) (eqU (.int z)) j hj ?_ ?_)
    ⟨ho, fun w hw => mem_eqAt (x := .int z) ⟨t, rfl⟩ rfl r flat w (by simpa using hw), ⟨.int (j : Nat), H, I.tok _, ⟨_, rfl⟩, q⟩⟩
  · obtain ⟨y, t', h1, h2⟩ := at' j hj
    rw [hy] at h1
    cases h1
    rw [h2]
    show (z == z) = true
    exact beq_self_eq_true z
  · intro m hm hmj
    obtain ⟨y, t', h1, h2⟩ := at' m hm
    rw [h2]
    show (y == z) = false
    exact beq_eq_false_iff_ne.mpr fun e => hno m hmj (e ▸ h1)
/-- sorted(d), d a dict with fewer than 64 keys, all tuples of dd ints in [0, B) -/
def rSortDT (d : Nat) (B : Int) : List V → Hp → VK → Prop := fun vs H Q => ∃ (a : Addr) (kvs : List (List Key × V)) (ks : List (List Int)), vs = [V.ref a] ∧ Rd H a (.dT kvs) ∧ kvs.map (·.1) = ks.map (fun k => k.map Sum.inl) ∧ ks.length < 64 ∧ (∀ k ∈ ks, k.length = d ∧ TS.Bd B k) ∧
  ∀ (bs : List Addr) (ks' : List (List Int)) (p : Addr), ks'.Perm ks → ks'.Pairwise (fun x y => TS.code B x ≤ TS.code B y) → Paired (fun (b : Addr) k => H b = some (.tup (k.map V.int))) bs ks' → H p = none → Q (.ref p) (upd H p (.lst (bs.map V.ref)))
theorem kV_ints (k : List Int) : (k.map (Sum.inl : Int → Key)).map kV = k.map V.int := by
  rw [List.map_map]
  rfl
def refA : Value → Addr
  | .ref a => a
  | _ => 0
theorem keys_perm {H : Hp} : ∀ {kvs : List (List Key × V)} {xs : List (List Key × Addr × Value)} {ks : List (List Int)}, KT H kvs xs → kvs.map (·.1) = ks.map (fun k => k.map Sum.inl) →
    Paired (fun (u : Value) (k : List Int) => ∃ b, u = .ref b ∧ H b = some (.tup (k.map V.int))) (xs.map fun x => Value.ref x.2.1) ks
  | _, _, [], .nil, _ => .nil
  | _, _, [], .cons _ _, e => by simp at e
  | _, _, _ :: _, .nil, e => by simp at e
  | p :: ps, q :: qs, k :: ks, .cons h t, e => by
    rw [List.map_cons, List.map_cons] at e
    injection e with e1 e2
    refine .cons ⟨q.2.1, rfl, ?_⟩ (keys_perm t e2)
    have z := h.2.1
    rw [e1, kV_ints] at z
    exact z
theorem paired_map_eq {β γ : Type} {F : β → γ → Prop} {f : β → γ} (h : ∀ u k, F u k → f u = k) : ∀ {us : List β} {ks : List γ}, Paired F us ks → us.map f = ks
  | _, _, .nil => rfl
  | _, _, .cons r t => by rw [List.map_cons, h _ _ r, paired_map_eq h t]
theorem paired_mem_left {β γ : Type} {F : β → γ → Prop} : ∀ {us : List β} {ks : List γ}, Paired F us ks → ∀ u ∈ us, ∃ k ∈ ks, F u k
  | _, _, .nil, u, h => by cases h
  | _, _, .cons r t, u, h => by
    rcases List.mem_cons.mp h with e | h
    · subst e
      exact ⟨_, List.mem_cons_self, r⟩
    · obtain ⟨k, hk, f⟩ := paired_mem_left t u h
      exact ⟨k, List.mem_cons_of_mem _ hk, f⟩
theorem paired_of_map {β γ δ : Type} {F : γ → δ → Prop} {f : β → γ} {g : β → δ} : ∀ {us : List β}, (∀ u ∈ us, F (f u) (g u)) → Paired F (us.map f) (us.map g)
  | [], _ => .nil
  | u :: us, h => .cons (h u List.mem_cons_self) (paired_of_map fun v hv => h v (List.mem_cons_of_mem _ hv))
theorem cr_sortDT {d : Nat} {B : Int} (hc : X.calm = true) (hd1 : 1 ≤ d) : CallR X (.builtin "sorted") (rSortDT d B) := by
  intro pins s σ H xs us Q I r q
  obtain ⟨a, kvs, ks, rfl, hd, hks, h64, hB, q⟩ := q
  obtain ⟨u, eu, rx⟩ := vals1 r
  subst eu
  cases rx
  obtain ⟨z, lo, kx, pr, o, es, ep, ho, hx, hdt, he, hn⟩ := (show ObjOk X.prog X.w H s.heap a (.dT kvs) from hd.ok I.hok)
  have l1 : es.size = kx.length := size_of_entries he
  have l2 : kvs.length = kx.length := Paired.length pr
  refine Calls.call_function_entry PyProof.Rows.kind_sorted PyProof.Rows.plain_sorted PyProof.Rows.entry_sorted (PyProof.Rows.args_sorted1 _) ?_
  unfold Builtin.«sorted»
  refine wpAny_bind (m := checkCount "sorted" 1 1 _) (wpAny_pure ?_)
  refine wpAny_bind (PySem.W.kdu_collect (A := X.A.in1) (kdl_raw lo hx hdt) (I.ok.hd hc) ho (by omega) fun h' tk acc hk hacc => ?_)
  have ea : acc.toList = kx.map fun x => Value.ref x.2.1 := by
    have hl : acc.toList.length = kx.length := by rw [Array.length_toList, hacc.1]; exact l1
    apply List.ext_getElem?
    intro j
    rw [List.getElem?_map]
    cases hj : acc.toList[j]? with
    | none =>
      have h1 := List.getElem?_eq_none_iff.mp hj
      rw [List.getElem?_eq_none (by omega)]
      all_goals rfl
    | some v =>
      obtain ⟨en, hen, hv⟩ := hacc.2 j v (by rw [← Array.getElem?_toList]; exact hj)
      have qe := entry_at he j
      rw [hen] at qe
      cases hb : kx[j]? with
      | none =>
        rw [hb] at qe
        exact nomatch (show some en = none from qe)
      | some b =>
        rw [hb] at qe
        have e2 : en = entryOfKey (tupleKind (mixKind X.prog X.w)) b := Option.some.inj qe
        rw [hv, e2]
        all_goals rfl
  have I1 : Inv X pins σ H { s with heap := h', toks := tk } := I.kept hk
  have prk := keys_perm pr hks
  rw [← ea] at prk
  generalize acc.toList = vs at prk
  have hvl : vs.length = ks.length := Paired.length prk
  have tup : ∀ b (k : List Int), H b = some (.tup (k.map V.int)) → TS.TupInts h' (.ref b) k := fun b k e => tupI_raw I1 (SqT.of e)
  have hin : ∀ v ∈ vs, ∃ b k, k ∈ ks ∧ v = .ref b ∧ H b = some (.tup (k.map V.int)) := fun v hv => by
    obtain ⟨k, hk', b, e1, e2⟩ := paired_mem_left prk v hv
    exact ⟨b, k, hk', e1, e2⟩
  have hmap : vs.map (TS.intsOf h') = ks := paired_map_eq (fun u k h => by
    obtain ⟨b, e1, e2⟩ := h
    subst e1
    exact (tup b k e2).ints) prk
  refine wpAny_bind (wpAny_newList ?_ (by rw [hvl, sizeLine_eq]; omega))
  have hoL : (h'.push (seqObj "list" vs.toArray 0)).get? h'.objs.size = some (seqObj "list" vs.toArray 0) := Heap.get?_push_size _ rfl
  show wpAny _ _ _ _ _ { s with heap := h'.push (seqObj "list" vs.toArray 0), toks := tk }
  have keep : ∀ b u, h'.get? b = some u → (h'.push (seqObj "list" vs.toArray 0)).get? b = some u := fun b u e => Heap.get?_push_of_some _ e
  have I2 : Inv X pins σ H { s with heap := h'.push (seqObj "list" vs.toArray 0), toks := tk } := I1.kept (t' := tk) keep
  have tup2 : ∀ b (k : List Int), H b = some (.tup (k.map V.int)) → TS.TupInts (h'.push (seqObj "list" vs.toArray 0)) (.ref b) k := fun b k e => tupI_raw I2 (SqT.of e)
  have x : TS.TupsOk (h'.push (seqObj "list" vs.toArray 0)) d B vs := fun v hv => by
    obtain ⟨b, k, hk', e1, e2⟩ := hin v hv
    subst e1
    exact ⟨k, tup2 b k e2, (hB k hk').1, (hB k hk').2⟩
  refine wpAny_bind (wpAny_holding (TS.call_sort_tups (s := { s with heap := h'.push (seqObj "list" vs.toArray 0), toks := tk }) hoL (by rw [hvl]; exact h64) hd1 x fun out a1 a2 => ?_))
  obtain ⟨c, hcc⟩ := PyProof.Rows.sortedHeap_at (vs := vs) (out := out) hoL
  have hin' : ∀ v ∈ out.toList, ∃ b k, k ∈ ks ∧ v = .ref b ∧ H b = some (.tup (k.map V.int)) := fun v hv => hin v (a1.mem_iff.mp hv)
  have intz : ∀ v ∈ out.toList, TS.intsOf (h'.push (seqObj "list" vs.toArray 0)) v = TS.intsOf h' v := fun v hv => by
    obtain ⟨b, k, _, e1, e2⟩ := hin' v hv
    subst e1
    rw [(tup2 b k e2).ints, (tup b k e2).ints]
  have hn' : H h'.objs.size = none := I1.hok.fresh (Nat.le_refl _)
  have vr : Vals ((out.toList.map refA).map V.ref) out.toList := by
    have e : out.toList = (out.toList.map refA).map Value.ref := by
      rw [List.map_map]
      refine (List.map_id' out.toList).symm.trans (List.map_congr_left fun v hv => ?_)
      obtain ⟨b, k, _, e1, e2⟩ := hin' v hv
      subst e1
      rfl
    have z := vals_refs (out.toList.map refA)
    rw [← e] at z
    exact z
  have hlen : ((out.toList.map refA).map V.ref).length ≤ sizeLine := by
    rw [List.length_map, List.length_map, a1.length_eq, hvl, sizeLine_eq]
    omega
  refine wpAny_pure ⟨_, rfl, .ref h'.objs.size, upd H h'.objs.size (.lst ((out.toList.map refA).map V.ref)), I1.laid (t' := tk) (fun b u e => ?_) (Nat.le_refl _) ⟨hlen, out.toList, c, vr, hcc⟩, rfl, ?_⟩
  · have hlt : b < h'.objs.size := Heap.lt_size e
    show (PyProof.Rows.sortedHeap (h'.push (seqObj "list" vs.toArray 0)) h'.objs.size vs out).get? b = some u
    rw [PyProof.Rows.sortedHeap_old (Nat.ne_of_lt hlt) (by rw [PyProof.Rows.size_push']; exact Nat.lt_succ_of_lt hlt)]
    exact Heap.get?_push_of_some _ e
  · refine q (out.toList.map refA) (out.toList.map (TS.intsOf h')) h'.objs.size ?_ ?_ ?_ hn'
    · have z := a1.map (TS.intsOf h')
      rw [hmap] at z
      exact z
    · refine List.pairwise_map.mpr (List.Pairwise.imp_of_mem (fun {u v} hu hv h => ?_) a2)
      rw [← intz u hu, ← intz v hv]
      exact h
    · refine paired_of_map fun v hv => ?_
      obtain ⟨b, k, _, e1, e2⟩ := hin' v hv
      subst e1
      rw [(tup b k e2).ints]
      exact e2
/-- sorted(t), t a tuple of fewer than 64 ints -/
def rSortIT (K : PySem.W.Frag) : List V → Hp → VK → Prop := fun vs H Q => ∃ (a : Addr) (ns : List Int), vs = [V.ref a] ∧ SqT K H a (ns.map V.int) ∧ ns.length < 64 ∧
  ∀ (ns' : List Int) (p : Addr), ns'.Perm ns → ns'.Pairwise (· ≤ ·) → H p = none → Q (.ref p) (upd H p (.lst (ns'.map V.int)))
end
section
variable {prog : Program} {w : World} {A : Around} {E : Value → Shared → Prop} {s : Shared}
theorem collect_tup {l : Addr} {vs : List Value} {Q : List Value → Shared → Prop} (hl : s.heap.IsTuple l vs.toArray)
    (h : Q vs { s with heap := (s.heap.push (seqObj "list" #[] 0)).update s.heap.objs.size (Obj.mapSeq (· ++ vs.toArray)) }) (hsz : vs.length ≤ sizeLine) :
    wpAny (model prog w) A (collect (.ref l)) Q E s := by
  obtain ⟨o, ho, hc, n, hd⟩ := id hl
  unfold collect
  refine wpAny_bind (wpAny_runValue (codeAny_builtin entry_proto_collect' ?_))
  show wpAny _ _ (do again (.builtin "list.__iadd__" ⟨[← newList [], .ref l], []⟩)) _ _ s
  refine wpAny_bind (wpAny_newList (wpAny_pure ⟨Code.quiet_builtin _ (by decide +kernel), codeAny_builtin entry_list_iadd' ?_⟩))
  show wpAny _ _ (Builtin.List.listExtendWith (.ref s.heap.objs.size) (.ref l) (.ref s.heap.objs.size)) _ _ { s with heap := s.heap.push (seqObj "list" #[] 0) }
  unfold Builtin.List.listExtendWith
  have ho' : (s.heap.push (seqObj "list" #[] 0)).get? l = some o := Heap.get?_push_of_some _ ho
  refine wpAny_bind (wpAny_typeOf (T := "tuple") ⟨o, ho', hc⟩ ?_)
  have ht : (Value.type "tuple" == Value.type "tuple") = true := by rfl
  rw [if_pos (by rw [ht]; simp)]
  refine wpAny_bind (listItems_at ho' hd ?_)
  refine wpAny_bind (listItems_at (xs := #[]) (n := 0) (Heap.get?_push_size _ rfl) rfl ?_)
  rw [if_neg (by simp)]
  refine wpAny_bind (listUpdate_at (xs := #[]) (n := 0) (Heap.get?_push_size _ rfl) rfl ?_ (Nat.zero_le _) (by show (#[] ++ vs.toArray).size ≤ sizeLine + 1; simp only [Array.size_append, List.size_toArray, List.length_nil]; omega))
  refine wpAny_pure ?_
  show wpAny (model prog w) A (do
      let o ← load s.heap.objs.size
      match o.data with
      | .seq xs _ => pure xs.toList
      | _ => unsupported "internal:collect") Q E { s with heap := (s.heap.push (seqObj "list" #[] 0)).update s.heap.objs.size (Obj.mapSeq (· ++ vs.toArray)) }
  refine wpAny_bind (wpAny_load (get?_update_seq (Heap.get?_push_size _ rfl) _) ?_)
  show wpAny _ _ (pure ((#[] : Array Value) ++ vs.toArray).toList) Q E _
  rw [show ((#[] : Array Value) ++ vs.toArray).toList = vs by simp]
  exact wpAny_pure h
theorem sorted_tupI {l : Addr} {vs : List Value} {ns : List Int} {Q : Value → Shared → Prop} (hl : s.heap.IsTuple l vs.toArray) (hI : IntsAre vs ns) (h64 : vs.length < 64)
    (h : ∀ (out : Array Value) (ns' : List Int), IntsAre out.toList ns' → ns'.Perm ns → ns'.Pairwise (· ≤ ·) → Q (.ref (s.heap.objs.size + 1)) { s with heap := sortedAll s.heap vs out }) :
    wpAny (model prog w) A (call (.builtin "sorted") [.ref l]) Q E s := by
  refine Calls.call_function_entry kind_sorted plain_sorted entry_sorted (args_sorted1 _) ?_
  unfold Builtin.«sorted»
  refine wpAny_bind (m := checkCount "sorted" 1 1 _) (wpAny_pure ?_)
  refine wpAny_bind (collect_tup hl ?_ (by rw [sizeLine_eq]; omega))
  refine wpAny_bind (wpAny_newList ?_ (by rw [sizeLine_eq]; omega))
  have hsz : ((s.heap.push (seqObj "list" #[] 0)).update s.heap.objs.size (Obj.mapSeq (· ++ vs.toArray))).objs.size = s.heap.objs.size + 1 := by
    rw [Heap.size_update, size_push']
  have hoL : (((s.heap.push (seqObj "list" #[] 0)).update s.heap.objs.size (Obj.mapSeq (· ++ vs.toArray))).push (seqObj "list" vs.toArray 0)).get? (s.heap.objs.size + 1) = some (seqObj "list" vs.toArray 0) := by
    rw [← hsz]; exact Heap.get?_push_size _ rfl
  show wpAny _ _ _ _ _ { s with heap := ((s.heap.push (seqObj "list" #[] 0)).update s.heap.objs.size (Obj.mapSeq (· ++ vs.toArray))).push (seqObj "list" vs.toArray 0) }
  rw [hsz]
  refine wpAny_bind (wpAny_holding (wpAny_call_entry slot_list_sort ⟨_, hoL, rfl⟩ entry_list_sort (list_sort_tree hoL hI h64 fun out ns' a1 a2 a3 => ⟨_, rfl, ?_⟩) (args_list_sort _)))
  exact wpAny_pure ⟨_, rfl, h out ns' a1 a2 a3⟩
end
section
variable {X : Cx}
theorem cr_sortIT : CallR X (.builtin "sorted") (rSortIT X.K) := by
  intro pins s σ H vs us Q I r h
  obtain ⟨a, ns, rfl, hs, h64, q⟩ := h
  obtain ⟨its, rv, hl, _⟩ := I.tuple hs
  rw [Vals.ref1 r]
  have hi := rv.ints
  refine sorted_tupI hl hi (by rw [hi.length]; exact h64) fun out ns' h1 h2 h3 => ?_
  obtain ⟨ep, he'⟩ := PyProof.Rows.sortedAll_at s.heap its out
  have hlen : (ns'.map V.int).length ≤ sizeLine := by rw [List.length_map, h2.length_eq]; exact small64 h64
  exact ⟨.ref _, upd H (s.heap.objs.size + 1) (.lst (ns'.map V.int)), I.laid (t' := s.toks) (fun _ _ => PyProof.Rows.sortedAll_old) (Nat.le_succ _) ⟨hlen, out.toList, ep, vals_of_ints h1, he'⟩, rfl, q ns' _ h2 h3 (I.hok.fresh (Nat.le_succ _))⟩
/-- {k: v}, k a tuple of ints and texts -/
def tDispT (tk tv : TE) : TE := fun σ H Q => ∀ p, H p = none → tk σ (upd H p (.dT [])) fun x H1 => tv σ H1 fun y H2 => ∃ (b : Addr) (k : List Key), x = .ref b ∧ H2 p = some (.dT []) ∧ H2 b = some (.tup (k.map kV)) ∧ Q (.ref p) (upd H2 p (.dT [(k, y)]))
theorem pe_dispT {k v : Expr} {pos : Pos} {tk tv : TE} (hu : X.A.units + 1 < cLine) (hk : PE X k tk) (hv : PE X v tv) : PE X (.Dict [some k] [v] pos) (tDispT tk tv) := by
  refine ⟨fun pins s σ H Q I q => ?_⟩
  have hn := I.hok.fresh (Nat.le_refl s.heap.objs.size)
  have I1 := I.laid (a := s.heap.objs.size) (o := .dT []) (h' := s.heap.push { cls := .type "dict", data := .dict #[] }) (t' := s.toks) (fun _ _ q => Heap.get?_push_of_some _ q) (Nat.le_refl _) (dt_empty s.heap I.big)
  have hroom : (tupleKind (mixKind X.prog X.w)).room X.A := (show X.A.units < cLine by omega)
  rw [arm_eval_Dict, zip_pairTrees [some k] [v] X.env pos rfl rfl, dictDisplay_pairs (pairTrees [some k] [v] X.env pos) (by intro z; cases z) (by show 1 < 17; omega)]
  refine wpAny_bind (wpAny_standAt (wpAny_bind (wpAny_subDictH (knd := tupleKind (mixKind X.prog X.w)) (Q := fun d s' => wpAny (model X.prog X.w) X.A (pure (Value.ref d)) (EP X pins σ Q) X.xe s') hroom (by show 1 ≤ 15; omega) ?_)))
  refine pairTrees_cons_walk (thn (hk.run pins _ σ _ _ I1 (q _ hn)) fun u s1 ⟨x, H1, I2, rx, q1⟩ => thn (hv.run pins s1 σ H1 _ I2 q1) fun w2 s2 ⟨y, H2, I3, ry, q2⟩ => pairTrees_nil_walk ?_)
  obtain ⟨b, ks, rfl, hp, hb, qq⟩ := q2
  cases rx
  obtain ⟨z, hd, xs0, rel, dd⟩ := dt_of I3.hok hp
  cases rel
  refine ⟨[(ks, b, w2)], ⟨rfl, rfl, key_of I3.hok hb, trivial⟩, dd, fun h' tk' dd' hs => wpAny_pure ⟨.ref s.heap.objs.size, _, ?_, rfl, qq⟩⟩
  obtain ⟨o, es, ep, ho, h2, h3, h4, _, h5⟩ := dd'
  refine d_write I3 (by rw [hp]; exact True.intro) hs ⟨o, ho⟩ ⟨by show 1 ≤ sizeLine; decide, hd, [(ks, b, w2)], .cons ⟨rfl, ?_, ry⟩ .nil, o, es, ep, ho, h2, h3, h4, h5⟩
  rw [upd_ne (ne_of hb hp (fun z => nomatch z))]
  exact hb
end
end L2

set_option Elab.async false
set_option linter.all false
set_option maxRecDepth 100000
set_option maxHeartbeats 4000000
/-! the common ground: turns and locks in the heap, defs by name -/
namespace Lt
open PySem PySem.Spec PyProof.Rows L2
/-! ### heaps -/
theorem same_new {H : Hp} {p : Addr} {o : HO} (h : H p = none) : Same H (upd H p o) := fun b x e => by
  rw [upd_ne (ne_of_none e h)]
  exact e
/-- an object that H does not know may change -/
theorem same_mut {H H' : Hp} {p : Addr} {o : HO} (e : Same H H') (h : H p = none) : Same H (upd H' p o) := fun a u ha => by
  rw [upd_ne (ne_of_none ha h)]
  exact e a u ha
/-- the tuples stay -/
def Tm (H H' : Hp) : Prop := (∀ a xs, H a = some (.tup xs) → H' a = some (.tup xs)) ∧ ∀ a o xs, H a = some (.frz o (.tup xs)) → H' a = some (.frz o (.tup xs))
theorem Tm.refl (H : Hp) : Tm H H := ⟨fun _ _ h => h, fun _ _ _ h => h⟩
theorem Tm.trans {H H1 H2 : Hp} (a : Tm H H1) (b : Tm H1 H2) : Tm H H2 := ⟨fun c x h => b.1 c x (a.1 c x h), fun c o x h => b.2 c o x (a.2 c o x h)⟩
theorem Tm.of {H H' : Hp} (e : Same H H') : Tm H H' := ⟨fun a xs h => e a _ h, fun a o xs h => e a _ h⟩
/-- a tuple to be read: its object known or not -/
abbrev RT (H : Hp) (a : Addr) (xs : List V) : Prop := Rd H a (.tup xs)
theorem RT.tm {H H' : Hp} {a : Addr} {xs : List V} (h : RT H a xs) (e : Tm H H') : RT H' a xs := by
  rcases h with h | ⟨o, h⟩
  · exact .inl (e.1 _ _ h)
  · exact .inr ⟨o, e.2 _ _ _ h⟩
theorem RT.sm {H H' : Hp} {a : Addr} {xs : List V} (h : RT H a xs) (e : Same H H') : RT H' a xs := h.tm (.of e)
theorem RT.sq {K : PySem.W.Frag} {H : Hp} {a : Addr} {xs : List V} (h : RT H a xs) : SqT K H a xs := .inl h
/-- what is no tuple may change -/
theorem Tm.mut {H : Hp} {p : Addr} {o u : HO} (h : H p = some u) (hu : ∀ xs, u ≠ .tup xs) (hf : ∀ ob xs, u ≠ .frz ob (.tup xs)) : Tm H (upd H p o) :=
  ⟨fun a xs e => by rw [upd_ne (ne_of e h (fun z => hu xs z.symm))]; exact e, fun a ob xs e => by rw [upd_ne (ne_of e h (fun z => hf ob xs z.symm))]; exact e⟩
theorem Tm.lst {H : Hp} {p : Addr} {o : HO} {ys : List V} (h : H p = some (.lst ys)) : Tm H (upd H p o) := .mut h (fun _ z => nomatch z) fun _ _ z => nomatch z
theorem Tm.dT {H : Hp} {p : Addr} {o : HO} {ys : List (List Key × V)} (h : H p = some (.dT ys)) : Tm H (upd H p o) := .mut h (fun _ z => nomatch z) fun _ _ z => nomatch z
theorem Tm.new {H : Hp} {p : Addr} {o : HO} (h : H p = none) : Tm H (upd H p o) := .of (same_new h)

/-! ### turns: tuples of numbers -/
def nI (n : Nat) : V := .int (n : Int)
def nIs (t : List Nat) : List V := t.map nI
def TN (H : Hp) (v : V) (t : List Nat) : Prop := ∃ a, v = .ref a ∧ RT H a (nIs t)
/-- one that no dict refuses as a key -/
def TK (H : Hp) (v : V) (t : List Nat) : Prop := ∃ a, v = .ref a ∧ H a = some (.tup (nIs t))
theorem TK.tn {H : Hp} {v : V} {t : List Nat} (h : TK H v t) : TN H v t := let ⟨a, e, h⟩ := h; ⟨a, e, .inl h⟩
theorem TK.tm {H H' : Hp} {v : V} {t : List Nat} (e : Tm H H') (h : TK H v t) : TK H' v t := let ⟨a, ev, ha⟩ := h; ⟨a, ev, e.1 _ _ ha⟩
/-- a tuple of turns -/
def TT (H : Hp) (v : V) (ts : List (List Nat)) : Prop := ∃ a xs, v = .ref a ∧ H a = some (.tup xs) ∧ Paired (TN H) xs ts
/-- a list of turns at a -/
def LT (H : Hp) (a : Addr) (ts : List (List Nat)) : Prop := ∃ xs, H a = some (.lst xs) ∧ Paired (TN H) xs ts
theorem TN.tm {H H' : Hp} {v : V} {t : List Nat} (e : Tm H H') (h : TN H v t) : TN H' v t := let ⟨a, ev, ha⟩ := h; ⟨a, ev, ha.tm e⟩
theorem TNs.tm {H H' : Hp} (e : Tm H H') : ∀ {xs : List V} {ts : List (List Nat)}, Paired (TN H) xs ts → Paired (TN H') xs ts
  | _, _, .nil => .nil
  | _, _, .cons r t => .cons (r.tm e) (TNs.tm e t)
theorem TT.tm {H H' : Hp} {v : V} {t : List (List Nat)} (e : Tm H H') (h : TT H v t) : TT H' v t := let ⟨a, xs, ev, ha, p⟩ := h; ⟨a, xs, ev, e.1 _ _ ha, TNs.tm e p⟩
theorem LT.same {H H' : Hp} {v : Addr} {t : List (List Nat)} (e : Same H H') (h : LT H v t) : LT H' v t := let ⟨xs, ha, p⟩ := h; ⟨xs, e _ _ ha, TNs.tm (.of e) p⟩
theorem nIs_len (t : List Nat) : (nIs t).length = t.length := List.length_map ..
theorem nIs_get (t : List Nat) (i : Nat) : (nIs t)[i]? = (t[i]?).map nI := List.getElem?_map ..
theorem nIs_int (t : List Nat) : nIs t = (t.map Int.ofNat).map V.int := by
  unfold nIs
  rw [List.map_map]
  rfl
theorem nIs_key (t : List Nat) : nIs t = (t.map fun n : Nat => (Sum.inl (Int.ofNat n) : Key)).map kV := by
  unfold nIs
  rw [List.map_map]
  rfl
theorem Paired.getL {α β : Type} {F : α → β → Prop} : ∀ {xs : List α} {ys : List β} {i : Nat} {x : α}, Paired F xs ys → xs[i]? = some x → ∃ y, ys[i]? = some y ∧ F x y
  | _, _, _, _, .nil, e => by simp at e
  | _, _, 0, _, .cons r _, e => by simp at e; subst e; exact ⟨_, rfl, r⟩
  | _, _, i + 1, x, .cons _ t, e => by
    obtain ⟨u, h1, h2⟩ := Paired.getL (i := i) (x := x) t (by simpa using e)
    exact ⟨u, by simpa using h1, h2⟩
theorem Paired.getR {α β : Type} {F : α → β → Prop} : ∀ {xs : List α} {ys : List β} {i : Nat} {y : β}, Paired F xs ys → ys[i]? = some y → ∃ x, xs[i]? = some x ∧ F x y
  | _, _, _, _, .nil, e => by simp at e
  | _, _, 0, _, .cons r _, e => by simp at e; subst e; exact ⟨_, rfl, r⟩
  | _, _, i + 1, x, .cons _ t, e => by
    obtain ⟨u, h1, h2⟩ := Paired.getR (i := i) (y := x) t (by simpa using e)
    exact ⟨u, by simpa using h1, h2⟩
theorem Paired.app {α β : Type} {F : α → β → Prop} : ∀ {xs xs' : List α} {ys ys' : List β}, Paired F xs ys → Paired F xs' ys' → Paired F (xs ++ xs') (ys ++ ys')
  | _, _, _, _, .nil, h => h
  | _, _, _, _, .cons r t, h => .cons r (Paired.app t h)
theorem Paired.one {α β : Type} {F : α → β → Prop} {x : α} {y : β} (h : F x y) : Paired F [x] [y] := .cons h .nil
/-! ### data for == and in -/
def dN (n : Nat) : PyData := .int (n : Int)
def dT (t : List Nat) : PyData := .tuple (t.map dN)
theorem dp_nats {K : PySem.W.Frag} {H : Hp} : ∀ t : List Nat, DpAll K H (nIs t) (t.map dN)
  | [] => .nil
  | n :: t => .cons (.int _) (dp_nats t)
theorem TN.dp {K : PySem.W.Frag} {H : Hp} {v : V} {t : List Nat} (h : TN H v t) : Dp K H v (dT t) := by
  obtain ⟨a, rfl, ha⟩ := h
  exact .tup ha.sq (dp_nats t)
theorem TNs.dp {K : PySem.W.Frag} {H : Hp} : ∀ {xs : List V} {ts : List (List Nat)}, Paired (TN H) xs ts → DpAll K H xs (ts.map dT)
  | _, _, .nil => .nil
  | _, _, .cons r t => .cons r.dp (TNs.dp t)
theorem TT.dp {K : PySem.W.Frag} {H : Hp} {v : V} {ts : List (List Nat)} (h : TT H v ts) : Dp K H v (.tuple (ts.map dT)) := by
  obtain ⟨a, xs, rfl, ha, p⟩ := h
  exact .tup (SqT.of ha) (TNs.dp p)
theorem LT.dp {K : PySem.W.Frag} {H : Hp} {a : Addr} {ts : List (List Nat)} (h : LT H a ts) : Dp K H (.ref a) (.list (ts.map dT)) := by
  obtain ⟨xs, ha, p⟩ := h
  exact .lst (SqL.of ha) (TNs.dp p)
theorem eqvAll_map {α : Type} [DecidableEq α] {f : α → PyData} (h : ∀ x y, PyData.eqv (f x) (f y) = decide (x = y)) : ∀ xs ys : List α, PyData.eqvAll (xs.map f) (ys.map f) = decide (xs = ys)
  | [], [] => by simp [PyData.eqvAll]
  | [], _ :: _ => by simp [PyData.eqvAll]
  | _ :: _, [] => by simp [PyData.eqvAll]
  | x :: xs, y :: ys => by
    rw [List.map_cons, List.map_cons, PyData.eqvAll, h, eqvAll_map h xs ys]
    by_cases e1 : x = y <;> by_cases e2 : xs = ys <;> simp [e1, e2]
theorem eqv_dN (a b : Nat) : PyData.eqv (dN a) (dN b) = decide (a = b) := by
  show ((a : Int) == (b : Int)) = decide (a = b)
  by_cases e : a = b
  · subst e; simp
  · rw [decide_eq_false e]
    exact beq_eq_false_iff_ne.mpr (by omega)
theorem eqv_dT (s t : List Nat) : PyData.eqv (dT s) (dT t) = decide (s = t) := by
  show PyData.eqvAll (s.map dN) (t.map dN) = _
  exact eqvAll_map eqv_dN s t
theorem eqv_dTT (s t : List (List Nat)) : PyData.eqv (.tuple (s.map dT)) (.tuple (t.map dT)) = decide (s = t) := by
  show PyData.eqvAll (s.map dT) (t.map dT) = _
  exact eqvAll_map eqv_dT s t
theorem depth_nats : ∀ t : List Nat, PyData.depthAll (t.map dN) = 0
  | [] => rfl
  | n :: t => by
    show max (PyData.depth (dN n)) (PyData.depthAll (t.map dN)) = 0
    rw [depth_nats t]
    rfl
theorem can_nats : ∀ t : List Nat, PyData.canLayAll0 (t.map dN) = true
  | [] => rfl
  | n :: t => by
    show (PyData.canLay0 (dN n) && PyData.canLayAll0 (t.map dN)) = true
    rw [can_nats t]
    rfl
theorem depth_turns : ∀ t : List (List Nat), PyData.depthAll (t.map dT) ≤ 1
  | [] => Nat.zero_le _
  | n :: t => by
    show max (PyData.depthAll (n.map dN) + 1) (PyData.depthAll (t.map dT)) ≤ 1
    rw [depth_nats n]
    have := depth_turns t
    omega
theorem can_turns : ∀ t : List (List Nat), PyData.canLayAll0 (t.map dT) = true
  | [] => rfl
  | n :: t => by
    show (PyData.canLayAll0 (n.map dN) && PyData.canLayAll0 (t.map dT)) = true
    rw [can_turns t, can_nats n]
    rfl
theorem sh_T (t : List Nat) : SeqAt.shaped (dT t) = true := by
  show (PyData.canLayAll0 (t.map dN) && decide (PyData.depthAll (t.map dN) + 1 ≤ 64)) = true
  rw [can_nats, depth_nats]
  rfl
theorem sh_TT (t : List (List Nat)) : SeqAt.shaped (.tuple (t.map dT)) = true := by
  show (PyData.canLayAll0 (t.map dT) && decide (PyData.depthAll (t.map dT) + 1 ≤ 64)) = true
  have := depth_turns t
  rw [can_turns, decide_eq_true (by omega)]
  rfl
theorem sh_LT (t : List (List Nat)) : SeqAt.shaped (.list (t.map dT)) = true := sh_TT t
theorem any_dT (ts : List (List Nat)) (t : List Nat) : ((ts.map dT).any fun z => PyData.eqv z (dT t)) = decide (t ∈ ts) := by
  induction ts with
  | nil => simp
  | cons a ts ih =>
    rw [List.map_cons, List.any_cons, ih, eqv_dT]
    by_cases e : a = t
    · subst e; simp
    · have e' : ¬ t = a := fun z => e z.symm
      simp [e, e']

/-! ### defs by name -/
section
variable (P : Program) (w : World) (K : PySem.W.Frag) (mg : Str → Option Value) (base : Heap)
/-- the def x of the module's top keeps the promise sp -/
def Has (CX : CXT) (k : Nat) (x : Str) (ps : List Str) (sp : Sp) : Prop :=
  ∃ (f : Addr) (fd : FuncData), mg x = some (.ref f) ∧ PySem.W.keepIn K (.ref f) = true ∧ Binds K fd ps [] ∧ FnOk P w K mg base CX k f fd ps sp
/-- the def x of the module's top is the statement st -/
def Top (x : Str) (st : Stmt) (ps : List Str) : Prop := ∃ (f : Addr) (fd : FuncData), mg x = some (.ref f) ∧ Fun K x x st f fd ∧ Binds K fd ps []
end
section
variable {P : Program} {w : World} {K : PySem.W.Frag} {mg : Str → Option Value} {base : Heap}
theorem Has.mono {CX : CXT} {j k : Nat} {x : Str} {ps : List Str} {sp : Sp} (h : Has P w K mg base CX j x ps sp) (l : j ≤ k) : Has P w K mg base CX k x ps sp :=
  let ⟨f, fd, a, b, c, d⟩ := h
  ⟨f, fd, a, b, c, d.mono l⟩
theorem Has.imp {CX : CXT} {k : Nat} {x : Str} {ps : List Str} {sp sp' : Sp} (h : Has P w K mg base CX k x ps sp) (i : ∀ vs H Q E, sp' vs H Q E → sp vs H Q E) : Has P w K mg base CX k x ps sp' :=
  let ⟨f, fd, a, b, c, d⟩ := h
  ⟨f, fd, a, b, c, d.imp i⟩
/-- THE RULE for a def that raises nothing -/
theorem Top.ok {x : Str} {st : Stmt} {N ps : List Str} {k : Nat} {sp : Sp} (T : Top K mg x st ps) (S : FnScope N ps (defScope st)) (len : ∀ vs H Q E, sp vs H Q E → vs.length = ps.length)
    (hbody : ∀ (f : Addr) (cdv : Value) (A : Around) (outer : List Env) (s : Shared) (H : Hp) (vs : List V) (Q : VK) (E : XK), Room k (A.deeper (envOfC x (defScope st) s.heap.objs.size f cdv)) → sp vs H Q E →
      ∃ t, PSs (cxOf CX0 P w K mg base N x (defScope st) f cdv A outer s H E).nox (defBody st) t ∧ t { nx := fun _ H' => Q .non H', rt := Q } (start N vs) H) : Has P w K mg base CX0 (k + 1) x ps sp := by
  obtain ⟨f, fd, hm, F, b⟩ := T
  exact ⟨f, fd, hm, F.kp, b, F.ok S len fun cdv A outer s H vs Q E hr h => hbody f cdv A outer s H vs Q E hr h⟩
end
/-- a call of such a def -/
theorem pe_has {X : Cx} {k : Nat} {x : Str} {ps : List Str} {sp : Sp} {e : Expr} {es : List Expr} {t : TA} {p pos : Pos} (h : Has X.prog X.w X.K X.mg X.base CX0 k x ps sp) (hr : Room k X.A) (hg : Gl X x) (ha : PA X (e :: es) t)
    (hdb : (x == ("__debug__" : Str)) = false := by decide) (he : starEach (e :: es) X.env = (false, eval e X.env) :: starEach es X.env := by rfl) (hpl : (backTo pos (starEach es X.env)).any (·.1) = false := by rfl) :
    PE X (.Call (.Name x p) (e :: es) [] pos) (tCall sp [] E0 t) := by
  obtain ⟨f, fd, hm, hk, hb, F⟩ := h
  exact pe_call F hr hg hm hk hb .nil pass0 ha hdb he hpl
end Lt

set_option Elab.async false
set_option linter.all false
set_option maxRecDepth 100000
set_option maxHeartbeats 4000000
/-! errors of the program's own -/
namespace L2
open PySem PySem.Spec PyProof.Rows
section
variable {X : Cx} {pos : Pos}
/-- X(), X an own exception class without own __init__ -/
theorem pmk_own0 {C : Addr} {bmB : List Value} {B newId initId : String} {x : Str} {p : Pos} (F : ExcBaseFacts B newId initId bmB) (q : PySem.W.excIn X.K C bmB newId = true) (gC : X.mg x = some (.ref C))
    (kC : PySem.W.keepIn X.K (.ref C) = true) (r : Raises X (.ref C)) (hg : Gl X x) (hdb : (x == ("__debug__" : Str)) = false := by decide) :
    PMk X (.Call (.Name x p) [] [] pos) (fun _ H Q => Q (.ref C) none H) := by
  intro pins s σ H Q I h
  refine wpAny_Call_Name_kw (ld_glob I hg gC ?_ hdb)
  refine PySem.W.callWith_K0 I.kIn kC ?_
  obtain ⟨bm, N, nm, qn, bs, hdct, sn, sub, ab, col, dd, k0, k1, k2, k3, k5, mN, hC, hN, hni, T⟩ := exc_obj I.kIn q
  exact wpAny_call_exc_subT F T hC hN hni (fun h' e hm => mk_of I hm r h (I.hok.gone hm.new)) (Nat.zero_le _)
end
end L2
namespace Lt
open PySem PySem.Spec PyProof.Rows L2
/-- __init__(self, f): self.f = f -/
def spInit (K : PySem.W.Frag) (fld : Str) : Sp := fun vs H Q _ => ∃ (a C : Addr) (v : V), vs = [.ref a, v] ∧ OexC K C ∧ PySem.W.findIn K (.ref C) fld = some none ∧ H a = some (exo a C none) ∧
  ∀ dx, H dx = none → dx ≠ a → Q .non (upd (upd H dx (exd dx [(fld, v)])) a (exo a C (some dx)))
section
variable (P : Program) (w : World) (K : PySem.W.Frag) (mg : Str → Option Value) (base : Heap)
/-- an own error class with the field fld, set by its __init__ -/
structure ErrI (x fld : Str) (C : Addr) : Prop where
  oex : OexC K C
  g : mg x = some (.ref C)
  no : PySem.W.findIn K (.ref C) fld = some none
  init : ∃ fI fd, PySem.W.findIn K (.ref C) "__init__" = some (some (.ref fI)) ∧ PySem.W.typeIn K (.ref fI) = some (.type "function") ∧ Binds K fd ["self", fld] [] ∧ FnOk P w K mg base CX0 1 fI fd ["self", fld] (spInit K fld)
  xf : XfC K C
  exm : PySem.W.exmOne K (.ref C) (.ref C) = some true
/-- one without -/
structure Err0 (x : Str) (C : Addr) : Prop where
  q : PySem.W.excIn K C [.type "ValueError", .type "Exception", .type "BaseException", .type "object"] "ValueError.__new__" = true
  g : mg x = some (.ref C)
  k : PySem.W.keepIn K (.ref C) = true
  exC : PySem.W.subIn K (.ref C) (.type "BaseException") = some true
  tyC : PySem.W.typeIn K (.ref C) = some (.type "type")
  exm : PySem.W.exmOne K (.ref C) (.ref C) = some true
end
/-- an error with its field lies behind H -/
def BadF (C : Addr) (fld : Str) (v : V) (H : Hp) (E : XK) : Prop := ∀ d H', Same H H' → H' d = some (.xd [(fld, v)]) → E (.ref C) (some d) H'
/-- an error without fields -/
def Bad0 (C : Addr) (H : Hp) (E : XK) : Prop := ∀ H', Same H H' → E (.ref C) none H'
theorem BadF.same {C : Addr} {fld : Str} {v : V} {H H' : Hp} {E : XK} (h : BadF C fld v H E) (s : Same H H') : BadF C fld v H' E := fun d H2 s2 => h d H2 (s.trans s2)
theorem Bad0.same {C : Addr} {H H' : Hp} {E : XK} (h : Bad0 C H E) (s : Same H H') : Bad0 C H' E := fun H2 s2 => h H2 (s.trans s2)
theorem mk_read {K : PySem.W.Frag} {C : Addr} {fld : Str} {v : V} {H1 : Hp} {Q : XK} (oex : OexC K C) (no : PySem.W.findIn K (.ref C) fld = some none) (h : BadF C fld v H1 Q) :
    [v].length ≤ 1000 ∧ ∀ a, H1 a = none → spInit K fld (.ref a :: ([v] ++ [])) (upd H1 a (exo a C none))
      (fun u H2 => u = .non ∧ ∃ (d : Addr) (fs : List (Str × V)), H2 a = some (exo a C (some d)) ∧ H2 d = some (exd d fs) ∧ H1 d = none ∧ Q (.ref C) (some d) (upd (del H2 a) d (.xd fs))) (fun _ _ _ => False) := by
  refine ⟨by show 1 ≤ 1000; omega, fun a ha => ⟨a, C, v, rfl, oex, no, upd_same, fun dx hdx hne => ⟨rfl, dx, [(fld, v)], upd_same, ?_, ?_, ?_⟩⟩⟩
  · rw [upd_ne hne, upd_same]
  · rw [upd_ne hne] at hdx
    exact hdx
  · rw [upd_ne hne] at hdx
    refine h dx _ (fun b o e => ?_) upd_same
    have h1 : b ≠ a := ne_of_none e ha
    have h2 : b ≠ dx := ne_of_none e hdx
    rw [upd_ne h2, del_ne h1, upd_ne h1, upd_ne h2, upd_ne h1]
    exact e
section
variable {X : Cx} {P : Program} {w : World} {K : PySem.W.Frag} {mg : Str → Option Value} {base : Heap}
/-- raise X(e) -/
theorem pmk_errI {x fld : Str} {C : Addr} {e : Expr} {ta : TA} {p pos : Pos} (T : ErrI X.prog X.w X.K X.mg X.base x fld C) (hr : Room 2 X.A) (hg : Gl X x) (ha : PA X [e] ta)
    (hdb : (x == ("__debug__" : Str)) = false := by decide) (he : starEach (e :: []) X.env = (false, eval e X.env) :: starEach [] X.env := by rfl) (hpl : (backTo pos (starEach [] X.env)).any (·.1) = false := by rfl) :
    PMk X (.Call (.Name x p) [e] [] pos) (tMkO C (spInit X.K fld) [] ta) := by
  obtain ⟨fI, fd, iC, tI, b, F⟩ := T.init
  exact pmk_oex T.oex iC tI F hr b .nil pass0 hg T.g ha hdb he hpl
theorem pmk_err0 {x : Str} {C : Addr} {p pos : Pos} (T : Err0 X.K X.mg x C) (hg : Gl X x) (hdb : (x == ("__debug__" : Str)) = false := by decide) :
    PMk X (.Call (.Name x p) [] [] pos) (fun _ H Q => Q (.ref C) none H) := pmk_own0 PySem.F.excBase_ValueError T.q T.g T.k (raises_own T.exC T.tyC) hg hdb
/-- THE RULE for a def that may raise -/
theorem Top.okX {x : Str} {st : Stmt} {N ps : List Str} {k : Nat} {sp : Sp} (T : Top K mg x st ps) (S : FnScope N ps (defScope st)) (len : ∀ vs H Q E, sp vs H Q E → vs.length = ps.length)
    (hbody : ∀ (f : Addr) (cdv : Value) (A : Around) (outer : List Env) (s : Shared) (H : Hp) (vs : List V) (Q : VK) (E : XK), Room k (A.deeper (envOfC x (defScope st) s.heap.objs.size f cdv)) → sp vs H Q E →
      ∃ t, PSs (cxOf (L2.CX P w) P w K mg base N x (defScope st) f cdv A outer s H E) (defBody st) t ∧ t { nx := fun _ H' => Q .non H', rt := Q } (start N vs) H) : Has P w K mg base (L2.CX P w) (k + 1) x ps sp := by
  obtain ⟨f, fd, hm, F, b⟩ := T
  exact ⟨f, fd, hm, F.kp, b, F.okX S len fun cdv A outer s H vs Q E hr h => hbody f cdv A outer s H vs Q E hr h⟩
/-- a call of a def that may raise, in a body that lets it out -/
theorem pe_hasX {k : Nat} {x : Str} {ps : List Str} {sp : Sp} {e : Expr} {es : List Expr} {t : TA} {p pos : Pos} {E : XK} (h : Has X.prog X.w X.K X.mg X.base (L2.CX X.prog X.w) k x ps sp) (hr : Room k X.A) (hg : Gl X x) (hx : Passes (L2.CX X.prog X.w) X E) (ha : PA X (e :: es) t)
    (hdb : (x == ("__debug__" : Str)) = false := by decide) (he : starEach (e :: es) X.env = (false, eval e X.env) :: starEach es X.env := by rfl) (hpl : (backTo pos (starEach es X.env)).any (·.1) = false := by rfl) :
    PE X (.Call (.Name x p) (e :: es) [] pos) (tCall sp [] E t) := by
  obtain ⟨f, fd, hm, hk, hb, F⟩ := h
  exact pe_call F hr hg hm hk hb .nil hx ha hdb he hpl
/-- the same where what is raised is caught around -/
theorem pe_hasS {k : Nat} {x : Str} {ps : List Str} {sp : Sp} {e : Expr} {es : List Expr} {t : TA} {p pos : Pos} {E : L2.St → XK} (h : Has X.prog X.w X.K X.mg X.base (L2.CX X.prog X.w) k x ps sp) (hr : Room k X.A) (hg : Gl X x) (hx : ∀ σ, PassesAt (L2.CX X.prog X.w) X σ (E σ)) (ha : PA X (e :: es) t)
    (hdb : (x == ("__debug__" : Str)) = false := by decide) (he : starEach (e :: es) X.env = (false, eval e X.env) :: starEach es X.env := by rfl) (hpl : (backTo pos (starEach es X.env)).any (·.1) = false := by rfl) :
    PE X (.Call (.Name x p) (e :: es) [] pos) (tCallS sp E t) := by
  obtain ⟨f, fd, hm, hk, hb, F⟩ := h
  exact pe_callS F hr hg hm hk hb hx ha hdb he hpl
end
/-- no error is wished for: the same def as one that raises nothing -/
theorem pe_hasL {X : Cx} {k : Nat} {x : Str} {ps : List Str} {sp : Sp} {e : Expr} {es : List Expr} {t : TA} {p pos : Pos} (h : Has X.prog X.w X.K X.mg X.base (L2.CX X.prog X.w) k x ps sp) (hr : Room k X.A) (hg : Gl X x) (ha : PA X (e :: es) t)
    (hdb : (x == ("__debug__" : Str)) = false := by decide) (he : starEach (e :: es) X.env = (false, eval e X.env) :: starEach es X.env := by rfl) (hpl : (backTo pos (starEach es X.env)).any (·.1) = false := by rfl) :
    PE X (.Call (.Name x p) (e :: es) [] pos) (tCall sp [] E0 t) := pe_hasX h hr hg passL ha hdb he hpl
end Lt

set_option linter.all false
set_option Elab.async false
/-! permutations as lists of numbers; the turns that given ones make -/
namespace Lt
def IsP (n : Nat) (t : List Nat) : Prop := t.Perm (List.range n)
instance (n : Nat) (t : List Nat) : Decidable (IsP n t) := inferInstanceAs (Decidable (t.Perm (List.range n)))
theorem IsP.len {n : Nat} {t : List Nat} (h : IsP n t) : t.length = n := by
  have e := List.Perm.length_eq h
  rw [List.length_range] at e
  exact e
theorem IsP.nd {n : Nat} {t : List Nat} (h : IsP n t) : t.Nodup := (List.Perm.nodup_iff h).mpr List.nodup_range
theorem IsP.mem {n : Nat} {t : List Nat} (h : IsP n t) {i : Nat} : i ∈ t ↔ i < n := (List.Perm.mem_iff h).trans List.mem_range
theorem IsP.lt {n : Nat} {t : List Nat} (h : IsP n t) : ∀ i ∈ t, i < n := fun i hi => h.mem.mp hi
theorem IsP.still (n : Nat) : IsP n (List.range n) := List.Perm.refl _
def prod (x y : List Nat) : List Nat := x.map fun i => y.getD i 0
theorem prod_len (x y : List Nat) : (prod x y).length = x.length := List.length_map ..
theorem map_getD_range : ∀ (y : List Nat), (List.range y.length).map (fun i => y.getD i 0) = y := fun y => by
  apply List.ext_getElem?
  intro i
  rw [List.getElem?_map]
  by_cases h : i < y.length
  · rw [List.getElem?_range h, Option.map_some, List.getD_eq_getElem?_getD, List.getElem?_eq_getElem h, Option.getD_some]
  · rw [List.getElem?_eq_none (by rw [List.length_range]; omega), List.getElem?_eq_none (by omega), Option.map_none]
theorem IsP.prod {n : Nat} {x y : List Nat} (hx : IsP n x) (hy : IsP n y) : IsP n (prod x y) := by
  have h : (Lt.prod x y).Perm ((List.range n).map fun i => y.getD i 0) := List.Perm.map _ hx
  have e := map_getD_range y
  rw [hy.len] at e
  rw [e] at h
  exact h.trans hy
theorem prod_still_l {n : Nat} {x : List Nat} (hx : x.length = n) : prod (List.range n) x = x := by
  subst hx
  exact map_getD_range x
theorem getD_range {n i : Nat} (h : i < n) : (List.range n).getD i 0 = i := by
  rw [List.getD_eq_getElem?_getD, List.getElem?_range h, Option.getD_some]
theorem prod_still_r {n : Nat} {x : List Nat} (hx : ∀ i ∈ x, i < n) : prod x (List.range n) = x := by
  unfold prod
  refine (List.map_congr_left (g := id) fun i hi => ?_).trans (List.map_id x)
  exact getD_range (hx i hi)
theorem prod_assoc {x y z : List Nat} (hx : ∀ i ∈ x, i < y.length) : prod (prod x y) z = prod x (prod y z) := by
  unfold prod
  rw [List.map_map]
  refine List.map_congr_left fun i hi => ?_
  show z.getD (y.getD i 0) 0 = (y.map fun i => z.getD i 0).getD i 0
  rw [List.getD_eq_getElem?_getD (l := y.map _), List.getElem?_map, List.getD_eq_getElem?_getD (l := y), List.getElem?_eq_getElem (hx i hi)]
  rfl
def inv (t : List Nat) : List Nat := (List.range t.length).map fun p => t.idxOf p
theorem inv_len (t : List Nat) : (inv t).length = t.length := by
  unfold inv
  rw [List.length_map, List.length_range]
theorem map_idxOf {t : List Nat} (h : t.Nodup) : t.map (fun p => t.idxOf p) = List.range t.length := by
  apply List.ext_getElem?
  intro i
  rw [List.getElem?_map]
  by_cases hi : i < t.length
  · rw [List.getElem?_range hi, List.getElem?_eq_getElem hi, Option.map_some, h.idxOf_getElem i hi]
  · rw [List.getElem?_eq_none (by omega), List.getElem?_eq_none (by rw [List.length_range]; omega), Option.map_none]
theorem IsP.inv {n : Nat} {t : List Nat} (h : IsP n t) : IsP n (inv t) := by
  have e := map_idxOf h.nd
  rw [h.len] at e
  have h2 : ((List.range n).map fun p => t.idxOf p).Perm (t.map fun p => t.idxOf p) := List.Perm.map _ (List.Perm.symm h)
  rw [e] at h2
  unfold IsP Lt.inv
  rw [h.len]
  exact h2
theorem prod_inv_r {n : Nat} {t : List Nat} (h : IsP n t) : prod t (inv t) = List.range n := by
  have e : prod t (inv t) = t.map fun p => t.idxOf p := by
    unfold prod
    refine List.map_congr_left fun p hp => ?_
    have hl : p < t.length := by rw [h.len]; exact h.lt p hp
    show ((List.range t.length).map fun p => t.idxOf p).getD p 0 = t.idxOf p
    rw [List.getD_eq_getElem?_getD, List.getElem?_map, List.getElem?_range hl]
    rfl
  rw [e, map_idxOf h.nd, h.len]
theorem prod_inv_l {n : Nat} {t : List Nat} (h : IsP n t) : prod (inv t) t = List.range n := by
  unfold prod inv
  rw [List.map_map, h.len]
  refine (List.map_congr_left (g := id) fun p hp => ?_).trans (List.map_id _)
  have hm : p ∈ t := h.mem.mpr (List.mem_range.mp hp)
  show t.getD (t.idxOf p) 0 = p
  rw [List.getD_eq_getElem?_getD, List.getElem?_eq_getElem (List.idxOf_lt_length_of_mem hm), Option.getD_some, List.getElem_idxOf]
theorem inv_unique {n : Nat} {a b : List Nat} (ha : IsP n a) (hb : IsP n b) (h : prod a b = List.range n) : b = inv a := by
  have h1 : prod (prod (inv a) a) b = prod (inv a) (prod a b) := prod_assoc fun i hi => by rw [ha.len]; exact ha.inv.lt i hi
  rw [prod_inv_l ha, h, prod_still_l hb.len, prod_still_r ha.inv.lt] at h1
  exact h1
theorem inv_prod {n : Nat} {a b : List Nat} (ha : IsP n a) (hb : IsP n b) : inv (prod a b) = prod (inv b) (inv a) := by
  refine (inv_unique (ha.prod hb) (hb.inv.prod ha.inv) ?_).symm
  rw [prod_assoc fun i hi => by rw [hb.len]; exact ha.lt i hi]
  rw [← prod_assoc (x := b) fun i hi => by rw [hb.inv.len]; exact hb.lt i hi, prod_inv_r hb, prod_still_l ha.inv.len, prod_inv_r ha]
/-! ### the turns that makers make, one behind another -/
abbrev W := List Nat × List Nat
/-- the words behind one turn with the makers gs, the first of which stands at place p -/
def grow (t w : List Nat) : List (List Nat) → Nat → List W → List W
  | [], _, L => L
  | g :: gs, p, L => grow t w gs (p + 1) (if prod t g ∈ L.map (·.1) then L else L ++ [(prod t g, w ++ [p])])
/-- the words when the first k have been gone through -/
def qq (gs : List (List Nat)) (n : Nat) : Nat → List W
  | 0 => [(List.range n, [])]
  | k + 1 => match (qq gs n k)[k]? with
    | none => qq gs n k
    | some (t, w) => grow t w gs 0 (qq gs n k)
theorem grow_pre (t w : List Nat) : ∀ (gs : List (List Nat)) (p : Nat) (L : List W), ∃ M, grow t w gs p L = L ++ M
  | [], _, L => ⟨[], (List.append_nil L).symm⟩
  | g :: gs, p, L => by
    show ∃ M, grow t w gs (p + 1) (if prod t g ∈ L.map (·.1) then L else L ++ [(prod t g, w ++ [p])]) = L ++ M
    split
    · exact grow_pre t w gs (p + 1) L
    · obtain ⟨M, e⟩ := grow_pre t w gs (p + 1) (L ++ [(prod t g, w ++ [p])])
      exact ⟨[(prod t g, w ++ [p])] ++ M, by rw [e, List.append_assoc]⟩
theorem qq_pre (gs : List (List Nat)) (n : Nat) : ∀ k, ∃ M, qq gs n (k + 1) = qq gs n k ++ M := fun k => by
  show ∃ M, (match (qq gs n k)[k]? with
    | none => qq gs n k
    | some (t, w) => grow t w gs 0 (qq gs n k)) = qq gs n k ++ M
  split
  · exact ⟨[], (List.append_nil _).symm⟩
  · exact grow_pre _ _ _ _ _
theorem qq_pre' (gs : List (List Nat)) (n k : Nat) : ∀ j, ∃ M, qq gs n (k + j) = qq gs n k ++ M
  | 0 => ⟨[], (List.append_nil _).symm⟩
  | j + 1 => by
    obtain ⟨M, e⟩ := qq_pre' gs n k j
    obtain ⟨M', e'⟩ := qq_pre gs n (k + j)
    exact ⟨M ++ M', by rw [← List.append_assoc, ← e, ← e']; rfl⟩
theorem qq_mono (gs : List (List Nat)) (n : Nat) {k m : Nat} (h : k ≤ m) : ∃ M, qq gs n m = qq gs n k ++ M := by
  obtain ⟨M, e⟩ := qq_pre' gs n k (m - k)
  rw [show k + (m - k) = m by omega] at e
  exact ⟨M, e⟩
/-- at the end nothing more comes -/
theorem qq_end (gs : List (List Nat)) (n : Nat) {k : Nat} (h : (qq gs n k).length ≤ k) : ∀ j, qq gs n (k + j) = qq gs n k
  | 0 => rfl
  | j + 1 => by
    have ih := qq_end gs n h j
    show (match (qq gs n (k + j))[k + j]? with
      | none => qq gs n (k + j)
      | some (t, w) => grow t w gs 0 (qq gs n (k + j))) = qq gs n k
    rw [ih, List.getElem?_eq_none (by omega)]
theorem qq_end' (gs : List (List Nat)) (n : Nat) {k m : Nat} (h : (qq gs n k).length ≤ k) (hm : k ≤ m) : qq gs n m = qq gs n k := by
  have e := qq_end gs n h (m - k)
  rw [show k + (m - k) = m by omega] at e
  exact e
theorem grow_keys (t w : List Nat) : ∀ (gs : List (List Nat)) (p : Nat) (L : List W) (x : List Nat), x ∈ (grow t w gs p L).map (·.1) ↔ x ∈ L.map (·.1) ∨ ∃ g ∈ gs, x = prod t g
  | [], _, L, x => by
    show x ∈ L.map (·.1) ↔ _
    simp
  | g :: gs, p, L, x => by
    show x ∈ (grow t w gs (p + 1) (if prod t g ∈ L.map (·.1) then L else L ++ [(prod t g, w ++ [p])])).map (·.1) ↔ _
    rw [grow_keys t w gs (p + 1)]
    split
    · rename_i h
      constructor
      · rintro (h1 | ⟨g', hg, e⟩)
        · exact .inl h1
        · exact .inr ⟨g', List.mem_cons_of_mem _ hg, e⟩
      · rintro (h1 | ⟨g', hg, e⟩)
        · exact .inl h1
        · rcases List.mem_cons.mp hg with z | hg
          · subst z
            rw [e]
            exact .inl h
          · exact .inr ⟨g', hg, e⟩
    · rw [List.map_append, List.mem_append]
      constructor
      · rintro ((h1 | h1) | ⟨g', hg, e⟩)
        · exact .inl h1
        · exact .inr ⟨g, List.mem_cons_self, List.mem_singleton.mp h1⟩
        · exact .inr ⟨g', List.mem_cons_of_mem _ hg, e⟩
      · rintro (h1 | ⟨g', hg, e⟩)
        · exact .inl (.inl h1)
        · rcases List.mem_cons.mp hg with z | hg
          · subst z
            exact .inl (.inr (List.mem_singleton.mpr e))
          · exact .inr ⟨g', hg, e⟩
theorem nodup_snoc {α : Type} {l : List α} {x : α} (h : l.Nodup) (hx : x ∉ l) : (l ++ [x]).Nodup :=
  List.nodup_append.mpr ⟨h, List.pairwise_singleton _ _, fun a ha b hb e => by
    rw [List.mem_singleton.mp hb] at e
    exact hx (e ▸ ha)⟩
theorem grow_nd (t w : List Nat) : ∀ (gs : List (List Nat)) (p : Nat) (L : List W), (L.map (·.1)).Nodup → ((grow t w gs p L).map (·.1)).Nodup
  | [], _, _, h => h
  | g :: gs, p, L, h => by
    refine grow_nd t w gs (p + 1) _ ?_
    split
    · exact h
    · rename_i hx
      rw [List.map_append]
      exact nodup_snoc h hx
theorem qq_nd (gs : List (List Nat)) (n : Nat) : ∀ k, ((qq gs n k).map (·.1)).Nodup
  | 0 => List.pairwise_singleton _ _
  | k + 1 => by
    show ((match (qq gs n k)[k]? with
      | none => qq gs n k
      | some (t, w) => grow t w gs 0 (qq gs n k)).map (fun x : W => x.1)).Nodup
    split
    · exact qq_nd gs n k
    · exact grow_nd _ _ _ _ _ (qq_nd gs n k)
/-- what the makers make -/
inductive Mk (gs : List (List Nat)) (n : Nat) : List Nat → Prop
  | still : Mk gs n (List.range n)
  | step {t g : List Nat} : Mk gs n t → g ∈ gs → Mk gs n (prod t g)
theorem Mk.isP {gs : List (List Nat)} {n : Nat} (hg : ∀ g ∈ gs, IsP n g) {t : List Nat} (h : Mk gs n t) : IsP n t := by
  induction h with
  | still => exact IsP.still n
  | step _ hm ih => exact ih.prod (hg _ hm)
theorem qq_mk (gs : List (List Nat)) (n : Nat) : ∀ k, ∀ t ∈ (qq gs n k).map (·.1), Mk gs n t
  | 0, t, h => by
    rw [List.mem_singleton.mp (show t ∈ [List.range n] from h)]
    exact .still
  | k + 1, t, h => by
    have ih := qq_mk gs n k
    have h' : t ∈ (match (qq gs n k)[k]? with
      | none => qq gs n k
      | some (t, w) => grow t w gs 0 (qq gs n k)).map (fun x : W => x.1) := h
    split at h'
    · exact ih t h'
    · rename_i t0 w0 e
      rcases (grow_keys t0 w0 gs 0 _ t).mp h' with z | ⟨g, hg, z⟩
      · exact ih t z
      · rw [z]
        exact .step (ih t0 (List.mem_map.mpr ⟨_, List.mem_of_getElem? e, rfl⟩)) hg
theorem qq_head (gs : List (List Nat)) (n k : Nat) : (List.range n, ([] : List Nat)) ∈ qq gs n k := by
  obtain ⟨M, e⟩ := qq_mono gs n (Nat.zero_le k)
  rw [e]
  exact List.mem_append.mpr (.inl (List.mem_singleton.mpr rfl))
/-- where the words are all gone through, they are all that is made -/
theorem qq_full {gs : List (List Nat)} {n k : Nat} (h : (qq gs n k).length ≤ k) : ∀ t, t ∈ (qq gs n k).map (·.1) ↔ Mk gs n t := fun t => by
  refine ⟨qq_mk gs n k t, fun m => ?_⟩
  induction m with
  | still => exact List.mem_map.mpr ⟨_, qq_head gs n k, rfl⟩
  | @step t g _ hg ih =>
    obtain ⟨⟨t', w'⟩, hm, e⟩ := List.mem_map.mp ih
    have e : t' = t := e
    subst e
    obtain ⟨i, hi, ei⟩ := List.getElem_of_mem hm
    -- position i was gone through at turn i
    have hk : i + 1 ≤ k := by omega
    obtain ⟨M, eM⟩ := qq_mono gs n hk
    obtain ⟨M0, eM0⟩ := qq_mono gs n (show i ≤ i + 1 by omega)
    by_cases hq : i < (qq gs n i).length
    · have g1 : (qq gs n i)[i]? = some (t', w') := by
        have z : (qq gs n k)[i]? = some (t', w') := by rw [List.getElem?_eq_getElem hi, ei]
        rw [eM, eM0, List.append_assoc, List.getElem?_append_left hq] at z
        exact z
      have g2 : qq gs n (i + 1) = grow t' w' gs 0 (qq gs n i) := by
        show (match (qq gs n i)[i]? with
          | none => qq gs n i
          | some (t, w) => grow t w gs 0 (qq gs n i)) = _
        rw [g1]
      rw [eM, List.map_append, List.mem_append]
      refine .inl ?_
      rw [g2]
      exact (grow_keys t' w' gs 0 _ _).mpr (.inr ⟨g, hg, rfl⟩)
    · have z := qq_end' gs n (show (qq gs n i).length ≤ i by omega) (show i ≤ k by omega)
      rw [z] at hi
      exact absurd hi hq
theorem nodup_len {α : Type} [DecidableEq α] : ∀ (l D : List α), l.Nodup → (∀ x ∈ l, x ∈ D) → l.length ≤ D.length
  | [], _, _, _ => Nat.zero_le _
  | x :: l, D, hn, hs => by
    obtain ⟨h1, h2⟩ := List.nodup_cons.mp hn
    have hx : x ∈ D := hs x List.mem_cons_self
    have ih := nodup_len l (D.erase x) h2 fun y hy => by
      have hne : y ≠ x := fun e => h1 (e ▸ hy)
      exact (List.mem_erase_of_ne hne).2 (hs y (List.mem_cons_of_mem _ hy))
    have e := List.length_erase_of_mem hx
    have hp : 0 < D.length := List.length_pos_of_mem hx
    show l.length + 1 ≤ D.length
    omega
/-- few turns are made: at most m -/
def Few (gs : List (List Nat)) (n m : Nat) : Prop := ∃ D : List (List Nat), D.length ≤ m ∧ ∀ t, Mk gs n t → t ∈ D
theorem Few.le {gs : List (List Nat)} {n m : Nat} (h : Few gs n m) {l : List (List Nat)} (hn : l.Nodup) (hl : ∀ t ∈ l, Mk gs n t) : l.length ≤ m := by
  obtain ⟨D, h1, h2⟩ := h
  exact Nat.le_trans (nodup_len l D hn fun t ht => h2 t (hl t ht)) h1
theorem Few.qq {gs : List (List Nat)} {n m : Nat} (h : Few gs n m) (k : Nat) : (qq gs n k).length ≤ m := by
  have z := h.le (qq_nd gs n k) (qq_mk gs n k)
  rw [List.length_map] at z
  exact z
end Lt

set_option Elab.async false
set_option linter.all false
set_option maxRecDepth 100000
set_option maxHeartbeats 4000000
namespace Lt
open PySem PySem.Spec PyProof.Rows L2
/-- the built-in names that the module leaves as they are -/
structure Bi (mg : Str → Option Value) : Prop where
  tuple : mg "tuple" = none
  list : mg "list" = none
  range : mg "range" = none
  len : mg "len" = none
  sorted : mg "sorted" = none
  enumerate : mg "enumerate" = none
  isinstance : mg "isinstance" = none
  all : mg "all" = none
  set : mg "set" = none
  int : mg "int" = none
  bool : mg "bool" = none
  str : mg "str" = none
/-! ### comprehensions -/
section
variable {K : PySem.W.Frag} {te : TE} {vs : List Nat} {σ : L2.St} {H1 : Hp} {D : Addr} {Qd : Hp → Prop} {β : Type} {j : Nat}
/-- what a comprehension's list holds after i turns -/
def Cm (H1 : Hp) (D : Addr) (R : Hp → V → β → Prop) (ys : List β) (i : Nat) (H : Hp) : Prop := Same H1 H ∧ ∃ zs, H D = some (.lst zs) ∧ Paired (R H) zs (ys.take i) ∧ zs.length ≤ i
theorem paired_mono {α γ : Type} {R R' : α → γ → Prop} (h : ∀ a b, R a b → R' a b) : ∀ {xs : List α} {ys : List γ}, Paired R xs ys → Paired R' xs ys
  | _, _, .nil => .nil
  | _, _, .cons r t => .cons (h _ _ r) (paired_mono h t)
theorem cm_turn {R : Hp → V → β → Prop} {ys : List β} {i : Nat} {H : Hp} {σ2 : L2.St} (mono : ∀ H H' v b, Tm H H' → R H v b → R H' v b) (hD : H1 D = none) (p : Cm H1 D R ys i H) (hi : i < 100000) {b : β} (hb : ys[i]? = some b)
    (he : ∀ H, Same H1 H → ∀ Q : VK, (∀ v H', Same H H' → R H' v b → Q v H') → te σ2 H Q) :
    te σ2 H fun y H4 => ∃ acc, H4 D = some (.lst acc) ∧ acc.length < sizeLine ∧ Cm H1 D R ys (i + 1) (upd H4 D (.lst (acc ++ [y]))) := by
  obtain ⟨sm, zs, hz, pr, hl⟩ := p
  refine he H sm _ fun v H4 s4 r => ?_
  have h4 := s4 _ _ hz
  have t4 : Tm H4 (upd H4 D (.lst (zs ++ [v]))) := Tm.lst h4
  refine ⟨zs, h4, Nat.lt_of_le_of_lt hl (Nat.lt_of_lt_of_le hi (by decide)), same_mut (sm.trans s4) hD, zs ++ [v], upd_same, ?_, by rw [List.length_append]; show zs.length + 1 ≤ i + 1; omega⟩
  rw [List.take_add_one, hb]
  exact Paired.app (paired_mono (fun a b q => mono _ _ _ _ ((Tm.of s4).trans t4) q) pr) (Paired.one (mono _ _ _ _ t4 r))
theorem lc_tupM {a : Addr} {xs : List V} (R : Hp → V → β → Prop) (ys : List β) (mono : ∀ H H' v b, Tm H H' → R H v b → R H' v b) (hx : SqT K H1 a xs) (hxK : ∀ H, Same H1 H → SqT K H a xs) (hz : xs.length ≤ 100000) (hy : ys.length = xs.length) (hD : H1 D = none)
    (hw : ∀ x, wipe ((wipe σ vs).set j (some x)) vs = wipe σ vs)
    (he : ∀ (i : Nat) (x : V) (b : β), xs[i]? = some x → ys[i]? = some b → ∀ H, Same H1 H → ∀ Q : VK, (∀ v H', Same H H' → R H' v b → Q v H') → te ((wipe σ vs).set j (some x)) H Q)
    (hd : ∀ H zs, Same H1 H → H D = some (.lst zs) → Paired (R H) zs ys → Qd H) :
    ∃ W : Nat → Nat → Hp → Prop, (∃ m, W 0 m (upd H1 D (.lst []))) ∧ ∀ i m H, W i m H →
      ((Itt K a).stop i H ∧ Qd H) ∨ ((Itt K a).go i H ∧ ∃ Nx : Hp → Prop, (∀ H', Nx H' → ∃ m', m' < m ∧ W (i + 1) m' H') ∧ ∀ x H', (Itt K a).yld i H x H' → gName j x (wipe σ vs) H' fun σ2 H2 => wipe σ2 vs = wipe σ vs ∧ tYes σ2 H2 fun b H3 =>
        if b = true then te σ2 H3 fun y H4 => ∃ acc, H4 D = some (.lst acc) ∧ acc.length < sizeLine ∧ Nx (upd H4 D (.lst (acc ++ [y]))) else Nx H3) :=
  lc_tup (xs := xs) (Cm H1 D R ys) ⟨same_new hD, [], upd_same, .nil, Nat.le_refl _⟩ (fun i H _ p => hxK H p.1)
    (fun i x H hi p => ⟨hw x, iteT (B := Cm H1 D R ys (i + 1) H) (by
      have hl := (List.getElem?_eq_some_iff.mp hi).1
      have hb : ys[i]? = some (ys[i]'(by omega)) := List.getElem?_eq_getElem (by omega)
      exact cm_turn mono hD p (by omega) hb (he i x _ hi hb))⟩)
    (fun H p => by
      obtain ⟨sm, zs, h1, pr, _⟩ := p
      rw [← hy, List.take_length] at pr
      exact hd H zs sm h1 pr)
theorem lc_listM {a : Addr} {xs : List V} (R : Hp → V → β → Prop) (ys : List β) (mono : ∀ H H' v b, Tm H H' → R H v b → R H' v b) (hxK : ∀ H, Same H1 H → SqL K H a xs) (hz : xs.length ≤ 100000) (hy : ys.length = xs.length) (hD : H1 D = none)
    (hw : ∀ x, wipe ((wipe σ vs).set j (some x)) vs = wipe σ vs)
    (he : ∀ (i : Nat) (x : V) (b : β), xs[i]? = some x → ys[i]? = some b → ∀ H, Same H1 H → ∀ Q : VK, (∀ v H', Same H H' → R H' v b → Q v H') → te ((wipe σ vs).set j (some x)) H Q)
    (hd : ∀ H zs, Same H1 H → H D = some (.lst zs) → Paired (R H) zs ys → Qd H) :
    ∃ W : Nat → Nat → Hp → Prop, (∃ m, W 0 m (upd H1 D (.lst []))) ∧ ∀ i m H, W i m H →
      ((Itl K a).stop i H ∧ Qd H) ∨ ((Itl K a).go i H ∧ ∃ Nx : Hp → Prop, (∀ H', Nx H' → ∃ m', m' < m ∧ W (i + 1) m' H') ∧ ∀ x H', (Itl K a).yld i H x H' → gName j x (wipe σ vs) H' fun σ2 H2 => wipe σ2 vs = wipe σ vs ∧ tYes σ2 H2 fun b H3 =>
        if b = true then te σ2 H3 fun y H4 => ∃ acc, H4 D = some (.lst acc) ∧ acc.length < sizeLine ∧ Nx (upd H4 D (.lst (acc ++ [y]))) else Nx H3) :=
  lc_list (xs := xs) (Cm H1 D R ys) ⟨same_new hD, [], upd_same, .nil, Nat.le_refl _⟩ (fun i H _ p => hxK H p.1)
    (fun i x H hi p => ⟨hw x, iteT (B := Cm H1 D R ys (i + 1) H) (by
      have hl := (List.getElem?_eq_some_iff.mp hi).1
      have hb : ys[i]? = some (ys[i]'(by omega)) := List.getElem?_eq_getElem (by omega)
      exact cm_turn mono hD p (by omega) hb (he i x _ hi hb))⟩)
    (fun H p => by
      obtain ⟨sm, zs, h1, pr, _⟩ := p
      rw [← hy, List.take_length] at pr
      exact hd H zs sm h1 pr)
theorem lc_rangeM {n : Nat} (R : Hp → V → β → Prop) (ys : List β) (mono : ∀ H H' v b, Tm H H' → R H v b → R H' v b) (hz : n ≤ 100000) (hy : ys.length = n) (hD : H1 D = none)
    (hw : ∀ x, wipe ((wipe σ vs).set j (some x)) vs = wipe σ vs)
    (he : ∀ (i : Nat) (b : β), i < n → ys[i]? = some b → ∀ H, Same H1 H → ∀ Q : VK, (∀ v H', Same H H' → R H' v b → Q v H') → te ((wipe σ vs).set j (some (.int ((0 : Int) + (i : Nat))))) H Q)
    (hd : ∀ H zs, Same H1 H → H D = some (.lst zs) → Paired (R H) zs ys → Qd H) :
    ∃ W : Nat → Nat → Hp → Prop, (∃ m, W 0 m (upd H1 D (.lst []))) ∧ ∀ i m H, W i m H →
      ((Itr 0 n).stop i H ∧ Qd H) ∨ ((Itr 0 n).go i H ∧ ∃ Nx : Hp → Prop, (∀ H', Nx H' → ∃ m', m' < m ∧ W (i + 1) m' H') ∧ ∀ x H', (Itr 0 n).yld i H x H' → gName j x (wipe σ vs) H' fun σ2 H2 => wipe σ2 vs = wipe σ vs ∧ tYes σ2 H2 fun b H3 =>
        if b = true then te σ2 H3 fun y H4 => ∃ acc, H4 D = some (.lst acc) ∧ acc.length < sizeLine ∧ Nx (upd H4 D (.lst (acc ++ [y]))) else Nx H3) :=
  lc_range (lo := 0) (n := n) (Cm H1 D R ys) ⟨same_new hD, [], upd_same, .nil, Nat.le_refl _⟩
    (fun i H hi p => ⟨hw _, iteT (B := Cm H1 D R ys (i + 1) H) (by
      have hb : ys[i]? = some (ys[i]'(by omega)) := List.getElem?_eq_getElem (by omega)
      exact cm_turn mono hD p (by omega) hb (he i _ hi hb))⟩)
    (fun H p => by
      obtain ⟨sm, zs, h1, pr, _⟩ := p
      rw [← hy, List.take_length] at pr
      exact hd H zs sm h1 pr)
end
/-- a new tuple of numbers -/
theorem tn_of {H : Hp} {zs : List V} {p : Addr} {t : List Nat} (h : H p = some (.tup zs)) (e : zs = nIs t) : TK H (.ref p) t := ⟨p, rfl, by rw [h, e]⟩
def RN (_ : Hp) (v : V) (n : Nat) : Prop := v = nI n
theorem RN.all {H : Hp} : ∀ {zs : List V} {t : List Nat}, Paired (RN H) zs t → zs = nIs t
  | _, _, .nil => rfl
  | _, _, .cons r t => by rw [(show _ = nI _ from r), RN.all t]; rfl
end Lt

set_option Elab.async false
set_option linter.all false
set_option maxRecDepth 100000
namespace Lt
open PySem PySem.Spec PyProof.Rows L2
def topS (i : Nat) : Stmt := PySem.Challenge.pw_lockturns_k07_whole_weights.main.body.getD i (.Pass ⟨0, 0, 0, 0⟩)
abbrev s_BadLock : Stmt := topS 2
abbrev s_TooMany : Stmt := topS 3
abbrev s_is_number : Stmt := topS 7
abbrev s_are_numbers : Stmt := topS 8
abbrev s_is_permutation : Stmt := topS 9
abbrev s_still_of : Stmt := topS 10
abbrev s_product_of : Stmt := topS 11
abbrev s_back_of : Stmt := topS 12
abbrev s_power_of : Stmt := topS 13
abbrev s_bracket_of : Stmt := topS 14
abbrev s_words_of : Stmt := topS 15
abbrev s_group_of : Stmt := topS 16
abbrev s_all_turns : Stmt := topS 21
abbrev s_check_lock : Stmt := topS 22
abbrev s_made_words : Stmt := topS 23
abbrev s_lower : Stmt := topS 25
abbrev s_prime : Stmt := topS 26
abbrev s_brackets_made : Stmt := topS 27
abbrev s_weighed : Stmt := topS 29
abbrev s_told_number : Stmt := topS 30
abbrev s_chains : Stmt := topS 31
abbrev s_own_prime : Stmt := topS 32
abbrev s_exponent_of : Stmt := topS 33
abbrev s_weighed_term : Stmt := topS 34
abbrev s_weighed_makers : Stmt := topS 35
abbrev s_powers_in : Stmt := topS 36
abbrev s_made_by : Stmt := topS 37
abbrev s_longest_first : Stmt := topS 38
abbrev s_law_taken : Stmt := topS 40
abbrev s_law_pick : Stmt := topS 41
abbrev s_law_alike : Stmt := topS 42
abbrev s_law_permutation : Stmt := topS 43
abbrev s_law_behind : Stmt := topS 44
abbrev s_law_back : Stmt := topS 45
abbrev s_law_swap : Stmt := topS 46
abbrev s_law_span : Stmt := topS 47
abbrev s_law_known : Stmt := topS 48
abbrev s_law_lock : Stmt := topS 49
abbrev s_law_terms : Stmt := topS 50
abbrev s_law_reduced : Stmt := topS 51
abbrev s_law_dies : Stmt := topS 52
abbrev s_law_power : Stmt := topS 53
abbrev s_law_weighed : Stmt := topS 54
abbrev s_law_bases : Stmt := topS 55
abbrev s_law : Stmt := topS 56
end Lt

set_option Elab.async false
set_option linter.all false
set_option maxRecDepth 100000
set_option maxHeartbeats 4000000
namespace Lt
open PySem PySem.Spec PyProof.Rows L2
section
variable {P : Program} {w : World} {K : PySem.W.Frag} {mg : Str → Option Value} {base : Heap}
/-! ### product_of -/
def spProd : Sp := fun vs H Q _ => ∃ (a b : V) (x y : List Nat), vs = [a, b] ∧ TN H a x ∧ TN H b y ∧ (∀ i ∈ x, i < y.length) ∧ x.length ≤ 1000 ∧ ∀ v H', Same H H' → TK H' v (prod x y) → Q v H'
theorem sc_product_of : FnScope ["one", "other", "place"] ["one", "other"] (defScope s_product_of) := ⟨rfl, rfl, rfl, by decide +kernel, rfl, by decide +kernel, by decide +kernel⟩
theorem has_product_of (T : Top K mg "product_of" s_product_of ["one", "other"]) (B : Bi mg) : Has P w K mg base CX0 1 "product_of" ["one", "other"] spProd := by
  refine T.ok sc_product_of (fun vs H Q E h => ?_) (fun f cdv A outer s H vs Q E hr h => ?_)
  · obtain ⟨a, b, x, y, rfl, _⟩ := h
    rfl
  · obtain ⟨a, b, x, y, rfl, ha, hb, hxy, hx, q⟩ := h
    refine ⟨_, pss_one (ps_ret (pe_tupleOf (by rfl) B.tuple (pe_lc (own := [("place", 2)]) (g := gName 2) (te := tOp (rIxT K) (tVar 1) (tVar 2)) (by rfl) sc_product_of.nd (pi_tup (pv 0)) (blkOk_by (own := [("place", 2)]) (N := ["one", "other", "place"]) (sc := defScope s_product_of) (by decide +kernel))
      (fun _ _ _ _ _ => pg_name (i := 2) sc_product_of.nd rfl (Or.inl rfl)) (fun _ _ _ _ _ => pts_nil) (fun _ _ _ _ _ => pe_ix ix_tup (pv 1) (pv 2) (fun _ _ => rfl))))), ?_⟩
    obtain ⟨pa, rfl, ea⟩ := ha
    obtain ⟨pb, rfl, eb⟩ := hb
    refine ⟨_, rfl, pa, rfl, ⟨_, ea.sq⟩, fun D hD => lc_tupM RN (prod x y) (fun _ _ _ _ _ r => r) (ea.sq) (fun H' sm => (ea.sm sm).sq) (by rw [nIs_len]; omega) (by rw [prod_len, nIs_len]) hD (fun x => rfl) (fun i v n hi hn H' sm Q' q' => ?_) (fun H' zs sm hz pr => ?_)⟩
    · rw [nIs_get] at hi
      obtain ⟨m, hm, rfl⟩ := Option.map_eq_some_iff.mp hi
      have hlt := hxy m (List.mem_of_getElem? hm)
      have e : n = y.getD m 0 := by
        have z : (prod x y)[i]? = some (y.getD m 0) := by
          unfold prod
          rw [List.getElem?_map, hm]
          rfl
        exact Option.some.inj (hn.symm.trans z)
      refine ⟨_, rfl, _, rfl, pb, _, _, nI n, rfl, rfl, (eb.sm sm).sq, atI_nat ?_, q' _ _ (Same.refl _) rfl⟩
      rw [nIs_get, e, List.getD_eq_getElem?_getD, List.getElem?_eq_getElem hlt]
      rfl
    · refine .inl ⟨D, zs, rfl, SqL.of hz, fun p hp => q _ _ (sm.trans (same_new hp)) (tn_of upd_same (RN.all pr))⟩
/-! ### still_of -/
def spStill : Sp := fun vs H Q _ => ∃ (n : Nat), vs = [nI n] ∧ n ≤ 1000 ∧ ∀ v H', Same H H' → TK H' v (List.range n) → Q v H'
theorem sc_still_of : FnScope ["size"] ["size"] (defScope s_still_of) := ⟨rfl, rfl, rfl, by decide +kernel, rfl, by decide +kernel, by decide +kernel⟩
theorem rgV_nat (n : Nat) : rgV 0 (n : Int) = nIs (List.range n) := by
  unfold rgV nIs
  have e : ((n : Int) - 0).toNat = n := by omega
  rw [e]
  refine List.map_congr_left fun i _ => ?_
  show V.int (0 + (i : Int)) = V.int (i : Int)
  rw [Int.zero_add]
theorem has_still_of (T : Top K mg "still_of" s_still_of ["size"]) (B : Bi mg) : Has P w K mg base CX0 1 "still_of" ["size"] spStill := by
  refine T.ok sc_still_of (fun vs H Q E h => ?_) (fun f cdv A outer s H vs Q E hr h => ?_)
  · obtain ⟨n, rfl, _⟩ := h
    rfl
  · obtain ⟨n, rfl, hn, q⟩ := h
    refine ⟨_, pss_one (ps_ret (pe_tupRg (by rfl) (by rfl) B.tuple (prg_1 (by rfl) B.range (pv 0)))), ?_⟩
    refine ⟨_, rfl, _, rfl, .of_le (by omega) (by omega) (by omega) (by omega), fun p hp => q _ _ (same_new hp) (tn_of upd_same (rgV_nat n))⟩
end
end Lt

set_option Elab.async false
set_option linter.all false
set_option maxRecDepth 100000
set_option maxHeartbeats 4000000
namespace Lt
open PySem PySem.Spec PyProof.Rows L2
/-! ### any plain value -/
mutual
inductive Rp (H : Hp) : V → PyData → Prop
  | non : Rp H .non .none
  | bl (b : Bool) : Rp H (.bl b) (.bool b)
  | int (i : Int) : Rp H (.int i) (.int i)
  | str (x : Str) : Rp H (.str x) (.str x)
  | lst {a : Addr} {xs : List V} {ds : List PyData} : H a = some (.lst xs) → RpAll H xs ds → Rp H (.ref a) (.list ds)
  | tup {a : Addr} {xs : List V} {ds : List PyData} : RT H a xs → RpAll H xs ds → Rp H (.ref a) (.tuple ds)
inductive RpAll (H : Hp) : List V → List PyData → Prop
  | nil : RpAll H [] []
  | cons {v : V} {vs : List V} {d : PyData} {ds : List PyData} : Rp H v d → RpAll H vs ds → RpAll H (v :: vs) (d :: ds)
end
mutual
theorem Rp.same {H H' : Hp} (e : Same H H') : ∀ (d : PyData) (v : V), Rp H v d → Rp H' v d
  | .none, _, .non => .non
  | .bool _, _, .bl b => .bl b
  | .int _, _, .int i => .int i
  | .str _, _, .str i => .str i
  | .list ds, _, .lst h a => .lst (e _ _ h) (RpAll.same e ds _ a)
  | .tuple ds, _, .tup h a => .tup (h.sm e) (RpAll.same e ds _ a)
theorem RpAll.same {H H' : Hp} (e : Same H H') : ∀ (ds : List PyData) (vs : List V), RpAll H vs ds → RpAll H' vs ds
  | [], _, .nil => .nil
  | d :: ds, _, .cons r t => .cons (Rp.same e d _ r) (RpAll.same e ds _ t)
end
mutual
theorem Rp.dp {K : PySem.W.Frag} {H : Hp} : ∀ (d : PyData) (v : V), Rp H v d → Dp K H v d
  | .none, _, .non => .non
  | .bool _, _, .bl b => .bl b
  | .int _, _, .int i => .int i
  | .str _, _, .str i => .str i
  | .list ds, _, .lst h a => .lst (SqL.of h) (RpAll.dp ds _ a)
  | .tuple ds, _, .tup h a => .tup h.sq (RpAll.dp ds _ a)
theorem RpAll.dp {K : PySem.W.Frag} {H : Hp} : ∀ (ds : List PyData) (vs : List V), RpAll H vs ds → DpAll K H vs ds
  | [], _, .nil => .nil
  | d :: ds, _, .cons r t => .cons (Rp.dp d _ r) (RpAll.dp ds _ t)
end
theorem RpAll.get {H : Hp} : ∀ {ds : List PyData} {vs : List V} {i : Nat} {v : V}, RpAll H vs ds → vs[i]? = some v → ∃ d, ds[i]? = some d ∧ Rp H v d
  | _, _, _, _, .nil, e => by simp at e
  | _, _, 0, _, .cons r _, e => by
    have e := Option.some.inj e
    subst e
    exact ⟨_, rfl, r⟩
  | _, _, i + 1, v, .cons _ t, e => by
    obtain ⟨d, h1, h2⟩ := RpAll.get (i := i) (v := v) t (by simpa using e)
    exact ⟨d, by simpa using h1, h2⟩
theorem RpAll.len {H : Hp} : ∀ {ds : List PyData} {vs : List V}, RpAll H vs ds → vs.length = ds.length
  | _, _, .nil => rfl
  | _, _, .cons _ t => by rw [List.length_cons, List.length_cons, RpAll.len t]
theorem rp_nats {H : Hp} : ∀ t : List Nat, RpAll H (nIs t) (t.map dN)
  | [] => .nil
  | n :: t => .cons (.int _) (rp_nats t)
theorem TN.rp {H : Hp} {v : V} {t : List Nat} (h : TN H v t) : Rp H v (dT t) := by
  obtain ⟨a, rfl, ha⟩ := h
  exact .tup ha (rp_nats t)
theorem TNs.rp {H : Hp} : ∀ {xs : List V} {ts : List (List Nat)}, Paired (TN H) xs ts → RpAll H xs (ts.map dT)
  | _, _, .nil => .nil
  | _, _, .cons r t => .cons r.rp (TNs.rp t)
theorem TT.rp {H : Hp} {v : V} {ts : List (List Nat)} (h : TT H v ts) : Rp H v (.tuple (ts.map dT)) := by
  obtain ⟨a, xs, rfl, ha, p⟩ := h
  exact .tup (.inl ha) (TNs.rp p)
def tyN : PyData → String
  | .none => "NoneType"
  | .bool _ => "bool"
  | .int _ => "int"
  | .str _ => "str"
  | .list _ => "list"
  | .tuple _ => "tuple"
  | .dict _ => "dict"
theorem rp_ty {K : PySem.W.Frag} {H : Hp} {v : V} {d : PyData} (h : Rp H v d) : TyX K H v (.type (tyN d)) := by
  cases h with
  | non => exact .base .non
  | bl b => exact .base (.bl b)
  | int b => exact .base (.int b)
  | str b => exact .base (.str b)
  | lst h _ => exact .base (.lst h)
  | tup h _ =>
    rcases h with h | ⟨o, h⟩
    · exact .base (.tup h)
    · exact .fTuple h
def isIntB : PyData → Bool
  | .int _ => true
  | .bool _ => true
  | _ => false
def isBl : PyData → Bool
  | .bool _ => true
  | _ => false
def isTup : PyData → Bool
  | .tuple _ => true
  | _ => false
def isLst : PyData → Bool
  | .list _ => true
  | _ => false
def isStr : PyData → Bool
  | .str _ => true
  | _ => false
def isNum : PyData → Bool
  | .int _ => true
  | _ => false
theorem kit_int : ∀ d : PyData, kitB (tyN d) "int" = some (isIntB d)
  | .none => (by decide +kernel : kitB "NoneType" "int" = some false)
  | .bool _ => (by decide +kernel : kitB "bool" "int" = some true)
  | .int _ => (by decide +kernel : kitB "int" "int" = some true)
  | .str _ => (by decide +kernel : kitB "str" "int" = some false)
  | .list _ => (by decide +kernel : kitB "list" "int" = some false)
  | .tuple _ => (by decide +kernel : kitB "tuple" "int" = some false)
  | .dict _ => (by decide +kernel : kitB "dict" "int" = some false)
theorem kit_bool : ∀ d : PyData, kitB (tyN d) "bool" = some (isBl d)
  | .none => (by decide +kernel : kitB "NoneType" "bool" = some false)
  | .bool _ => (by decide +kernel : kitB "bool" "bool" = some true)
  | .int _ => (by decide +kernel : kitB "int" "bool" = some false)
  | .str _ => (by decide +kernel : kitB "str" "bool" = some false)
  | .list _ => (by decide +kernel : kitB "list" "bool" = some false)
  | .tuple _ => (by decide +kernel : kitB "tuple" "bool" = some false)
  | .dict _ => (by decide +kernel : kitB "dict" "bool" = some false)
theorem kit_tup : ∀ d : PyData, kitB (tyN d) "tuple" = some (isTup d)
  | .none => (by decide +kernel : kitB "NoneType" "tuple" = some false)
  | .bool _ => (by decide +kernel : kitB "bool" "tuple" = some false)
  | .int _ => (by decide +kernel : kitB "int" "tuple" = some false)
  | .str _ => (by decide +kernel : kitB "str" "tuple" = some false)
  | .list _ => (by decide +kernel : kitB "list" "tuple" = some false)
  | .tuple _ => (by decide +kernel : kitB "tuple" "tuple" = some true)
  | .dict _ => (by decide +kernel : kitB "dict" "tuple" = some false)
theorem kit_lst : ∀ d : PyData, kitB (tyN d) "list" = some (isLst d)
  | .none => (by decide +kernel : kitB "NoneType" "list" = some false)
  | .bool _ => (by decide +kernel : kitB "bool" "list" = some false)
  | .int _ => (by decide +kernel : kitB "int" "list" = some false)
  | .str _ => (by decide +kernel : kitB "str" "list" = some false)
  | .list _ => (by decide +kernel : kitB "list" "list" = some true)
  | .tuple _ => (by decide +kernel : kitB "tuple" "list" = some false)
  | .dict _ => (by decide +kernel : kitB "dict" "list" = some false)
theorem kit_str : ∀ d : PyData, kitB (tyN d) "str" = some (isStr d)
  | .none => (by decide +kernel : kitB "NoneType" "str" = some false)
  | .bool _ => (by decide +kernel : kitB "bool" "str" = some false)
  | .int _ => (by decide +kernel : kitB "int" "str" = some false)
  | .str _ => (by decide +kernel : kitB "str" "str" = some true)
  | .list _ => (by decide +kernel : kitB "list" "str" = some false)
  | .tuple _ => (by decide +kernel : kitB "tuple" "str" = some false)
  | .dict _ => (by decide +kernel : kitB "dict" "str" = some false)
theorem rr_ty (n : String) : RelV (.ty n) (.type n) := rfl
section
variable {P : Program} {w : World} {K : PySem.W.Frag} {mg : Str → Option Value} {base : Heap}
/-! ### is_number -/
def spNum : Sp := fun vs H Q _ => ∃ (v : V) (d : PyData), vs = [v] ∧ Rp H v d ∧ Q (.bl (isNum d)) H
theorem sc_is_number : FnScope ["value"] ["value"] (defScope s_is_number) := ⟨rfl, rfl, rfl, by decide +kernel, rfl, by decide +kernel, by decide +kernel⟩
theorem has_is_number (T : Top K mg "is_number" s_is_number ["value"]) (B : Bi mg) : Has P w K mg base CX0 1 "is_number" ["value"] spNum := by
  refine T.ok sc_is_number (fun vs H Q E h => ?_) (fun f cdv A outer s H vs Q E hr h => ?_)
  · obtain ⟨v, d, rfl, _⟩ := h
    rfl
  · obtain ⟨v, d, rfl, hd, q⟩ := h
    refine ⟨_, pss_one (ps_ret (pe_and (pe_callB call_isi (by rfl) B.isinstance PyProof.Rows.boot_isinstance (pa_cons (pv 0) (pa_cons (pe_bltn (by rfl) B.int PyProof.Rows.boot_int (rr_ty "int")) pa_nil)))
      (pe_one (pe_not (pe_callB call_isi (by rfl) B.isinstance PyProof.Rows.boot_isinstance (pa_cons (pv 0) (pa_cons (pe_bltn (by rfl) B.bool PyProof.Rows.boot_bool (rr_ty "bool")) pa_nil))))))), ?_⟩
    refine ⟨_, rfl, v, .ty "int", _, _, isIntB d, rfl, .ty _, rp_ty hd, kit_ty (kit_int d), isIntB d, rfl, ite2 (fun h => ?_) (fun h => ?_)⟩
    · refine ⟨_, rfl, v, .ty "bool", _, _, isBl d, rfl, .ty _, rp_ty hd, kit_ty (kit_bool d), isBl d, rfl, ?_⟩
      have e : (!isBl d) = isNum d := by cases d <;> first | rfl | cases h
      show Q (.bl (!isBl d)) H
      rw [e]
      exact q
    · have e : false = isNum d := by cases d <;> first | rfl | exact absurd rfl h
      show Q (.bl false) H
      rw [e]
      exact q
end
end Lt

set_option Elab.async false
set_option linter.all false
set_option maxRecDepth 100000
set_option maxHeartbeats 4000000
namespace Lt
open PySem PySem.Spec PyProof.Rows L2
section
variable {P : Program} {w : World} {K : PySem.W.Frag} {mg : Str → Option Value} {base : Heap}
/-! ### are_numbers -/
def isNums : PyData → Bool
  | .tuple ds => ds.all isNum
  | _ => false
def spNums : Sp := fun vs H Q _ => ∃ (v : V) (d : PyData), vs = [v] ∧ Rp H v d ∧ (∀ ds, d = .tuple ds → ds.length ≤ 1000) ∧ ∀ H', Same H H' → Q (.bl (isNums d)) H'
theorem sc_are_numbers : FnScope ["value", "part"] ["value"] (defScope s_are_numbers) := ⟨rfl, rfl, rfl, by decide +kernel, rfl, by decide +kernel, by decide +kernel⟩
theorem bls_of : ∀ {zs : List V} {bs : List Bool}, Paired (fun v b => v = V.bl b) zs bs → zs = bs.map V.bl
  | _, _, .nil => rfl
  | _, _, .cons r t => by rw [r, bls_of t]; rfl
theorem has_are_numbers (T : Top K mg "are_numbers" s_are_numbers ["value"]) (B : Bi mg) (hN : Has P w K mg base CX0 1 "is_number" ["value"] spNum) : Has P w K mg base CX0 2 "are_numbers" ["value"] spNums := by
  refine T.ok sc_are_numbers (fun vs H Q E h => ?_) (fun f cdv A outer s H vs Q E hr h => ?_)
  · obtain ⟨v, d, rfl, _⟩ := h
    rfl
  · obtain ⟨v, d, rfl, hd, hl, q⟩ := h
    refine ⟨_, pss_one (ps_ret (pe_and (pe_callB call_isi (by rfl) B.isinstance PyProof.Rows.boot_isinstance (pa_cons (pv 0) (pa_cons (pe_bltn (by rfl) B.tuple PyProof.Rows.boot_tuple (rr_ty "tuple")) pa_nil)))
      (pe_one (pe_callB (cr_all (by rfl)) (by rfl) B.all PyProof.Rows.boot_all (pa_cons (pe_lc (own := [("part", 1)]) (g := gName 1) (te := tCall spNum [] E0 (tCons (tVar 1) tNil)) (by rfl) sc_are_numbers.nd (pi_tup (pv 0)) (blkOk_by (own := [("part", 1)]) (N := ["value", "part"]) (sc := defScope s_are_numbers) (by decide +kernel))
        (fun _ _ _ _ _ => pg_name (i := 1) sc_are_numbers.nd rfl (Or.inl rfl)) (fun _ _ _ _ _ => pts_nil) (fun _ _ _ _ _ => pe_has hN hr (by rfl) (pa_cons (pv 1) pa_nil))) pa_nil))))), ?_⟩
    refine ⟨_, rfl, v, .ty "tuple", _, _, isTup d, rfl, .ty _, rp_ty hd, kit_ty (kit_tup d), isTup d, rfl, ite2 (fun h => ?_) (fun h => ?_)⟩
    · cases hd with
      | @tup a xs ds ha hx =>
        have hlen := hl ds rfl
        have hxl := hx.len
        refine ⟨_, rfl, a, rfl, ⟨_, ha.sq⟩, fun D hD => lc_tupM (fun _ v b => v = V.bl b) (ds.map isNum) (fun _ _ _ _ _ r => r) (ha.sq) (fun H' sm => (ha.sm sm).sq) (by omega) (by rw [List.length_map, hxl]) hD (fun x => rfl) (fun i v n hi hn H' sm Q' q' => ?_) (fun H' zs sm hz pr => ?_)⟩
        · obtain ⟨d, e1, e2⟩ := hx.get hi
          rw [List.getElem?_map, e1] at hn
          have hn : isNum d = n := Option.some.inj hn
          exact ⟨_, rfl, v, d, rfl, Rp.same sm d _ e2, q' _ _ (Same.refl _) (by rw [hn])⟩
        · refine ⟨D, ds.map isNum, rfl, SqL.of (by rw [hz, bls_of pr]), ?_⟩
          have e : (ds.map isNum).all id = isNums (.tuple ds) := by rw [List.all_map]; rfl
          rw [e]
          exact q _ sm
      | non => cases h
      | bl => cases h
      | int => cases h
      | str => cases h
      | lst => cases h
    · have e : false = isNums d := by cases d <;> first | rfl | exact absurd rfl h
      show Q (.bl false) H
      rw [e]
      exact q _ (Same.refl _)
/-! ### is_permutation -/
def numOf : PyData → Int
  | .int i => i
  | _ => 0
def numsOf : PyData → List Int
  | .tuple ds => ds.map numOf
  | _ => []
def rangeI (n : Nat) : List Int := (List.range n).map Int.ofNat
def isPermD (d : PyData) (n : Nat) : Bool := isNums d && decide ((numsOf d).Perm (rangeI n))
def spPerm : Sp := fun vs H Q _ => ∃ (v : V) (d : PyData) (n : Nat), vs = [v, nI n] ∧ Rp H v d ∧ (∀ ds, d = .tuple ds → ds.length < 64) ∧ n < 64 ∧ ∀ H', Same H H' → Q (.bl (isPermD d n)) H'
theorem sc_is_permutation : FnScope ["value", "size"] ["value", "size"] (defScope s_is_permutation) := ⟨rfl, rfl, rfl, by decide +kernel, rfl, by decide +kernel, by decide +kernel⟩
theorem nums_vals {H : Hp} : ∀ {ds : List PyData} {xs : List V}, RpAll H xs ds → ds.all isNum = true → xs = (ds.map numOf).map V.int
  | _, _, .nil, _ => rfl
  | d :: ds, _, .cons r t, h => by
    rw [List.all_cons, Bool.and_eq_true] at h
    cases r with
    | int i => rw [nums_vals t h.2]; rfl
    | non => cases h.1
    | bl => cases h.1
    | str => cases h.1
    | lst => cases h.1
    | tup => cases h.1
theorem rgV_int (n : Nat) : rgV 0 (n : Int) = (rangeI n).map V.int := by
  unfold rgV rangeI
  have e : ((n : Int) - 0).toNat = n := by omega
  rw [e, List.map_map]
  refine List.map_congr_left fun i _ => ?_
  show V.int (0 + (i : Int)) = V.int (i : Int)
  rw [Int.zero_add]
theorem rangeI_sorted (n : Nat) : (rangeI n).Pairwise (· ≤ ·) := by
  unfold rangeI
  rw [List.pairwise_map]
  exact List.Pairwise.imp (fun {a b} h => Int.ofNat_le.mpr (Nat.le_of_lt h)) List.pairwise_lt_range
theorem dp_ints {K : PySem.W.Frag} {H : Hp} : ∀ t : List Int, DpAll K H (t.map V.int) (t.map PyData.int)
  | [] => .nil
  | n :: t => .cons (.int _) (dp_ints t)
theorem depth_ints : ∀ t : List Int, PyData.depthAll (t.map PyData.int) = 0
  | [] => rfl
  | n :: t => by
    show max (PyData.depth (.int n)) (PyData.depthAll (t.map PyData.int)) = 0
    rw [depth_ints t]
    rfl
theorem can_ints : ∀ t : List Int, PyData.canLayAll0 (t.map PyData.int) = true
  | [] => rfl
  | n :: t => by
    show (PyData.canLay0 (.int n) && PyData.canLayAll0 (t.map PyData.int)) = true
    rw [can_ints t]
    rfl
theorem sh_ints (t : List Int) : SeqAt.shaped (.list (t.map PyData.int)) = true := by
  show (PyData.canLayAll0 (t.map PyData.int) && decide (PyData.depthAll (t.map PyData.int) + 1 ≤ 64)) = true
  rw [can_ints, depth_ints]
  rfl
theorem eqv_ints (s t : List Int) : PyData.eqv (.list (s.map PyData.int)) (.list (t.map PyData.int)) = decide (s = t) := by
  show PyData.eqvAll (s.map PyData.int) (t.map PyData.int) = _
  refine eqvAll_map (fun x y => ?_) s t
  show (x == y) = decide (x = y)
  by_cases e : x = y
  · subst e; simp
  · rw [decide_eq_false e]
    exact beq_eq_false_iff_ne.mpr e
theorem has_is_permutation (T : Top K mg "is_permutation" s_is_permutation ["value", "size"]) (B : Bi mg) (hN : Has P w K mg base CX0 2 "are_numbers" ["value"] spNums) : Has P w K mg base CX0 3 "is_permutation" ["value", "size"] spPerm := by
  refine T.ok sc_is_permutation (fun vs H Q E h => ?_) (fun f cdv A outer s H vs Q E hr h => ?_)
  · obtain ⟨v, d, n, rfl, _⟩ := h
    rfl
  · obtain ⟨v, d, n, rfl, hd, hl, hn, q⟩ := h
    refine ⟨_, pss_one (ps_ret (pe_and (pe_has hN hr (by rfl) (pa_cons (pv 0) pa_nil))
      (pe_one (pe_cmpR (op_eqD hr.units) (pe_callB cr_sortIT (by rfl) B.sorted PyProof.Rows.boot_sorted (pa_cons (pv 0) pa_nil)) (pe_listRg (by rfl) (by rfl) B.list (prg_1 (by rfl) B.range (pv 1))) (nomark _))))), ?_⟩
    refine ⟨_, rfl, v, d, rfl, hd, (fun ds e => by have := hl ds e; omega), fun H1 s1 => ⟨isNums d, rfl, ite2 (fun h => ?_) (fun h => ?_)⟩⟩
    · cases hd with
      | @tup a xs ds ha hx =>
        have h : ds.all isNum = true := h
        have ex := nums_vals hx h
        have ha1 := ha.sm s1
        rw [ex] at ha1
        have hlen := hl ds rfl
        refine ⟨_, rfl, a, ds.map numOf, rfl, ha1.sq, by rw [List.length_map]; exact hlen, fun ns' p pm so hp => ?_⟩
        refine ⟨_, rfl, n, rfl, .of_le (by omega) (by omega) (by omega) (by omega), fun p2 hp2 => ?_⟩
        have e1 : upd (upd H1 p (.lst (ns'.map V.int))) p2 (.lst (rgV 0 n)) p = some (.lst (ns'.map V.int)) := by
          rw [upd_ne (fun z => by rw [← z, upd_same] at hp2; cases hp2), upd_same]
        refine ⟨.list (ns'.map PyData.int), .list ((rangeI n).map PyData.int), .lst (SqL.of e1) (dp_ints _), .lst (SqL.of (by rw [upd_same, rgV_int])) (dp_ints _), sh_ints _, sh_ints _, ?_⟩
        rw [eqv_ints]
        have e : decide (ns' = rangeI n) = isPermD (.tuple ds) n := by
          have hb : isNums (.tuple ds) = true := h
          unfold isPermD
          rw [hb, Bool.true_and]
          refine decide_eq_decide.mpr ⟨fun e => ?_, fun e => ?_⟩
          · rw [← e]
            exact pm.symm
          · exact List.Perm.eq_of_pairwise (fun x y _ _ h1 h2 => Int.le_antisymm h1 h2) so (rangeI_sorted n) (pm.trans e)
        rw [e]
        exact q _ ((s1.trans (same_new hp)).trans (same_new hp2))
      | non => cases h
      | bl => cases h
      | int => cases h
      | str => cases h
      | lst => cases h
    · have e : false = isPermD d n := by
        unfold isPermD
        have z : isNums d = false := by simpa using h
        rw [z]
        rfl
      show Q (.bl false) H1
      rw [e]
      exact q _ s1
end
end Lt

set_option Elab.async false
set_option linter.all false
set_option maxRecDepth 100000
set_option maxHeartbeats 4000000
namespace Lt
open PySem PySem.Spec PyProof.Rows L2
theorem for_enumT {K : PySem.W.Frag} {a : Addr} {xs : List V} {g : TG} {tb : TS} {D : Ends} {σ : L2.St} {H : Hp} (Pv : Nat → L2.St → Hp → Prop) (h0 : Pv 0 σ H) (hl : ∀ i σ H, i ≤ xs.length → Pv i σ H → SqT K H a xs)
    (hs : ∀ (i : Nat) (x : V) σ H T, xs[i]? = some x → Pv i σ H → H T = none → g (.ref T) σ (upd H T (.tup [nI i, x])) fun σ2 H2 => tb { D with nx := Pv (i + 1), ct := Pv (i + 1), bk := D.nx } σ2 H2) (hd : ∀ σ H, Pv xs.length σ H → D.nx σ H) :
    ∃ W : Nat → Nat → L2.St → Hp → Prop, (∃ m, W 0 m σ H) ∧ ∀ i m σ H, W i m σ H →
      ((Itet K a).stop i H ∧ D.nx σ H) ∨ ((Itet K a).go i H ∧ ∃ N : L2.St → Hp → Prop, (∀ σ' H', N σ' H' → ∃ m', m' < m ∧ W (i + 1) m' σ' H') ∧ ∀ x H', (Itet K a).yld i H x H' → g x σ H' fun σ2 H2 => tb { D with nx := N, ct := N, bk := D.nx } σ2 H2) := by
  refine ⟨fun i m σ H => m = xs.length - i ∧ i ≤ xs.length ∧ Pv i σ H, ⟨xs.length, by simp, Nat.zero_le _, h0⟩, ?_⟩
  rintro i m σ H ⟨rfl, hi, p⟩
  have q := hl i σ H hi p
  by_cases hlt : i < xs.length
  · refine .inr ⟨⟨xs, xs[i], q, by simp [hlt]⟩, Pv (i + 1), fun σ' H' p' => ⟨xs.length - (i + 1), by omega, rfl, hlt, p'⟩, fun x H' y => ?_⟩
    obtain ⟨T, z, rfl, hT, rfl, hz⟩ := y
    exact hs i z σ H T (hz xs q) p hT
  · have e : i = xs.length := by omega
    subst e
    exact .inl ⟨⟨xs, q, rfl⟩, hd σ H p⟩
section
variable {P : Program} {w : World} {K : PySem.W.Frag} {mg : Str → Option Value} {base : Heap}
/-! ### back_of -/
def spBack : Sp := fun vs H Q _ => ∃ (a : V) (t : List Nat) (n : Nat), vs = [a] ∧ TN H a t ∧ IsP n t ∧ n ≤ 1000 ∧ ∀ v H', Same H H' → TK H' v (inv t) → Q v H'
theorem sc_back_of : FnScope ["turn", "led_from", "place", "led"] ["turn"] (defScope s_back_of) := ⟨rfl, rfl, rfl, by decide +kernel, rfl, by decide +kernel, by decide +kernel⟩
theorem rep_zero (n : Nat) : (List.replicate n [V.int 0]).flatten = nIs (List.replicate n 0) := by
  induction n with
  | zero => rfl
  | succ n ih => rw [List.replicate_succ, List.flatten_cons, ih]; rfl
theorem inv_of {n : Nat} {t acc : List Nat} (h : IsP n t) (hl : acc.length = n) (ha : ∀ (j p : Nat), t[j]? = some p → acc[p]? = some j) : acc = inv t := by
  apply List.ext_getElem?
  intro p
  by_cases hp : p < n
  · have hm : p ∈ t := h.mem.mpr hp
    have hj := List.idxOf_lt_length_of_mem hm
    have e := ha (t.idxOf p) p (by rw [List.getElem?_eq_getElem hj, List.getElem_idxOf])
    rw [e]
    unfold inv
    rw [List.getElem?_map, h.len, List.getElem?_range hp]
    rfl
  · rw [List.getElem?_eq_none (by omega), List.getElem?_eq_none (by rw [inv_len, h.len]; omega)]
theorem nIs_set (t : List Nat) (i n : Nat) : (nIs t).set i (nI n) = nIs (t.set i n) := by
  unfold nIs
  rw [List.map_set]
theorem has_back_of (T : Top K mg "back_of" s_back_of ["turn"]) (B : Bi mg) : Has P w K mg base CX0 1 "back_of" ["turn"] spBack := by
  refine T.ok sc_back_of (fun vs H Q E h => ?_) (fun f cdv A outer s H vs Q E hr h => ?_)
  · obtain ⟨a, t, n, rfl, _⟩ := h
    rfl
  · obtain ⟨a, t, n, rfl, ⟨pa, rfl, ea⟩, ht, hn, q⟩ := h
    refine ⟨_, pss_cons (ps_set (i := 1) sc_back_of.nd rfl (Or.inl rfl) (pe_op op_rep (pe_lst (pa_cons pe_int pa_nil)) (pe_callB call_len_seq (by rfl) B.len PySem.boot_len (pa_cons (pv 0) pa_nil))))
      (pss_cons (ps_for PassesOwn.never rfl (pi_enumT (by rfl) B.enumerate (pa_cons (pv 0) pa_nil)) (pg_tup rfl (pgs_cons (pg_name (i := 2) sc_back_of.nd rfl (Or.inl rfl)) (pgs_cons (pg_name (i := 3) sc_back_of.nd rfl (Or.inl rfl)) pgs_nil)))
        (pss_one (ps_asg (pv 2) (pg_sub (pv 1) (pv 3) set_list))))
      (pss_one (ps_ret (pe_tupleOf (by rfl) B.tuple (pv 1))))), ?_⟩
    have hlen := ht.len
    refine ⟨by show 1 ≤ sizeLine; decide, fun l hl => ?_⟩
    have s1 := same_new (o := .lst [V.int 0]) hl
    refine ⟨_, rfl, pa, _, rfl, .inr (ea.sm s1).sq, l, (t.length : Int), [V.int 0], rfl, by rw [nIs_len], upd_same, by omega, by omega, ?_, fun p hp => ?_⟩
    · show 1 * (t.length : Int).toNat ≤ sizeLine
      rw [sizeLine_eq]
      omega
    have s2 : Same H _ := s1.trans (same_new (o := .lst (List.replicate (t.length : Int).toNat [V.int 0]).flatten) hp)
    have hp0 : H p = none := s1.free hp
    refine ⟨_, rfl, pa, _, rfl, (ea.sm s2).sq, for_enumT (K := K) (xs := nIs t) (fun i σ H' => ∃ (acc : List Nat) (x y : Option V), σ = [some (.ref pa), some (.ref p), x, y] ∧ Same H H' ∧ H' p = some (.lst (nIs acc)) ∧ acc.length = n ∧ ∀ (j z : Nat), j < i → t[j]? = some z → acc[z]? = some j)
      ⟨List.replicate n 0, none, none, rfl, s2, ?_, List.length_replicate .., fun j z hj => absurd hj (Nat.not_lt_zero _)⟩ (fun i σ H' _ ⟨_, _, _, _, sm, _⟩ => (ea.sm sm).sq) ?_ ?_⟩
    · rw [upd_same, ← rep_zero, hlen]
      rfl
    · rintro i x σ H' T hi ⟨acc, y2, y3, rfl, sm, hp', hacc, hj⟩ hT
      rw [nIs_get] at hi
      obtain ⟨m, hm, rfl⟩ := Option.map_eq_some_iff.mp hi
      have hmn : m < n := ht.lt m (List.mem_of_getElem? hm)
      have spT : p ≠ T := ne_of_none hp' hT
      have sT := same_new (o := .tup [nI i, nI m]) hT
      refine ⟨T, _, rfl, SqT.of upd_same, rfl, nI i, _, rfl, nI m, _, rfl, rfl, ?_⟩
      refine ⟨_, rfl, _, rfl, _, rfl, p, nIs acc, (m : Int), m, rfl, rfl, sT _ _ hp', ?_, ?_⟩
      · rw [nIs_len, hacc]
        exact Evl.ixN_nat hmn
      · refine ⟨acc.set m i, some (nI i), some (nI m), rfl, same_mut (sm.trans sT) hp0, ?_, by rw [List.length_set]; exact hacc, fun j z hji hz => ?_⟩
        · rw [upd_same, nIs_set]
        · by_cases e : j = i
          · subst e
            rw [hm] at hz
            have hz := Option.some.inj hz
            subst hz
            rw [List.getElem?_set_self (by omega)]
          · have hne : m ≠ z := fun q => e (nd_ix ht.nd hz (q ▸ hm))
            rw [List.getElem?_set_ne hne]
            exact hj j z (by omega) hz
    · rintro σ H' ⟨acc, y2, y3, rfl, sm, hp', hacc, hj⟩
      refine ⟨_, rfl, .inl ⟨p, nIs acc, rfl, SqL.of hp', fun r hr => q _ _ (sm.trans (same_new hr)) (tn_of upd_same ?_)⟩⟩
      rw [inv_of ht hacc fun j z hz => hj j z (by rw [nIs_len]; exact (List.getElem?_eq_some_iff.mp hz).1) hz]
end
end Lt

set_option Elab.async false
set_option linter.all false
set_option maxRecDepth 100000
set_option maxHeartbeats 4000000
namespace Lt
open PySem PySem.Spec PyProof.Rows L2
/-! ### dicts from turns to words -/
def keyN (t : List Nat) : List Key := t.map fun n : Nat => (Sum.inl (Int.ofNat n) : Key)
theorem keyN_inj {s t : List Nat} (h : keyN s = keyN t) : s = t := by
  unfold keyN at h
  exact (List.map_inj_right (fun x y e => by injection e with e; exact Int.ofNat.inj e)).mp h
def DE (H : Hp) (kv : List Key × V) (tw : List Nat × List Nat) : Prop := kv.1 = keyN tw.1 ∧ TN H kv.2 tw.2
def DW (H : Hp) (d : Addr) (L : List (List Nat × List Nat)) : Prop := ∃ kvs, H d = some (.dT kvs) ∧ Paired (DE H) kvs L
theorem DEs.tm {H H' : Hp} (e : Tm H H') : ∀ {kvs : List (List Key × V)} {L : List (List Nat × List Nat)}, Paired (DE H) kvs L → Paired (DE H') kvs L
  | _, _, .nil => .nil
  | _, _, .cons r t => .cons ⟨r.1, r.2.tm e⟩ (DEs.tm e t)
theorem DW.tm {H H' : Hp} {d : Addr} {L : List (List Nat × List Nat)} (h : DW H d L) (e : Tm H H') (ed : H' d = H d) : DW H' d L := let ⟨kvs, h1, h2⟩ := h; ⟨kvs, ed.trans h1, DEs.tm e h2⟩
theorem DW.same {H H' : Hp} {d : Addr} {L : List (List Nat × List Nat)} (h : DW H d L) (e : Same H H') : DW H' d L := let ⟨kvs, h1, h2⟩ := h; ⟨kvs, e _ _ h1, DEs.tm (.of e) h2⟩
theorem dw_none {H : Hp} {t : List Nat} : ∀ {kvs : List (List Key × V)} {L : List (List Nat × List Nat)}, Paired (DE H) kvs L → t ∉ L.map (·.1) → valV kvs (keyN t) = none
  | _, _, .nil, _ => rfl
  | p :: ps, q :: qs, .cons r s, h => by
    have hne : ¬ p.1 = keyN t := fun e => h (by
      rw [List.map_cons]
      rw [r.1] at e
      rw [keyN_inj e]
      exact List.mem_cons_self)
    rw [valV_neg hne]
    exact dw_none s fun m => h (List.mem_cons_of_mem _ m)
theorem dw_some {H : Hp} {t w : List Nat} : ∀ {kvs : List (List Key × V)} {L : List (List Nat × List Nat)}, Paired (DE H) kvs L → (L.map (·.1)).Nodup → (t, w) ∈ L → ∃ v, valV kvs (keyN t) = some v ∧ TN H v w
  | _, _, .nil, _, h => by cases h
  | p :: ps, q :: qs, .cons r s, hn, h => by
    rw [List.map_cons] at hn
    obtain ⟨h1, h2⟩ := List.nodup_cons.mp hn
    rcases List.mem_cons.mp h with e | h
    · subst e
      exact ⟨p.2, valV_pos r.1, r.2⟩
    · have hne : ¬ p.1 = keyN t := fun e => h1 (by
        rw [r.1] at e
        rw [keyN_inj e]
        exact List.mem_map.mpr ⟨_, h, rfl⟩)
      rw [valV_neg hne]
      exact dw_some s h2 h
theorem dw_isSome {H : Hp} {t : List Nat} {kvs : List (List Key × V)} {L : List (List Nat × List Nat)} (p : Paired (DE H) kvs L) (hn : (L.map (·.1)).Nodup) : (valV kvs (keyN t)).isSome = decide (t ∈ L.map (·.1)) := by
  by_cases h : t ∈ L.map (·.1)
  · obtain ⟨⟨t', w⟩, hm, e⟩ := List.mem_map.mp h
    have e : t' = t := e
    subst e
    obtain ⟨v, hv, _⟩ := dw_some p hn hm
    rw [hv, decide_eq_true h]
    rfl
  · rw [dw_none p h, decide_eq_false h]
    rfl
theorem TK.key {H : Hp} {v : V} {t : List Nat} (h : TK H v t) : ∃ b, v = .ref b ∧ H b = some (.tup ((keyN t).map kV)) := by
  obtain ⟨b, e, hb⟩ := h
  exact ⟨b, e, by rw [hb, nIs_key]; rfl⟩
theorem TN.key {H : Hp} {v : V} {t : List Nat} (h : TN H v t) : ∃ b, v = .ref b ∧ RT H b ((keyN t).map kV) := by
  obtain ⟨b, e, hb⟩ := h
  refine ⟨b, e, ?_⟩
  have z : nIs t = (keyN t).map kV := by rw [nIs_key]; rfl
  rw [← z]
  exact hb
theorem LT.tm {H H' : Hp} {a : Addr} {ts : List (List Nat)} (h : LT H a ts) (e : Tm H H') (ea : H' a = H a) : LT H' a ts := let ⟨xs, h1, h2⟩ := h; ⟨xs, ea.trans h1, TNs.tm e h2⟩
/-! ### d[k], k in d: the key to be read -/
def tDGetR (td ty : TE) : TE := fun σ H Q => td σ H fun x H1 => ty σ H1 fun y H2 => ∃ a v kvs k b, x = .ref a ∧ y = .ref b ∧ Rd H2 a (.dT kvs) ∧ RT H2 b (k.map kV) ∧ valV kvs k = some v ∧ Q v H2
theorem key_rd {P : Program} {w : World} {H : Hp} {h : Heap} {ks : List Key} {a : Addr} (ok : HOk P w H h) (e : RT H a (ks.map kV)) : (tupleKind (mixKind P w)).is h ks a := by
  have z : ObjOk P w H h a (.tup (ks.map kV)) := Rd.ok e ok
  obtain ⟨_, its, r, o, h1, h2, n, h3⟩ := z
  exact ⟨o, its.toArray, n, h1, h2, h3, by simpa using items_are r⟩
section
variable {X : Cx} {o i : Expr} {td ty : TE} {pos : Pos}
theorem pe_dgetR (hu : X.A.units + 1 < cLine) (ho : PE X o td) (hi : PE X i ty) (hs : NoSl i) : PE X (.Subscript o i pos) (tDGetR td ty) := by
  refine ⟨fun pins s σ H Q I h => ?_⟩
  refine subD_of PySem.F.slot_dict_getitem.lookup hs (thn (ho.run pins s σ H _ I h) fun u s1 ⟨x, H1, I1, rx, q1⟩ => thn (hi.run pins s1 σ H1 _ I1 q1) fun iv s2 ⟨y, H2, I2, ry, a, v, kvs, k, b, ex, ey, hd, hb, hv, q2⟩ => ?_)
  subst ex ey
  obtain rfl : u = Value.ref a := rx
  obtain rfl : iv = Value.ref b := ry
  obtain ⟨z, hds, xs, rel, dd⟩ := dt_rd I2.hok hd
  obtain ⟨w', hw, rw'⟩ := RelO.some_of (v := v) (o := (atKey xs k).map (·.2)) (by rw [← hv]; exact rel.val k)
  obtain ⟨p, hp, hp2⟩ := Option.map_eq_some_iff.mp hw
  have ht : s2.TypeIs (.ref a) "dict" := by
    obtain ⟨ob, _, _, h1, h2, _⟩ := dd
    exact ⟨ob, h1, h2.1⟩
  refine ⟨ht, wpAny_getItem_heap (tupleKind_room_in1 hu) (key_rd I2.hok hb) dd hp ?_⟩
  rw [hp2]
  exact ⟨v, H2, I2.tok _, rw', q2⟩
end
/-! ### the mirror's turns, maker by maker -/
theorem grow_app (t w : List Nat) : ∀ (xs ys : List (List Nat)) (p : Nat) (L : List (List Nat × List Nat)), grow t w (xs ++ ys) p L = grow t w ys (p + xs.length) (grow t w xs p L)
  | [], _, _, _ => rfl
  | x :: xs, ys, p, L => by
    show grow t w (xs ++ ys) (p + 1) _ = grow t w ys (p + (xs.length + 1)) (grow t w xs (p + 1) _)
    rw [grow_app t w xs ys (p + 1)]
    congr 1
    omega
theorem grow_next {t w : List Nat} {gs : List (List Nat)} {i : Nat} {g : List Nat} (h : gs[i]? = some g) (L : List (List Nat × List Nat)) :
    grow t w (gs.take (i + 1)) 0 L = if prod t g ∈ (grow t w (gs.take i) 0 L).map (·.1) then grow t w (gs.take i) 0 L else grow t w (gs.take i) 0 L ++ [(prod t g, w ++ [i])] := by
  have hl : i < gs.length := (List.getElem?_eq_some_iff.mp h).1
  have e : gs.take (i + 1) = gs.take i ++ [g] := by rw [List.take_add_one, h]; rfl
  rw [e, grow_app, List.length_take, Nat.min_eq_left (Nat.le_of_lt hl), Nat.zero_add]
  rfl
theorem grow_len (t w : List Nat) : ∀ (gs : List (List Nat)) (p : Nat) (L : List (List Nat × List Nat)), (grow t w gs p L).length ≤ L.length + gs.length
  | [], _, L => Nat.le_refl _
  | g :: gs, p, L => by
    have ih := grow_len t w gs (p + 1) (if prod t g ∈ L.map (·.1) then L else L ++ [(prod t g, w ++ [p])])
    show (grow t w gs (p + 1) _).length ≤ L.length + (gs.length + 1)
    split at ih
    · rename_i h
      rw [if_pos h]
      omega
    · rename_i h
      rw [if_neg h]
      rw [List.length_append] at ih
      have e : [(prod t g, w ++ [p])].length = 1 := rfl
      omega
theorem qq_len_le (gs : List (List Nat)) (n k : Nat) : ∀ i, (qq gs n (k + i)).length ≤ (qq gs n k).length + i * gs.length
  | 0 => by rw [Nat.zero_mul]; exact Nat.le_refl _
  | i + 1 => by
    have ih := qq_len_le gs n k i
    have e : (i + 1) * gs.length = i * gs.length + gs.length := Nat.succ_mul _ _
    show (match (qq gs n (k + i))[k + i]? with
      | none => qq gs n (k + i)
      | some (t, w) => grow t w gs 0 (qq gs n (k + i))).length ≤ _
    split
    · omega
    · rename_i t w _
      have := grow_len t w gs 0 (qq gs n (k + i))
      omega
/-- words[turn] + (place,) -/
theorem catA_tn {K : PySem.W.Frag} {H : Hp} {pw p : Addr} {w : List Nat} {j : Nat} {Q : VK} (hw : RT H pw (nIs w)) (hp : H p = some (.tup [nI j])) (hl : w.length ≤ 1000000) (q : ∀ v H', Same H H' → TN H' v (w ++ [j]) → Q v H') : rCatA K (.ref pw) (.ref p) H Q := by
  refine ⟨pw, p, nIs w, [nI j], rfl, rfl, hw.sq, SqT.of hp, ?_, fun e => ?_, fun _ e => (by cases e), fun _ _ p2 hp2 => ?_⟩
  · rw [nIs_len, sizeLine_eq]
    show w.length + 1 ≤ _
    omega
  · have e : w = [] := by
      cases w with
      | nil => rfl
      | cons a w => cases e
    subst e
    exact q _ _ (Same.refl _) ⟨p, rfl, .inl hp⟩
  · refine q _ _ (same_new hp2) ⟨p2, rfl, .inl ?_⟩
    rw [upd_same]
    unfold nIs
    rw [List.map_append]
    rfl
theorem grow_w (t w : List Nat) (m : Nat) : ∀ (gs : List (List Nat)) (p : Nat) (L : List (List Nat × List Nat)), w.length ≤ m → (∀ x ∈ L, x.2.length ≤ m + 1) → ∀ x ∈ grow t w gs p L, x.2.length ≤ m + 1
  | [], _, _, _, h, x, hx => h x hx
  | g :: gs, p, L, hw, h, x, hx => by
    refine grow_w t w m gs (p + 1) _ hw (fun y hy => ?_) x hx
    split at hy
    · exact h y hy
    · rcases List.mem_append.mp hy with z | z
      · exact h y z
      · rw [List.mem_singleton.mp z, List.length_append]
        show w.length + 1 ≤ m + 1
        omega
theorem qq_w (gs : List (List Nat)) (n : Nat) : ∀ k, ∀ x ∈ qq gs n k, x.2.length ≤ k
  | 0, x, h => by
    rw [List.mem_singleton.mp (show x ∈ [(List.range n, ([] : List Nat))] from h)]
    exact Nat.le_refl 0
  | k + 1, x, h => by
    have ih := qq_w gs n k
    have h' : x ∈ (match (qq gs n k)[k]? with
      | none => qq gs n k
      | some (t, w) => grow t w gs 0 (qq gs n k)) := h
    split at h'
    · exact Nat.le_succ_of_le (ih x h')
    · rename_i t w e
      exact grow_w t w k gs 0 _ (ih _ (List.mem_of_getElem? e)) (fun y hy => Nat.le_succ_of_le (ih y hy)) x h'
section
variable {P : Program} {w : World} {K : PySem.W.Frag} {mg : Str → Option Value} {base : Heap}
/-! ### bracket_of -/
def spBracket : Sp := fun vs H Q _ => ∃ (a b : V) (x y : List Nat) (n : Nat), vs = [a, b] ∧ TN H a x ∧ TN H b y ∧ IsP n x ∧ IsP n y ∧ n ≤ 1000 ∧ ∀ v H', Same H H' → TK H' v (prod (prod x y) (inv (prod y x))) → Q v H'
theorem sc_bracket_of : FnScope ["one", "other"] ["one", "other"] (defScope s_bracket_of) := ⟨rfl, rfl, rfl, by decide +kernel, rfl, by decide +kernel, by decide +kernel⟩
theorem pr_call {H : Hp} {a b : V} {x y : List Nat} {n : Nat} {Q : VK} (ha : TN H a x) (hb : TN H b y) (hx : IsP n x) (hy : IsP n y) (hn : n ≤ 1000) (q : ∀ v H', Same H H' → TK H' v (prod x y) → Q v H') : spProd [a, b] H Q E0 :=
  ⟨a, b, x, y, rfl, ha, hb, fun i hi => by rw [hy.len]; exact hx.lt i hi, by rw [hx.len]; exact hn, q⟩
theorem has_bracket_of (T : Top K mg "bracket_of" s_bracket_of ["one", "other"]) (hP : Has P w K mg base CX0 1 "product_of" ["one", "other"] spProd) (hB : Has P w K mg base CX0 1 "back_of" ["turn"] spBack) : Has P w K mg base CX0 2 "bracket_of" ["one", "other"] spBracket := by
  refine T.ok sc_bracket_of (fun vs H Q E h => ?_) (fun f cdv A outer s H vs Q E hr h => ?_)
  · obtain ⟨a, b, x, y, n, rfl, _⟩ := h
    rfl
  · obtain ⟨a, b, x, y, n, rfl, ha, hb, hx, hy, hn, q⟩ := h
    refine ⟨_, pss_one (ps_ret (pe_has hP hr (by rfl) (pa_cons (pe_has hP hr (by rfl) (pa_cons (pv 0) (pa_cons (pv 1) pa_nil))) (pa_cons (pe_has hB hr (by rfl) (pa_cons (pe_has hP hr (by rfl) (pa_cons (pv 1) (pa_cons (pv 0) pa_nil))) pa_nil)) pa_nil)))), ?_⟩
    refine ⟨_, rfl, _, rfl, pr_call ha hb hx hy hn fun u H1 s1 hu => ?_⟩
    refine ⟨_, rfl, _, rfl, pr_call (hb.tm (.of s1)) (ha.tm (.of s1)) hy hx hn fun u2 H2 s2 hu2 => ?_⟩
    refine ⟨u2, _, n, rfl, hu2.tn, hy.prod hx, hn, fun u3 H3 s3 hu3 => ?_⟩
    exact pr_call (hu.tm (.of (s2.trans s3))).tn hu3.tn (hx.prod hy) (hy.prod hx).inv hn fun u4 H4 s4 hu4 => q _ _ (((s1.trans s2).trans s3).trans s4) hu4
/-! ### words_of -/
def Cn (mg : Str → Option Value) (x : Str) (i : Int) : Prop := ∃ t, mg x = some (.int i t)
def Wd (gs : List (List Nat)) (n : Nat) (L : List (List Nat × List Nat)) : Prop := ∃ a, L = qq gs n a ∧ a ≤ L.length ∧ (L.length = a ∨ 240 < L.length)
def spWords : Sp := fun vs H Q _ => ∃ (ms : V) (gs : List (List Nat)) (n : Nat), vs = [ms, nI n] ∧ TT H ms gs ∧ (∀ g ∈ gs, IsP n g) ∧ n ≤ 1000 ∧ gs.length ≤ 1000 ∧
  ∀ d H' L, Same H H' → H d = none → DW H' d L → Wd gs n L → Q (.ref d) H'
theorem sc_words_of : FnScope ["makers", "size", "still", "words", "level", "longer", "turn", "place", "maker", "led"] ["makers", "size"] (defScope s_words_of) := ⟨rfl, rfl, rfl, by decide +kernel, rfl, by decide +kernel, by decide +kernel⟩
/-- the state at the while: behind a positions -/
structure WS (H0 : Hp) (ms st : V) (n : Nat) (gs : List (List Nat)) (d : Addr) (a : Nat) (σ : L2.St) (H : Hp) : Prop where
  sl : ∃ lv x5 x6 x7 x8 x9, σ = [some ms, some (nI n), some st, some (.ref d), some (.ref lv), x5, x6, x7, x8, x9] ∧ LT H lv (((qq gs n a).map (·.1)).drop a)
  sm : Same H0 H
  dw : DW H d (qq gs n a)
  le : a ≤ (qq gs n a).length
  le2 : a ≤ 240
theorem qq_step {gs : List (List Nat)} {n a i : Nat} {M : List (List Nat × List Nat)} (e : qq gs n (a + i) = qq gs n a ++ M) {t w : List Nat} (h : (qq gs n a)[a + i]? = some (t, w)) : qq gs n (a + i + 1) = grow t w gs 0 (qq gs n (a + i)) := by
  have z : (qq gs n (a + i))[a + i]? = some (t, w) := by
    rw [e, List.getElem?_append_left (List.getElem?_eq_some_iff.mp h).1]
    exact h
  show (match (qq gs n (a + i))[a + i]? with
    | none => qq gs n (a + i)
    | some (t, w) => grow t w gs 0 (qq gs n (a + i))) = _
  rw [z]
theorem has_words_of (T : Top K mg "words_of" s_words_of ["makers", "size"]) (B : Bi mg) (C : Cn mg "MOST_TURNS" 240) (hS : Has P w K mg base CX0 1 "still_of" ["size"] spStill) (hP : Has P w K mg base CX0 1 "product_of" ["one", "other"] spProd) :
    Has P w K mg base CX0 2 "words_of" ["makers", "size"] spWords := by
  refine T.ok sc_words_of (fun vs H Q E h => ?_) (fun f cdv A outer s H vs Q E hr h => ?_)
  · obtain ⟨ms, gs, n, rfl, _⟩ := h
    rfl
  · obtain ⟨ms, gs, n, rfl, hms, hg, hn, hgl, q⟩ := h
    obtain ⟨tk, hC⟩ := C
    have hu := hu_of hr
    refine ⟨_, pss_cons (ps_set (i := 2) sc_words_of.nd rfl (Or.inl rfl) (pe_has hS hr (by rfl) (pa_cons (pv 1) pa_nil)))
      (pss_cons (ps_set (i := 3) sc_words_of.nd rfl (Or.inl rfl) (pe_dispT hu (pv 2) (pe_tup pa_nil)))
      (pss_cons (ps_set (i := 4) sc_words_of.nd rfl (Or.inl rfl) (pe_lst (pa_cons (pv 2) pa_nil)))
      (pss_cons (ps_while PassesOwn.never (PW.pt (pw_and (pt_truth (pv 4) (by intro _; rfl)) (pw_and1 (pt_cmpR op_le (pe_callB call_len_dT (by rfl) B.len PySem.boot_len (pa_cons (pv 3) pa_nil)) (pe_glob (v := .int 240) rfl hC ⟨_, rfl⟩) (nomark _)))))
        (pss_cons (ps_set (i := 5) sc_words_of.nd rfl (Or.inl rfl) (pe_lst pa_nil))
        (pss_cons (ps_for PassesOwn.never rfl (pi_list (pv 4)) (pg_name (i := 6) sc_words_of.nd rfl (Or.inl rfl))
          (pss_one (ps_for PassesOwn.never rfl (pi_enumT (by rfl) B.enumerate (pa_cons (pv 0) pa_nil)) (pg_tup rfl (pgs_cons (pg_name (i := 7) sc_words_of.nd rfl (Or.inl rfl)) (pgs_cons (pg_name (i := 8) sc_words_of.nd rfl (Or.inl rfl)) pgs_nil)))
            (pss_cons (ps_set (i := 9) sc_words_of.nd rfl (Or.inl rfl) (pe_has hP hr (by rfl) (pa_cons (pv 6) (pa_cons (pv 8) pa_nil))))
            (pss_one (ps_if (pt_cmp (pc_dnotin hu (pv 9) (pv 3)))
              (pss_cons (ps_dput hu (pv 3) (pv 9) (pe_op op_catA (pe_dgetR hu (pv 3) (pv 6) (fun _ _ => rfl)) (pe_tup (pa_cons (pv 7) pa_nil))) rfl)
              (pss_one (ps_expr (pe_bm PySem.F.plainAttrs_list PySem.F.slot_list_append PySem.F.type_list_append mt_append (pv 5) (pa_cons (pv 9) pa_nil)))))
              pss_nil))))))
        (pss_one (ps_set (i := 4) sc_words_of.nd rfl (Or.inl rfl) (pv 5))))))
      (pss_one (ps_ret (pv 3)))))), ?_⟩
    refine ⟨_, rfl, n, rfl, hn, fun st H1 s1 hst => ?_⟩
    refine fun d hd => ⟨_, rfl, ⟨Nat.zero_le _, fun p hp => ?_⟩⟩
    have hpd : p ≠ d := fun z => by rw [z, upd_same] at hp; cases hp
    have s2 : Same H1 (upd (upd H1 d (.dT [])) p (.tup [])) := (same_new hd).trans (same_new hp)
    obtain ⟨b, ebv, hb⟩ := (hst.tm (.of s2)).key
    subst ebv
    refine ⟨b, keyN (List.range n), rfl, by rw [upd_ne hpd.symm, upd_same], hb, ?_⟩
    refine ⟨_, rfl, by show 1 ≤ sizeLine; decide, fun lv hlv => ?_⟩
    have hd0 : H d = none := s1.free hd
    have s3 : Same H1 (upd (upd (upd H1 d (.dT [])) p (.tup [])) d (.dT [(keyN (List.range n), .ref p)])) := same_mut s2 hd
    have s4 : Same H1 (upd (upd (upd (upd H1 d (.dT [])) p (.tup [])) d (.dT [(keyN (List.range n), .ref p)])) lv (.lst [.ref b])) := s3.trans (same_new hlv)
    have hdl : d ≠ lv := fun z => by rw [← z, upd_same] at hlv; cases hlv
    have hpl : p ≠ lv := fun z => by rw [← z, upd_ne hpd, upd_same] at hlv; cases hlv
    have hst' : TN (upd (upd (upd (upd H1 d (.dT [])) p (.tup [])) d (.dT [(keyN (List.range n), .ref p)])) lv (.lst [.ref b])) (.ref b) (List.range n) := (hst.tm (.of s4)).tn
    refine ⟨fun m σ H' => ∃ a, m = 240 - a ∧ WS H ms (.ref b) n gs d a σ H', ⟨240, 0, rfl, ⟨⟨lv, none, none, none, none, none, rfl, [.ref b], upd_same, .cons hst' .nil⟩, s1.trans s4, ⟨[(keyN (List.range n), .ref p)], by rw [upd_ne hdl, upd_same], .cons ⟨rfl, p, rfl, .inl ?_⟩ .nil⟩, Nat.zero_le _, Nat.zero_le _⟩⟩, ?_⟩
    · rw [upd_ne hpl, upd_ne hpd, upd_same]
      rfl
    rintro m σ H' ⟨a, rfl, ⟨⟨lv, x5, x6, x7, x8, x9, rfl, xs, hlv', hxs⟩, sm, dw, le, le2⟩⟩
    have ret : (qq gs n a).length = a ∨ 240 < (qq gs n a).length → Q (.ref d) H' := fun h => q d H' _ sm hd0 dw ⟨a, rfl, le, h⟩
    have hxl : xs.length = (qq gs n a).length - a := by
      rw [Paired.length hxs, List.length_drop, List.length_map]
    refine ⟨_, rfl, !xs.isEmpty, .inl ⟨xs, SqL.of hlv', rfl⟩, ?_⟩
    refine ite2 (fun h => ?_) (fun h => ?_)
    rotate_left
    · refine iteF ⟨_, rfl, ret (.inl ?_)⟩
      cases xs with
      | nil => simp at hxl; omega
      | cons x xs => exact absurd rfl h
    obtain ⟨kvs, hkv, pkv⟩ := dw
    have hkl : kvs.length = (qq gs n a).length := Paired.length pkv
    refine ⟨_, rfl, d, kvs, rfl, hkv, _, _, rfl, rfl, _, rfl, ite2 (fun h2 => ?_) (fun h2 => ?_)⟩
    rotate_left
    · have h2 : ¬ ((kvs.length : Int) ≤ 240) := fun z => h2 (decide_eq_true z)
      exact ⟨_, rfl, ret (.inr (by omega))⟩
    have h2 : (kvs.length : Int) ≤ 240 := of_decide_eq_true h2
    have hpos : a < (qq gs n a).length := by
      cases xs with
      | nil => simp at h
      | cons x xs => rw [List.length_cons] at hxl; omega
    refine ⟨fun σ2 H2 => WS H ms (.ref b) n gs d (qq gs n a).length σ2 H2, fun σ2 H2 hw => ⟨240 - (qq gs n a).length, by omega, _, rfl, hw⟩, ?_⟩
    -- longer = []
    refine ⟨Nat.zero_le _, fun lg hlg => ?_⟩
    have hlg0 : H lg = none := sm.free hlg
    have sl := same_new (o := .lst []) hlg
    obtain ⟨pm, mxs, rfl, hpm, hmx⟩ := hms
    have hlvg : lv ≠ lg := ne_of_none hlv' hlg
    have hdg : d ≠ lg := ne_of_none hkv hlg
    have hlv0 : ∀ H2 : Hp, Same H' H2 → H2 lv = some (.lst xs) := fun H2 s => s _ _ hlv'
    refine ⟨_, rfl, lv, rfl, ⟨_, SqL.of (sl _ _ hlv')⟩, for_list (K := K) (a := lv) (xs := xs)
      (fun i σ2 H2 => ∃ y6 y7 y8 y9 M, σ2 = [some (.ref pm), some (nI n), some (.ref b), some (.ref d), some (.ref lv), some (.ref lg), y6, y7, y8, y9] ∧ Same H H2 ∧ qq gs n (a + i) = qq gs n a ++ M ∧ DW H2 d (qq gs n (a + i)) ∧ LT H2 lg (M.map (·.1)) ∧ H2 lv = some (.lst xs) ∧ Paired (TN H2) xs (((qq gs n a).map (·.1)).drop a))
      ⟨x6, x7, x8, x9, [], rfl, sm.trans sl, by rw [List.append_nil]; rfl, DW.same ⟨kvs, hkv, pkv⟩ sl, ⟨[], upd_same, .nil⟩, sl _ _ hlv', TNs.tm (.of sl) hxs⟩
      (fun i σ2 H2 _ ⟨_, _, _, _, _, _, _, _, _, _, h, _⟩ => SqL.of h) ?_ ?_⟩
    · rintro i x σ2 H2 hi ⟨y6, y7, y8, y9, M, rfl, sm2, eM, dw2, lt2, hlv2, hx2⟩
      obtain ⟨t, ht, htn⟩ := Paired.getL hx2 hi
      rw [List.getElem?_drop, List.getElem?_map] at ht
      obtain ⟨⟨t', w'⟩, hq, et⟩ := Option.map_eq_some_iff.mp ht
      have et : t' = t := et
      subst et
      have hstep := qq_step eM hq
      have htP : IsP n t' := Mk.isP hg (qq_mk gs n a t' (List.mem_map.mpr ⟨_, List.mem_of_getElem? hq, rfl⟩))
      refine ⟨_, rfl, pm, _, rfl, SqT.of (sm2 _ _ hpm), for_enumT (K := K) (xs := mxs)
        (fun j σ3 H3 => ∃ z7 z8 z9 M', σ3 = [some (.ref pm), some (nI n), some (.ref b), some (.ref d), some (.ref lv), some (.ref lg), some x, z7, z8, z9] ∧ Same H H3 ∧ grow t' w' (gs.take j) 0 (qq gs n (a + i)) = qq gs n a ++ M' ∧ DW H3 d (qq gs n a ++ M') ∧ LT H3 lg (M'.map (·.1)) ∧ H3 lv = some (.lst xs) ∧ Paired (TN H3) xs (((qq gs n a).map (·.1)).drop a))
        ⟨y7, y8, y9, M, rfl, sm2, eM, by rw [← eM]; exact dw2, lt2, hlv2, hx2⟩ (fun j σ3 H3 _ ⟨_, _, _, _, _, s, _⟩ => SqT.of (s _ _ hpm)) ?_ ?_⟩
      · rintro j y σ3 H3 T hj ⟨z7, z8, z9, M', rfl, sm3, eM', dw3, ⟨gz, hgz, pgz⟩, hlv3, hx3⟩ hT
        obtain ⟨g, hgj, hyg⟩ := Paired.getL hmx hj
        have hgP := hg g (List.mem_of_getElem? hgj)
        have sT := same_new (o := .tup [nI j, y]) hT
        refine ⟨T, _, rfl, SqT.of upd_same, rfl, nI j, _, rfl, y, _, rfl, rfl, ?_⟩
        obtain ⟨t2, ht2, htn3⟩ := Paired.getL hx3 hi
        rw [List.getElem?_drop, List.getElem?_map, hq] at ht2
        have ht2 : t' = t2 := Option.some.inj ht2
        subst ht2
        refine ⟨_, rfl, _, rfl, pr_call (htn3.tm (.of sT)) (hyg.tm (.of (sm3.trans sT))) htP hgP hn fun v H4 s4 hv => ?_⟩
        have s34 : Same H3 H4 := sT.trans s4
        have hvP := htP.prod hgP
        obtain ⟨b1, rfl, hb1⟩ := hv.key
        obtain ⟨kv4, hk4, pk4⟩ := dw3.same s34
        have hgz4 := s34 _ _ hgz
        have pgz4 := TNs.tm (.of s34) pgz
        have hlv4 := s34 _ _ hlv3
        have hx4 := TNs.tm (.of s34) hx3
        have hnd : ((qq gs n a ++ M').map (·.1)).Nodup := by rw [← eM']; exact grow_nd _ _ _ _ _ (qq_nd gs n (a + i))
        have hnx := grow_next (t := t') (w := w') hgj (qq gs n (a + i))
        rw [eM'] at hnx
        have sm4 : Same H H4 := sm3.trans s34
        refine ⟨_, rfl, _, rfl, d, _, rfl, DGet.t hk4 hb1, _, rfl, ?_⟩
        rw [dw_isSome pk4 hnd]
        by_cases hin : prod t' g ∈ (qq gs n a ++ M').map (·.1)
        · rw [if_pos hin] at hnx
          rw [decide_eq_true hin]
          exact iteF ⟨_, _, _, M', rfl, sm4, hnx, ⟨kv4, hk4, pk4⟩, ⟨gz, hgz4, pgz4⟩, hlv4, hx4⟩
        · rw [if_neg hin] at hnx
          rw [decide_eq_false hin]
          refine iteT ?_
          have hmem : (t', w') ∈ qq gs n a ++ M' := List.mem_append.mpr (.inl (List.mem_of_getElem? hq))
          obtain ⟨wv, hwv, hwn⟩ := dw_some pk4 hnd hmem
          obtain ⟨b2, rfl, hb2⟩ := (htn3.tm (.of s34)).key
          obtain ⟨pw, rfl, hpw⟩ := hwn
          have hwl : w'.length ≤ 240 := Nat.le_trans (qq_w gs n a _ (List.mem_of_getElem? hq)) le2
          refine ⟨_, rfl, _, rfl, d, .ref pw, kv4, _, _, rfl, rfl, .inl hk4, hb2, hwv, _, rfl, by show 1 ≤ sizeLine; decide, fun p hp => ?_⟩
          have s5 := same_new (o := .tup [nI j]) hp
          refine catA_tn (hpw.sm s5) upd_same (by omega) fun v5 H5 s6 hv5 => ?_
          have s45 := s5.trans s6
          have hk5 := s45 _ _ hk4
          have hkl4 : kv4.length = (grow t' w' (gs.take j) 0 (qq gs n (a + i))).length := by rw [Paired.length pk4, ← eM']
          have hsz : kv4.length ≤ 1000000 := by
            have h0 := grow_len t' w' (gs.take j) 0 (qq gs n (a + i))
            have h1 := qq_len_le gs n a i
            have h3 : i ≤ 240 := by
              have := (List.getElem?_eq_some_iff.mp hq).1
              omega
            have h4 : i * gs.length ≤ 240 * 1000 := Nat.mul_le_mul h3 hgl
            rw [List.length_take] at h0
            omega
          refine ⟨_, rfl, _, rfl, d, _, rfl, DPut.t hk5 (s45 _ _ hb1) (by rw [sizeLine_eq]; omega), ?_⟩
          rw [putK_new v5 (dw_none pk4 hin)]
          have t6 : Tm H5 (upd H5 d (.dT (kv4 ++ [(keyN (prod t' g), v5)]))) := Tm.dT hk5
          have hg6 : (upd H5 d (.dT (kv4 ++ [(keyN (prod t' g), v5)]))) lg = some (.lst gz) := by
            rw [upd_ne (ne_of hgz4 hk4 (fun z => nomatch z))]
            exact s45 _ _ hgz4
          have hgzl : gz.length ≤ kv4.length := by
            rw [Paired.length pgz, Paired.length pk4, List.length_map, List.length_append]
            omega
          refine ⟨_, rfl, .inl ⟨rfl, _, SqL.of hg6⟩, _, rfl, lg, _, _, rfl, rfl, hg6, by rw [sizeLine_eq]; omega, ?_⟩
          have t7 := Tm.lst (o := .lst (gz ++ [.ref b1])) hg6
          have tt := (Tm.of s45).trans (t6.trans t7)
          refine ⟨_, _, _, M' ++ [(prod t' g, w' ++ [j])], rfl, ?_, ?_, ⟨kv4 ++ [(keyN (prod t' g), v5)], ?_, ?_⟩, ⟨gz ++ [.ref b1], upd_same, ?_⟩, ?_, TNs.tm tt hx4⟩
          · exact same_mut (same_mut (sm4.trans s45) hd0) hlg0
          · rw [hnx, List.append_assoc]
          · rw [upd_ne hdg, upd_same]
          · rw [← List.append_assoc]
            exact Paired.app (DEs.tm tt pk4) (Paired.one ⟨rfl, hv5.tm (t6.trans t7)⟩)
          · rw [List.map_append]
            exact Paired.app (TNs.tm tt pgz4) (Paired.one (hv.tn.tm tt))
          · rw [upd_ne hlvg, upd_ne (ne_of hlv4 hk4 (fun z => nomatch z))]
            exact s45 _ _ hlv4
      · rintro σ3 H3 ⟨z7, z8, z9, M', rfl, sm3, eM', dw3, lt3, hlv3, hx3⟩
        have e : gs.take mxs.length = gs := by rw [Paired.length hmx, List.take_length]
        rw [e] at eM'
        refine ⟨_, _, _, _, M', rfl, sm3, ?_, ?_, lt3, hlv3, hx3⟩
        · show qq gs n (a + i + 1) = _
          rw [hstep, eM']
        · show DW H3 d (qq gs n (a + i + 1))
          rw [hstep, eM']
          exact dw3
    · rintro σ2 H2 ⟨y6, y7, y8, y9, M, rfl, sm2, eM, dw2, lt2, hlv2, hx2⟩
      have e : a + xs.length = (qq gs n a).length := by omega
      rw [e] at eM dw2
      refine ⟨_, rfl, ⟨⟨lg, _, _, _, _, _, rfl, ?_⟩, sm2, dw2, ?_, by omega⟩⟩
      · rw [eM, List.map_append, List.drop_append_of_le_length (by rw [List.length_map]; exact Nat.le_refl _), List.drop_of_length_le (by rw [List.length_map]; exact Nat.le_refl _), List.nil_append]
        exact lt2
      · rw [eM, List.length_append]
        omega
end
end Lt

set_option linter.all false
set_option Elab.async false
/-! powers of a turn; the whole of the turns -/
namespace Lt
def pw (n : Nat) (t : List Nat) : Nat → List Nat
  | 0 => List.range n
  | k + 1 => prod (pw n t k) t
theorem pw_isP {n : Nat} {t : List Nat} (h : IsP n t) : ∀ k, IsP n (pw n t k)
  | 0 => IsP.still n
  | k + 1 => (pw_isP h k).prod h
theorem pw_one {n : Nat} {t : List Nat} (h : IsP n t) : pw n t 1 = t := prod_still_l h.len
theorem pw_add {n : Nat} {t : List Nat} (h : IsP n t) (i : Nat) : ∀ k, pw n t (i + k) = prod (pw n t i) (pw n t k)
  | 0 => (prod_still_r (pw_isP h i).lt).symm
  | k + 1 => by
    show prod (pw n t (i + k)) t = prod (pw n t i) (prod (pw n t k) t)
    rw [pw_add h i k]
    exact prod_assoc fun j hj => by rw [(pw_isP h k).len]; exact (pw_isP h i).lt j hj
theorem prod_cancel {n : Nat} {a b : List Nat} (ha : IsP n a) (hb : IsP n b) (h : prod a b = a) : b = List.range n := by
  have h1 : prod (prod (inv a) a) b = prod (inv a) (prod a b) := prod_assoc fun i hi => by rw [ha.len]; exact ha.inv.lt i hi
  rw [h, prod_inv_l ha, prod_still_l hb.len] at h1
  exact h1
theorem Mk.prod {gs : List (List Nat)} {n : Nat} (hg : ∀ g ∈ gs, IsP n g) {a b : List Nat} (ha : Mk gs n a) (hb : Mk gs n b) : Mk gs n (prod a b) := by
  induction hb with
  | still => rw [prod_still_r (ha.isP hg).lt]; exact ha
  | @step t g ht hm ih =>
    rw [← prod_assoc (x := a) fun i hi => by rw [(ht.isP hg).len]; exact (ha.isP hg).lt i hi]
    exact .step ih hm
theorem Mk.pw {gs : List (List Nat)} {n : Nat} (hg : ∀ g ∈ gs, IsP n g) {t : List Nat} (h : Mk gs n t) : ∀ k, Mk gs n (pw n t k)
  | 0 => .still
  | k + 1 => (Mk.pw hg h k).prod hg h
/-- two of many places hold the same -/
theorem dup_of {α : Type} [DecidableEq α] (f : Nat → α) : ∀ m, ¬ ((List.range m).map f).Nodup → ∃ i j, i < j ∧ j < m ∧ f i = f j
  | 0, h => absurd List.Pairwise.nil h
  | m + 1, h => by
    by_cases hn : ((List.range m).map f).Nodup
    · rw [List.range_succ, List.map_append] at h
      by_cases hx : f m ∈ (List.range m).map f
      · obtain ⟨i, hi, e⟩ := List.mem_map.mp hx
        exact ⟨i, m, List.mem_range.mp hi, Nat.lt_succ_self m, e⟩
      · exact absurd (nodup_snoc hn hx) h
    · obtain ⟨i, j, h1, h2, e⟩ := dup_of f m hn
      exact ⟨i, j, h1, by omega, e⟩
theorem pw_back {gs : List (List Nat)} {n m : Nat} (hg : ∀ g ∈ gs, IsP n g) (hf : Few gs n m) {t : List Nat} (h : Mk gs n t) : ∃ N, 1 ≤ N ∧ N ≤ m ∧ pw n t N = List.range n := by
  have hnd : ¬ ((List.range (m + 1)).map (Lt.pw n t)).Nodup := fun hnd => by
    have z := hf.le hnd fun x hx => by
      obtain ⟨k, _, e⟩ := List.mem_map.mp hx
      rw [← e]
      exact h.pw hg k
    rw [List.length_map, List.length_range] at z
    omega
  obtain ⟨i, j, hij, hj, e⟩ := dup_of _ _ hnd
  have ht := h.isP hg
  refine ⟨j - i, by omega, by omega, ?_⟩
  have z := pw_add ht i (j - i)
  rw [show i + (j - i) = j by omega, ← e] at z
  exact prod_cancel (pw_isP ht i) (pw_isP ht _) z.symm
/-- all the words, the lock being small -/
@[irreducible] def LL (gs : List (List Nat)) (n : Nat) : List W := qq gs n 300
theorem LL_eq (gs : List (List Nat)) (n : Nat) : LL gs n = qq gs n 300 := by unfold LL; rfl
theorem LL_of {gs : List (List Nat)} {n m a : Nat} (hf : Few gs n m) (hm : m ≤ 240) (h : (qq gs n a).length = a) : qq gs n a = LL gs n := by
  have := hf.qq a
  rw [LL_eq]
  exact (qq_end' gs n (by omega) (by omega)).symm
theorem LL_len {gs : List (List Nat)} {n m : Nat} (hf : Few gs n m) : (LL gs n).length ≤ m := by
  rw [LL_eq]
  exact hf.qq 300
theorem LL_nd (gs : List (List Nat)) (n : Nat) : ((LL gs n).map (·.1)).Nodup := by
  rw [LL_eq]
  exact qq_nd gs n 300
theorem LL_mem {gs : List (List Nat)} {n m : Nat} (hf : Few gs n m) (hm : m ≤ 240) (t : List Nat) : t ∈ (LL gs n).map (·.1) ↔ Mk gs n t := by
  rw [LL_eq]
  exact qq_full (Nat.le_trans (hf.qq 300) (by omega)) t
end Lt

set_option Elab.async false
set_option linter.all false
set_option maxRecDepth 100000
set_option maxHeartbeats 4000000
namespace Lt
open PySem PySem.Spec PyProof.Rows L2
/-! ### what is a lock -/
def lenOf : PyData → Nat
  | .tuple ds => ds.length
  | _ => 0
def firstBad : List PyData → Nat → Nat → Option Nat
  | [], _, _ => none
  | d :: ds, n, i => if isPermD d n = true then firstBad ds n (i + 1) else some i
def lockBad : PyData → Option (Option Nat)
  | .tuple ds => if 1 ≤ ds.length ∧ ds.length ≤ 4 then (if isTup (ds.headD .none) = true ∧ 2 ≤ lenOf (ds.headD .none) ∧ lenOf (ds.headD .none) ≤ 9 then (firstBad ds (lenOf (ds.headD .none)) 0).map some else some (some 0)) else some none
  | _ => some none
def plV : Option Nat → V
  | none => .non
  | some i => nI i
def Sml (d : PyData) : Prop := ∀ ds, d = .tuple ds → ds.length ≤ 1000 ∧ ∀ e ∈ ds, ∀ es, e = .tuple es → es.length < 64
section
variable {P : Program} {w : World} {K : PySem.W.Frag} {mg : Str → Option Value} {base : Heap} {CL CM CT : Addr}
/-! ### check_lock -/
def spCheck (CL : Addr) : Sp := fun vs H Q E => ∃ (v : V) (d : PyData), vs = [v] ∧ Rp H v d ∧ Sml d ∧ (lockBad d = none → ∀ H', Same H H' → Q .non H') ∧ ∀ pl, lockBad d = some pl → BadF CL "place" (plV pl) H E
theorem sc_check_lock : FnScope ["lock", "place", "given"] ["lock"] (defScope s_check_lock) := ⟨rfl, rfl, rfl, by decide +kernel, rfl, by decide +kernel, by decide +kernel⟩
theorem has_check_lock (T : Top K mg "check_lock" s_check_lock ["lock"]) (B : Bi mg) (X1 : ErrI P w K mg base "BadLock" "place" CL) (C1 : Cn mg "MOST_GIVEN" 4) (C2 : Cn mg "FEWEST_PLACES" 2) (C3 : Cn mg "MOST_PLACES" 9)
    (hP : Has P w K mg base CX0 3 "is_permutation" ["value", "size"] spPerm) : Has P w K mg base (L2.CX P w) 4 "check_lock" ["lock"] (spCheck CL) := by
  refine T.okX sc_check_lock (fun vs H Q E h => ?_) (fun f cdv A outer s H vs Q E hr h => ?_)
  · obtain ⟨v, d, rfl, _⟩ := h
    rfl
  · obtain ⟨v, d, rfl, hd, hs, qg, qb⟩ := h
    obtain ⟨t1, e1⟩ := C1
    obtain ⟨t2, e2⟩ := C2
    obtain ⟨t3, e3⟩ := C3
    have hr2 : Room 2 _ := hr.mono (by decide)
    refine ⟨_, pss_cons (ps_if (PW.pt (pw_or (pt_not (pt_val (pe_callB call_isi (by rfl) B.isinstance PyProof.Rows.boot_isinstance (pa_cons (pv 0) (pa_cons (pe_bltn (by rfl) B.tuple PyProof.Rows.boot_tuple (rr_ty "tuple")) pa_nil)))))
          (pw_or1 (pt_not (pt_chain op_le op_le pe_int (pe_callB call_len_seq (by rfl) B.len PySem.boot_len (pa_cons (pv 0) pa_nil)) (pe_glob (v := .int 4) rfl e1 ⟨_, rfl⟩))))))
        (pss_one (ps_raise rfl (takes_of rfl rfl rfl rfl) (pmk_errI X1 hr2 (by rfl) (pa_cons pe_non pa_nil)))) pss_nil)
      (pss_cons (ps_if (PW.pt (pw_or (pt_not (pt_val (pe_callB call_isi (by rfl) B.isinstance PyProof.Rows.boot_isinstance (pa_cons (pe_ix ix_tup (pv 0) pe_int (fun _ _ => rfl)) (pa_cons (pe_bltn (by rfl) B.tuple PyProof.Rows.boot_tuple (rr_ty "tuple")) pa_nil)))))
          (pw_or1 (pt_not (pt_chain op_le op_le (pe_glob (v := .int 2) rfl e2 ⟨_, rfl⟩) (pe_callB call_len_seq (by rfl) B.len PySem.boot_len (pa_cons (pe_ix ix_tup (pv 0) pe_int (fun _ _ => rfl)) pa_nil)) (pe_glob (v := .int 9) rfl e3 ⟨_, rfl⟩))))))
        (pss_one (ps_raise rfl (takes_of rfl rfl rfl rfl) (pmk_errI X1 hr2 (by rfl) (pa_cons pe_int pa_nil)))) pss_nil)
      (pss_one (ps_for (passes_of rfl) rfl (pi_enumT (by rfl) B.enumerate (pa_cons (pv 0) pa_nil)) (pg_tup rfl (pgs_cons (pg_name (i := 1) sc_check_lock.nd rfl (Or.inl rfl)) (pgs_cons (pg_name (i := 2) sc_check_lock.nd rfl (Or.inl rfl)) pgs_nil)))
        (pss_one (ps_if (pt_not (pt_val (pe_has hP hr (by rfl) (pa_cons (pv 2) (pa_cons (pe_callB call_len_seq (by rfl) B.len PySem.boot_len (pa_cons (pe_ix ix_tup (pv 0) pe_int (fun _ _ => rfl)) pa_nil)) pa_nil)))))
          (pss_one (ps_raise rfl (takes_of rfl rfl rfl rfl) (pmk_errI X1 hr2 (by rfl) (pa_cons (pv 1) pa_nil)))) pss_nil))))), ?_⟩
    have bad : ∀ {pl : Option Nat} {H' : Hp}, lockBad d = some pl → Same H H' → BadF CL "place" (plV pl) H' E := fun e s => (qb _ e).same s
    by_cases hT : isTup d = true
    rotate_left
    · have e : lockBad d = some none := by cases d <;> first | rfl | exact absurd rfl hT
      have hF : isTup d = false := by simpa using hT
      refine ⟨_, rfl, v, .ty "tuple", _, _, isTup d, rfl, .ty _, rp_ty hd, kit_ty (kit_tup d), isTup d, rfl, ?_⟩
      rw [hF]
      exact mk_read X1.oex X1.no (bad e (Same.refl _))
    cases hd with
    | non => cases hT
    | bl => cases hT
    | int => cases hT
    | str => cases hT
    | lst => cases hT
    | @tup a xs ds ha hx =>
      have hxl := hx.len
      obtain ⟨hs1, hs2⟩ := hs ds rfl
      refine ⟨_, rfl, .ref a, .ty "tuple", _, _, true, rfl, .ty _, rp_ty (.tup ha hx), kit_ty (kit_tup (.tuple ds)), true, rfl, iteF ?_⟩
      have none_of : ¬ (1 ≤ ds.length ∧ ds.length ≤ 4) → lockBad (.tuple ds) = some none := fun h => by
        show (if 1 ≤ ds.length ∧ ds.length ≤ 4 then _ else _) = _
        rw [if_neg h]
      refine ⟨_, rfl, a, xs, rfl, .inr (ha.sq), 1, (xs.length : Int), rfl, rfl, _, rfl, ite2 (fun h1 => ⟨_, _, rfl, rfl, _, rfl, ite2 (fun h2 => ?_) (fun h2 => ?_)⟩) (fun h1 => ⟨_, rfl, ?_⟩)⟩
      · have h2 : ¬ ((xs.length : Int) ≤ 4) := fun z => by rw [decide_eq_true z] at h2; cases h2
        exact mk_read X1.oex X1.no (bad (none_of (by omega)) (Same.refl _))
      rotate_left
      · have h1 : ¬ ((1 : Int) ≤ (xs.length : Int)) := fun z => h1 (decide_eq_true z)
        exact mk_read X1.oex X1.no (bad (none_of (by omega)) (Same.refl _))
      have h2 : (xs.length : Int) ≤ 4 := by
        by_cases z : (xs.length : Int) ≤ 4
        · exact z
        · rw [decide_eq_false z] at h2
          exact absurd rfl h2
      have h1 : (1 : Int) ≤ (xs.length : Int) := of_decide_eq_true h1
      have hlen : 1 ≤ ds.length ∧ ds.length ≤ 4 := ⟨by omega, by omega⟩
      -- the first given turn
      cases hx with
      | nil => exact absurd hlen.1 (by decide)
      | @cons x xr dd dr r0 rr =>
      have hx : RpAll H (x :: xr) (dd :: dr) := .cons r0 rr
      have eLB : lockBad (.tuple (dd :: dr)) = if isTup dd = true ∧ 2 ≤ lenOf dd ∧ lenOf dd ≤ 9 then (firstBad (dd :: dr) (lenOf dd) 0).map some else some (some 0) := by
        show (if 1 ≤ (dd :: dr).length ∧ (dd :: dr).length ≤ 4 then _ else _) = _
        rw [if_pos hlen]
        rfl
      have zero_of : ¬ (isTup dd = true ∧ 2 ≤ lenOf dd ∧ lenOf dd ≤ 9) → lockBad (.tuple (dd :: dr)) = some (some 0) := fun h => by rw [eLB, if_neg h]
      have at0 : atI (x :: xr) 0 = some x := atI_nat (j := 0) rfl
      refine ⟨_, rfl, a, _, 0, x, rfl, rfl, ha.sq, at0, x, .ty "tuple", _, _, isTup dd, rfl, .ty _, rp_ty r0, kit_ty (kit_tup dd), isTup dd, rfl, ?_⟩
      by_cases hT2 : isTup dd = true
      rotate_left
      · have hF : isTup dd = false := by simpa using hT2
        rw [hF]
        exact mk_read (v := .int 0) X1.oex X1.no (bad (zero_of fun z => hT2 z.1) (Same.refl _))
      rw [hT2]
      refine iteF ?_
      cases r0 with
      | non => cases hT2
      | bl => cases hT2
      | int => cases hT2
      | str => cases hT2
      | lst => cases hT2
      | @tup b ys es hb hy =>
      have hyl := hy.len
      refine ⟨_, rfl, a, _, 0, .ref b, rfl, rfl, ha.sq, at0, b, ys, rfl, .inr (hb.sq), 2, (ys.length : Int), rfl, rfl, _, rfl, ite2 (fun h3 => ⟨_, _, rfl, rfl, _, rfl, ite2 (fun h4 => ?_) (fun h4 => ?_)⟩) (fun h3 => ⟨_, rfl, ?_⟩)⟩
      · have h4 : ¬ ((ys.length : Int) ≤ 9) := fun z => by rw [decide_eq_true z] at h4; cases h4
        exact mk_read (v := .int 0) X1.oex X1.no (bad (zero_of fun z => h4 (by have := z.2.2; show (ys.length : Int) ≤ 9; rw [hyl]; exact Int.ofNat_le.mpr this)) (Same.refl _))
      rotate_left
      · have h3 : ¬ ((2 : Int) ≤ (ys.length : Int)) := fun z => h3 (decide_eq_true z)
        exact mk_read (v := .int 0) X1.oex X1.no (bad (zero_of fun z => h3 (by have := z.2.1; show (2 : Int) ≤ (ys.length : Int); rw [hyl]; exact Int.ofNat_le.mpr this)) (Same.refl _))
      have h4 : (ys.length : Int) ≤ 9 := by
        by_cases z : (ys.length : Int) ≤ 9
        · exact z
        · rw [decide_eq_false z] at h4
          exact absurd rfl h4
      have h3 : (2 : Int) ≤ (ys.length : Int) := of_decide_eq_true h3
      rw [if_pos ⟨rfl, by show 2 ≤ es.length; omega, by show es.length ≤ 9; omega⟩] at eLB
      have eLB : lockBad (.tuple (.tuple es :: dr)) = (firstBad (.tuple es :: dr) es.length 0).map some := eLB
      refine ⟨_, rfl, a, _, rfl, ha.sq, for_enumT (K := K) (xs := .ref b :: xr) (fun i σ H' => ∃ y z, σ = [some (.ref a), y, z] ∧ Same H H' ∧ firstBad (.tuple es :: dr) es.length 0 = firstBad ((.tuple es :: dr).drop i) es.length i)
        ⟨none, none, rfl, Same.refl _, rfl⟩ (fun i σ H' _ ⟨_, _, _, s, _⟩ => (ha.sm s).sq) ?_ ?_⟩
      · rintro i u σ H' T hi ⟨y, z, rfl, sm, hfb⟩ hTn
        obtain ⟨du, hdu, hru⟩ := hx.get hi
        have sT := same_new (o := .tup [nI i, u]) hTn
        have sm' := sm.trans sT
        have hdrop : (PyData.tuple es :: dr).drop i = du :: (PyData.tuple es :: dr).drop (i + 1) := by
          obtain ⟨hl, e⟩ := List.getElem?_eq_some_iff.mp hdu
          rw [List.drop_eq_getElem_cons hl, e]
        rw [hdrop] at hfb
        refine ⟨T, _, rfl, SqT.of upd_same, rfl, nI i, _, rfl, u, _, rfl, rfl, ?_⟩
        refine ⟨_, rfl, _, rfl, a, _, 0, .ref b, rfl, rfl, (ha.sm sm').sq, at0, b, ys, rfl, .inr ((hb.sm sm').sq), u, du, es.length, by rw [hyl]; rfl, Rp.same sm' _ _ hru, fun es' e => ?_, by omega, fun H2 s2 => ?_⟩
        · exact hs2 du (List.mem_of_getElem? hdu) es' e
        refine ⟨isPermD du es.length, rfl, ?_⟩
        by_cases hp : isPermD du es.length = true
        · rw [hp]
          refine iteF ⟨_, _, rfl, sm'.trans s2, ?_⟩
          rw [hfb]
          show (if isPermD du es.length = true then _ else _) = _
          rw [if_pos hp]
        · have hF : isPermD du es.length = false := by simpa using hp
          rw [hF]
          refine iteT ⟨_, rfl, mk_read X1.oex X1.no (bad (pl := some i) ?_ (sm'.trans s2))⟩
          rw [eLB, hfb]
          rw [show firstBad (du :: List.drop (i + 1) (PyData.tuple es :: dr)) es.length i = some i from if_neg hp]
          rfl
      · rintro σ H' ⟨y, z, rfl, sm, hfb⟩
        refine qg ?_ H' sm
        rw [eLB, hfb, List.drop_of_length_le (by rw [hxl]; exact Nat.le_refl _)]
        rfl
end
end Lt

set_option Elab.async false
set_option linter.all false
set_option maxRecDepth 100000
set_option maxHeartbeats 4000000
namespace Lt
open PySem PySem.Spec PyProof.Rows L2
def GL (ls : List (List Nat)) (n : Nat) : Prop := 1 ≤ ls.length ∧ ls.length ≤ 4 ∧ 2 ≤ n ∧ n ≤ 9 ∧ ∀ g ∈ ls, IsP n g
/-- the argument lock: no lock, too great a one, or a lock of which k -/
def LockIn (CL CM : Addr) (v : V) (H : Hp) (E : XK) (k : List (List Nat) → Nat → Prop) : Prop := ∃ d, Rp H v d ∧ Sml d ∧ (∀ pl, lockBad d = some pl → BadF CL "place" (plV pl) H E) ∧
  (lockBad d = none → ∃ ls n, TT H v ls ∧ GL ls n ∧ (∀ L, Wd ls n L → 240 < L.length → BadF CM "most" (.int 240) H E) ∧ k ls n)
theorem LockIn.imp {CL CM : Addr} {v : V} {H : Hp} {E : XK} {k k' : List (List Nat) → Nat → Prop} (h : LockIn CL CM v H E k) (i : ∀ ls n, TT H v ls → GL ls n → k ls n → k' ls n) : LockIn CL CM v H E k' := by
  obtain ⟨d, h1, h2, h3, h4⟩ := h
  refine ⟨d, h1, h2, h3, fun e => ?_⟩
  obtain ⟨ls, n, a, b, c, q⟩ := h4 e
  exact ⟨ls, n, a, b, c, i ls n a b q⟩
theorem numsOf_dT (t : List Nat) : numsOf (dT t) = t.map Int.ofNat := by
  show (t.map dN).map numOf = _
  rw [List.map_map]
  rfl
theorem isNums_dT (t : List Nat) : isNums (dT t) = true := by
  show (t.map dN).all isNum = true
  rw [List.all_map]
  exact List.all_eq_true.mpr fun _ _ => rfl
theorem ofNat_inj : ∀ x y : Nat, Int.ofNat x = Int.ofNat y → x = y := fun _ _ e => Int.ofNat.inj e
theorem perm_ofNat {a b : List Nat} (h : (a.map Int.ofNat).Perm (b.map Int.ofNat)) : a.Perm b := by
  have z := h.map Int.toNat
  rw [List.map_map, List.map_map] at z
  have e : ∀ l : List Nat, l.map (Int.toNat ∘ Int.ofNat) = l := fun l => (List.map_congr_left (g := id) fun _ _ => rfl).trans (List.map_id l)
  rw [e, e] at z
  exact z
theorem isPermD_dT (t : List Nat) (n : Nat) : isPermD (dT t) n = decide (IsP n t) := by
  unfold isPermD
  rw [isNums_dT, Bool.true_and, numsOf_dT]
  exact decide_eq_decide.mpr ⟨fun h => perm_ofNat h, fun h => List.Perm.map _ h⟩
theorem firstBad_good {n : Nat} : ∀ (ls : List (List Nat)) (i : Nat), (∀ g ∈ ls, IsP n g) → firstBad (ls.map dT) n i = none
  | [], _, _ => rfl
  | g :: ls, i, h => by
    show (if isPermD (dT g) n = true then firstBad (ls.map dT) n (i + 1) else some i) = none
    rw [isPermD_dT, decide_eq_true (h g List.mem_cons_self), if_pos rfl]
    exact firstBad_good ls (i + 1) fun x hx => h x (List.mem_cons_of_mem _ hx)
theorem lockBad_good {ls : List (List Nat)} {n : Nat} (h : GL ls n) : lockBad (.tuple (ls.map dT)) = none := by
  obtain ⟨h1, h2, h3, h4, h5⟩ := h
  cases ls with
  | nil => exact absurd h1 (by decide)
  | cons g ls =>
    have hg := (h5 g List.mem_cons_self).len
    show (if 1 ≤ ((g :: ls).map dT).length ∧ ((g :: ls).map dT).length ≤ 4 then (if isTup (dT g) = true ∧ 2 ≤ lenOf (dT g) ∧ lenOf (dT g) ≤ 9 then (firstBad ((g :: ls).map dT) (lenOf (dT g)) 0).map some else some (some 0)) else some none) = none
    have e : lenOf (dT g) = n := by
      show (g.map dN).length = n
      rw [List.length_map, hg]
    rw [if_pos ⟨by rw [List.length_map]; exact h1, by rw [List.length_map]; exact h2⟩, e, if_pos ⟨rfl, h3, h4⟩, firstBad_good _ _ h5]
    rfl
theorem sml_good {ls : List (List Nat)} {n : Nat} (h : GL ls n) : Sml (.tuple (ls.map dT)) := by
  obtain ⟨h1, h2, h3, h4, h5⟩ := h
  intro ds e
  injection e with e
  subst e
  refine ⟨by rw [List.length_map]; omega, fun x hx es ee => ?_⟩
  obtain ⟨g, hg, rfl⟩ := List.mem_map.mp hx
  injection ee with ee
  subst ee
  rw [List.length_map, (h5 g hg).len]
  omega
theorem Few.wd {ls : List (List Nat)} {n m : Nat} (h : Few ls n m) (hm : m ≤ 240) {L : List (List Nat × List Nat)} (hL : Wd ls n L) : ∃ a, L = Lt.qq ls n a ∧ L.length = a ∧ L.length ≤ m := by
  obtain ⟨a, rfl, h1, h2⟩ := hL
  have h3 := h.qq a
  exact ⟨a, rfl, by omega, h3⟩
theorem lockIn_good {CL CM : Addr} {v : V} {H : Hp} {E : XK} {k : List (List Nat) → Nat → Prop} {ls : List (List Nat)} {n m : Nat} (ht : TT H v ls) (hg : GL ls n) (hf : Few ls n m) (hm : m ≤ 240) (q : k ls n) : LockIn CL CM v H E k :=
  ⟨_, ht.rp, sml_good hg, fun pl e => (by rw [lockBad_good hg] at e; cases e), fun _ => ⟨ls, n, ht, hg, fun L hL h => by
    obtain ⟨a, _, _, z⟩ := hf.wd hm hL
    omega, q⟩⟩
theorem TT.head {H : Hp} {v : V} {ls : List (List Nat)} {n : Nat} (h : TT H v ls) (hg : GL ls n) : ∃ a xs b, v = .ref a ∧ H a = some (.tup xs) ∧ Paired (TN H) xs ls ∧ atI xs 0 = some (.ref b) ∧ ∃ t, RT H b (nIs t) ∧ t.length = n := by
  obtain ⟨a, xs, rfl, ha, p⟩ := h
  cases p with
  | nil => exact absurd hg.1 (by decide)
  | @cons x t xr tr r rr =>
    obtain ⟨b, rfl, hb⟩ := r
    exact ⟨a, _, b, rfl, ha, .cons ⟨b, rfl, hb⟩ rr, atI_nat (j := 0) rfl, t, hb, (hg.2.2.2.2 t List.mem_cons_self).len⟩
section
variable {P : Program} {w : World} {K : PySem.W.Frag} {mg : Str → Option Value} {base : Heap} {CL CM CT : Addr}
/-! ### made_words -/
def spMade (CL CM : Addr) : Sp := fun vs H Q E => ∃ v, vs = [v] ∧ LockIn CL CM v H E (fun ls n => ∀ d H' L, Same H H' → H d = none → DW H' d L → Wd ls n L → L.length ≤ 240 → Q (.ref d) H')
theorem sc_made_words : FnScope ["lock", "made"] ["lock"] (defScope s_made_words) := ⟨rfl, rfl, rfl, by decide +kernel, rfl, by decide +kernel, by decide +kernel⟩
theorem has_made_words (T : Top K mg "made_words" s_made_words ["lock"]) (B : Bi mg) (X2 : ErrI P w K mg base "TooMany" "most" CM) (C1 : Cn mg "MOST_TURNS" 240)
    (hC : Has P w K mg base (L2.CX P w) 4 "check_lock" ["lock"] (spCheck CL)) (hW : Has P w K mg base CX0 2 "words_of" ["makers", "size"] spWords) : Has P w K mg base (L2.CX P w) 5 "made_words" ["lock"] (spMade CL CM) := by
  refine T.okX sc_made_words (fun vs H Q E h => ?_) (fun f cdv A outer s H vs Q E hr h => ?_)
  · obtain ⟨v, rfl, _⟩ := h
    rfl
  · obtain ⟨v, rfl, d, hd, hs, hb, hg⟩ := h
    obtain ⟨t1, e1⟩ := C1
    have hr2 : Room 2 _ := hr.mono (by decide)
    refine ⟨_, pss_cons (ps_expr (pe_hasX (E := E) hC hr (by rfl) (passes_call (takes_of rfl rfl rfl rfl) (fun _ _ _ _ h => h)) (pa_cons (pv 0) pa_nil)))
      (pss_cons (ps_set (i := 1) sc_made_words.nd rfl (Or.inl rfl) (pe_has hW hr2 (by rfl) (pa_cons (pv 0) (pa_cons (pe_callB call_len_seq (by rfl) B.len PySem.boot_len (pa_cons (pe_ix ix_tup (pv 0) pe_int (fun _ _ => rfl)) pa_nil)) pa_nil))))
      (pss_cons (ps_if (pt_cmpR op_gt (pe_callB call_len_dT (by rfl) B.len PySem.boot_len (pa_cons (pv 1) pa_nil)) (pe_glob (v := .int 240) rfl e1 ⟨_, rfl⟩) (nomark _))
        (pss_one (ps_raise rfl (takes_of rfl rfl rfl rfl) (pmk_errI X2 hr2 (by rfl) (pa_cons (pe_glob (v := .int 240) rfl e1 ⟨_, rfl⟩) pa_nil)))) pss_nil)
      (pss_one (ps_ret (pv 1))))), ?_⟩
    refine ⟨_, rfl, v, d, rfl, hd, hs, fun eg H1 s1 => ?_, hb⟩
    obtain ⟨ls, n, ht, hgl, hM, q⟩ := hg eg
    have ht1 := ht.tm (.of s1)
    obtain ⟨a, xs, b, rfl, ha, hp, h0, t, hbt, htl⟩ := ht1.head hgl
    refine ⟨_, rfl, _, rfl, a, xs, 0, .ref b, rfl, rfl, SqT.of ha, h0, b, _, rfl, .inr (hbt.sq), .ref a, ls, n, by rw [nIs_len, htl]; rfl, ht1, hgl.2.2.2.2, by have := hgl.2.2.2.1; omega, by have := hgl.2.1; omega, fun dd H2 L s2 hdd hdw hwd => ?_⟩
    obtain ⟨kvs, hk, pk⟩ := hdw
    have s12 := s1.trans s2
    refine ⟨_, rfl, dd, kvs, rfl, hk, _, _, rfl, rfl, _, rfl, ite2 (fun h => ?_) (fun h => ?_)⟩
    · have h : (240 : Int) < (kvs.length : Int) := of_decide_eq_true h
      have hl : kvs.length = L.length := Paired.length pk
      exact mk_read X2.oex X2.no ((hM L hwd (by omega)).same s12)
    · have h : ¬ ((240 : Int) < (kvs.length : Int)) := fun z => h (decide_eq_true z)
      have hl : kvs.length = L.length := Paired.length pk
      exact ⟨_, rfl, q dd H2 L s12 (s1.free hdd) ⟨kvs, hk, pk⟩ hwd (by omega)⟩
/-! ### is_turn, are_turns, check_turn -/
def keyI (ns : List Int) : List Key := ns.map Sum.inl
theorem keyN_I (t : List Nat) : keyN t = keyI (t.map Int.ofNat) := by
  unfold keyN keyI
  rw [List.map_map]
  rfl
abbrev numL (L : List (List Nat × List Nat)) : List (List Int) := L.map fun x : List Nat × List Nat => x.1.map Int.ofNat
def isTurnD (L : List (List Nat × List Nat)) (d : PyData) : Bool := isNums d && decide (numsOf d ∈ numL L)
theorem isTurnD_dT (L : List (List Nat × List Nat)) (t : List Nat) : isTurnD L (dT t) = decide (t ∈ L.map (·.1)) := by
  unfold isTurnD
  rw [isNums_dT, Bool.true_and, numsOf_dT]
  refine decide_eq_decide.mpr ⟨fun h => ?_, fun h => ?_⟩
  · obtain ⟨x, hx, e⟩ := List.mem_map.mp h
    rw [← (List.map_inj_right ofNat_inj).mp e]
    exact List.mem_map.mpr ⟨x, hx, rfl⟩
  · obtain ⟨x, hx, e⟩ := List.mem_map.mp h
    exact List.mem_map.mpr ⟨x, hx, by rw [e]⟩
end
end Lt


set_option Elab.async false
set_option linter.all false
set_option maxRecDepth 100000
set_option maxHeartbeats 4000000
namespace Lt
open PySem PySem.Spec PyProof.Rows L2
section
variable {P : Program} {w : World} {K : PySem.W.Frag} {mg : Str → Option Value} {base : Heap} {CL CM CT : Addr}
end
end Lt

set_option Elab.async false
set_option linter.all false
set_option maxRecDepth 100000
set_option maxHeartbeats 1000000
namespace Lt
open PySem PySem.Spec PyProof.Rows L2
section
variable {P : Program} {w : World} {K : PySem.W.Frag} {mg : Str → Option Value} {base : Heap} {CT : Addr}
end
end Lt

set_option Elab.async false
set_option linter.all false
set_option maxRecDepth 100000
set_option maxHeartbeats 1000000
/-! is_step, are_bits -/
namespace Lt
open PySem PySem.Spec PyProof.Rows L2
/-- an int from 0 to k less 1 -/
def ownD (k : Nat) : PyData → Bool
  | .int i => decide (0 ≤ i) && decide (i < (k : Int))
  | _ => false
def stepD (L : List (List Nat × List Nat)) (k : Nat) : PyData → Bool
  | .tuple [a, b, c] => ownD k a && isTurnD L b && isTurnD L c
  | _ => false
section
variable {P : Program} {w : World} {K : PySem.W.Frag} {mg : Str → Option Value} {base : Heap}
/-! ### are_bits -/
end
end Lt

set_option Elab.async false
set_option linter.all false
set_option maxRecDepth 100000
set_option maxHeartbeats 1000000
/-! class Dial -/
namespace Lt
open PySem PySem.Spec PyProof.Rows L2
section
variable (P : Program) (w : World) (K : PySem.W.Frag) (mg : Str → Option Value) (base : Heap)
end
section
variable {P : Program} {w : World} {K : PySem.W.Frag} {mg : Str → Option Value} {base : Heap}
end
section
variable {X : Cx} {CX : CXT}
end
end Lt

set_option Elab.async false
set_option linter.all false
set_option maxRecDepth 100000
set_option maxHeartbeats 1000000
namespace Lt
open PySem PySem.Spec PyProof.Rows L2
/-! ### the row of draws -/
/-- all but the object at r is as it was -/
def StepR (r : Addr) (H H' : Hp) : Prop := ∀ a o, a ≠ r → H a = some o → H' a = some o
theorem StepR.refl (r : Addr) (H : Hp) : StepR r H H := fun _ _ _ h => h
theorem StepR.trans {r : Addr} {H H1 H2 : Hp} (a : StepR r H H1) (b : StepR r H1 H2) : StepR r H H2 := fun c o hc h => b c o hc (a c o hc h)
theorem StepR.of {r : Addr} {H H' : Hp} (e : Same H H') : StepR r H H' := fun a o _ h => e a o h
theorem StepR.put (r : Addr) (H : Hp) (o : HO) : StepR r H (upd H r o) := fun a u h e => by rw [upd_ne h]; exact e
structure Row4 (K : PySem.W.Frag) (H : Hp) (r sc : Addr) (ns : List Int) (a b c : Int) : Prop where
  at_ : H r = some (.lst [.ref sc, .int a, .int b, .int c])
  sc : SqL K H sc (ns.map V.int)
  a0 : 0 ≤ a
  b0 : 0 ≤ b
  b1 : b < 2147483647
def RowAt (K : PySem.W.Frag) (H : Hp) (r sc : Addr) (ns : List Int) : Prop := ∃ a b c, Row4 K H r sc ns a b c
theorem StepR.tm {K : PySem.W.Frag} {r sc : Addr} {ns : List Int} {H H' : Hp} (s : StepR r H H') (h : RowAt K H r sc ns) : Tm H H' := by
  obtain ⟨x, b, c, R⟩ := h
  exact ⟨fun a xs e => s a _ (ne_of e R.at_ (fun z => nomatch z)) e, fun a o xs e => s a _ (ne_of e R.at_ (fun z => nomatch z)) e⟩
theorem sq_upd {K : PySem.W.Frag} {H : Hp} {r sc x : Addr} {o : HO} {ns : List Int} {ys : List V} (hr : H r = some (.lst (.ref x :: ys))) (h : SqL K H sc (ns.map V.int)) : SqL K (upd H r o) sc (ns.map V.int) := by
  have key : ∀ u, H sc = some u → u = .lst (ns.map V.int) ∨ (∃ ob, u = .frz ob (.lst (ns.map V.int))) → upd H r o sc = some u := fun u hu hc => by
    refine (upd_ne (ne_of hu hr fun z => ?_)).trans hu
    rcases hc with e | ⟨ob, e⟩
    · rw [e] at z
      injection z with z
      cases ns with
      | nil => cases z
      | cons n ns => cases z
    · rw [e] at z
      cases z
  rcases h with (h | ⟨ob, h⟩) | h
  · exact .inl (.inl (key _ h (.inl rfl)))
  · exact .inl (.inr ⟨ob, key _ h (.inr ⟨ob, rfl⟩)⟩)
  · exact .inr h
theorem Row4.put {K : PySem.W.Frag} {H : Hp} {r sc : Addr} {ns : List Int} {a b c a' b' c' : Int} (h : Row4 K H r sc ns a b c) (h1 : 0 ≤ a') (h2 : 0 ≤ b') (h3 : b' < 2147483647) : Row4 K (upd H r (.lst [.ref sc, .int a', .int b', .int c'])) r sc ns a' b' c' :=
  ⟨upd_same, sq_upd h.at_ h.sc, h1, h2, h3⟩
theorem RowAt.step {K : PySem.W.Frag} {H H' : Hp} {r sc : Addr} {ns : List Int} (h : RowAt K H r sc ns) (s : Same H H') : RowAt K H' r sc ns := by
  obtain ⟨a, b, c, R⟩ := h
  exact ⟨a, b, c, s _ _ R.at_, Same.seq s R.sc, R.a0, R.b0, R.b1⟩
theorem RowAt.sq {K : PySem.W.Frag} {H : Hp} {r sc : Addr} {ns : List Int} (h : RowAt K H r sc ns) : SqL K H sc (ns.map V.int) := let ⟨_, _, _, R⟩ := h; R.sc
theorem RowAt.ne {K : PySem.W.Frag} {H : Hp} {r sc l : Addr} {ns : List Int} (h : RowAt K H r sc ns) (hl : H l = none) : r ≠ l := let ⟨_, _, _, R⟩ := h; ne_of_none R.at_ hl
/-- an object that was not there at H0, where the row stood, may change -/
theorem RowAt.mut {K : PySem.W.Frag} {H0 H : Hp} {r sc l : Addr} {o : HO} {ns : List Int} (h0 : RowAt K H0 r sc ns) (hl : H0 l = none) (h : RowAt K H r sc ns) : RowAt K (upd H l o) r sc ns := by
  have hr := h0.ne hl
  have s0 := h0.sq
  obtain ⟨a, b, c, R⟩ := h
  refine ⟨a, b, c, (upd_ne hr).trans R.at_, ?_, R.a0, R.b0, R.b1⟩
  rcases s0 with (s0 | ⟨ob, s0⟩) | s0
  · have hne : sc ≠ l := ne_of_none s0 hl
    rcases R.sc with (z | ⟨ob, z⟩) | z
    · exact .inl (.inl ((upd_ne hne).trans z))
    · exact .inl (.inr ⟨ob, (upd_ne hne).trans z⟩)
    · exact .inr z
  · have hne : sc ≠ l := ne_of_none s0 hl
    rcases R.sc with (z | ⟨ob, z⟩) | z
    · exact .inl (.inl ((upd_ne hne).trans z))
    · exact .inl (.inr ⟨ob, (upd_ne hne).trans z⟩)
    · exact .inr z
  · exact .inr s0
theorem StepR.mut {r l : Addr} {H0 H : Hp} {o : HO} (s : StepR r H0 H) (hl : H0 l = none) : StepR r H0 (upd H l o) := fun a u ha e => by
  rw [upd_ne (ne_of_none e hl)]
  exact s a u ha e
theorem StepR.free {r l : Addr} {H0 H : Hp} (s : StepR r H0 H) (hr : r ≠ l) (hl : H l = none) : H0 l = none := by
  cases e : H0 l with
  | none => rfl
  | some o =>
    rw [s l o (Ne.symm hr) e] at hl
    cases hl
section
variable {P : Program} {w : World} {K : PySem.W.Frag} {mg : Str → Option Value} {base : Heap}
def spTaken (K : PySem.W.Frag) : Sp := fun vs H Q _ => ∃ (r sc : Addr) (ns : List Int) (m : Nat), vs = [.ref r, nI m] ∧ RowAt K H r sc ns ∧ 1 ≤ m ∧ m ≤ 1000 ∧ ∀ x H', x < m → StepR r H H' → RowAt K H' r sc ns → Q (nI x) H'
theorem sc_law_taken : FnScope ["row", "many", "found", "cell"] ["row", "many"] (defScope s_law_taken) := ⟨rfl, rfl, rfl, by decide +kernel, rfl, by decide +kernel, by decide +kernel⟩
theorem fmod_nat {i : Int} {m : Nat} (h : 1 ≤ m) : ∃ x : Nat, x < m ∧ Int.fmod i (m : Int) = (x : Int) := by
  have h0 : (0 : Int) < (m : Int) := by omega
  rw [Int.fmod_eq_emod_of_nonneg i (Int.le_of_lt h0)]
  have h1 := Int.emod_nonneg i (show (m : Int) ≠ 0 by omega)
  have h2 := Int.emod_lt_of_pos i h0
  exact ⟨(i % m).toNat, by omega, by omega⟩
theorem has_law_taken (T : Top K mg "_law_taken" s_law_taken ["row", "many"]) (B : Bi mg) : Has P w K mg base CX0 1 "_law_taken" ["row", "many"] (spTaken K) := by
  refine T.ok sc_law_taken (fun vs H Q E h => ?_) (fun f cdv A outer s H vs Q E hr h => ?_)
  · obtain ⟨r, sc, ns, m, rfl, _⟩ := h
    rfl
  · obtain ⟨r, sc, ns, m, rfl, ⟨a, b, c, R⟩, hm1, hm2, q⟩ := h
    refine ⟨_, pss_cons (ps_if (pt_cmpR op_gt (pe_ix ix_list (pv 0) pe_int (fun _ _ => rfl)) pe_int (nomark _))
        (pss_cons (ps_set (i := 2) sc_law_taken.nd rfl (Or.inl rfl) (pe_op op_modN (pe_callTy call_int1 (by rfl) B.int PyProof.Rows.boot_int (pa_cons (pe_ix ix_list (pv 0) pe_int (fun _ _ => rfl)) pa_nil)) (pv 1)))
        (pss_cons (ps_asg (pe_op op_fdivN (pe_ix ix_list (pv 0) pe_int (fun _ _ => rfl)) (pv 1)) (pg_sub (pv 0) pe_int set_list))
        (pss_one (ps_ret (pv 2))))) pss_nil)
      (pss_cons (ps_asg (pe_op op_add (pe_ix ix_list (pv 0) pe_int (fun _ _ => rfl)) pe_int) (pg_sub (pv 0) pe_int set_list))
      (pss_cons (ps_if (pt_cmpR op_gt (pe_ix ix_list (pv 0) pe_int (fun _ _ => rfl)) (pe_callB call_len_seq (by rfl) B.len PySem.boot_len (pa_cons (pe_ix ix_list (pv 0) pe_int (fun _ _ => rfl)) pa_nil)) (nomark _))
        (pss_cons (ps_asg (pe_op op_modN (pe_callTy call_int1 (by rfl) B.int PyProof.Rows.boot_int (pa_cons (pe_op op_add (pe_op op_mul (pe_ix ix_list (pv 0) pe_int (fun _ _ => rfl)) pe_int) pe_int) pa_nil)) pe_int) (pg_sub (pv 0) pe_int set_list))
        (pss_one (ps_ret (pe_op op_modN (pe_callTy call_int1 (by rfl) B.int PyProof.Rows.boot_int (pa_cons (pe_op op_fdivN (pe_ix ix_list (pv 0) pe_int (fun _ _ => rfl)) pe_int) pa_nil)) (pv 1))))) pss_nil)
      (pss_cons (ps_set (i := 3) sc_law_taken.nd rfl (Or.inl rfl) (pe_ix ix_list (pe_ix ix_list (pv 0) pe_int (fun _ _ => rfl)) (pe_op op_sub (pe_ix ix_list (pv 0) pe_int (fun _ _ => rfl)) pe_int) (fun _ _ => rfl)))
      (pss_cons (ps_asg (pe_op op_modN (pe_callTy call_int1 (by rfl) B.int PyProof.Rows.boot_int (pa_cons (pe_op op_add (pe_op op_add (pe_op op_mul (pe_ix ix_list (pv 0) pe_int (fun _ _ => rfl)) pe_int) (pv 3)) pe_int) pa_nil)) pe_int) (pg_sub (pv 0) pe_int set_list))
      (pss_cons (ps_if (pt_cmpR op_ge (pv 3) (pe_op op_pow pe_int pe_int) (nomark _))
        (pss_one (ps_asg (pe_op op_fdivN (pv 3) (pv 1)) (pg_sub (pv 0) pe_int set_list))) pss_nil)
      (pss_one (ps_ret (pe_op op_modN (pe_callTy call_int1 (by rfl) B.int PyProof.Rows.boot_int (pa_cons (pv 3) pa_nil)) (pv 1))))))))), ?_⟩
    have hm0 : (m : Int) ≠ 0 := by omega
    have hmb : ((m : Int)).natAbs < 1073741824 := by omega
    have rd : ∀ {H a b c}, Row4 K H r sc ns a b c → SqL K H r [.ref sc, .int a, .int b, .int c] := fun R => SqL.of R.at_
    have a00 := R.a0
    have b00 := R.b0
    have b11 := R.b1
    have fin : ∀ i H', StepR r H H' → RowAt K H' r sc ns → Q (.int (Int.fmod i m)) H' := fun i H' st ra => by
      obtain ⟨x, hx, ex⟩ := fmod_nat (i := i) hm1
      rw [ex]
      exact q x H' hx st ra
    refine ⟨_, rfl, r, _, 3, .int c, rfl, rfl, rd R, rfl, c, 0, rfl, rfl, _, rfl, ite2 (fun hc => ?_) (fun hc => ?_)⟩
    · refine ⟨_, rfl, r, _, 3, .int c, rfl, rfl, rd R, rfl, .inl ⟨_, rfl, _, rfl, c, m, rfl, rfl, hm0, ?_⟩⟩
      refine ⟨_, rfl, r, _, 3, .int c, rfl, rfl, rd R, rfl, _, rfl, c, m, rfl, rfl, ⟨hm0, hmb⟩, _, rfl, r, _, 3, 3, rfl, rfl, R.at_, rfl, ?_⟩
      exact ⟨_, rfl, fin c _ (StepR.put _ _ _) ⟨a, b, _, R.put a00 b00 b11⟩⟩
    · have R1 := R.put (a' := a + 1) (b' := b) (c' := c) (by omega) b00 b11
      refine ⟨_, rfl, r, _, 1, .int a, rfl, rfl, rd R, rfl, a, 1, rfl, rfl, _, rfl, r, _, 1, 1, rfl, rfl, R.at_, rfl, ?_⟩
      refine ⟨_, rfl, r, _, 1, .int (a + 1), rfl, rfl, rd R1, rfl, _, rfl, r, _, 0, .ref sc, rfl, rfl, rd R1, rfl, sc, ns.map V.int, rfl, .inl R1.sc, a + 1, _, rfl, rfl, _, rfl, ite2 (fun h2 => ?_) (fun h2 => ?_)⟩
      · obtain ⟨y, hy, ey⟩ := fmod_nat (i := b * 48271 + 11) (m := 2147483647) (by decide)
        have ey' : Int.fmod (b * 48271 + 11) 2147483647 = (y : Int) := ey
        have R2 := R1.put (a' := a + 1) (b' := Int.fmod (b * 48271 + 11) 2147483647) (c' := c) (by omega) (by omega) (by omega)
        refine ⟨_, rfl, r, _, 2, .int b, rfl, rfl, rd R1, rfl, b, 48271, rfl, rfl, .inl ⟨by omega, by omega⟩, b * 48271, 11, rfl, rfl, .inl ⟨_, rfl, b * 48271 + 11, 2147483647, rfl, rfl, (show (2147483647 : Int) ≠ 0 by decide), _, rfl, r, _, 2, 2, rfl, rfl, R1.at_, rfl, ?_⟩⟩
        refine ⟨_, rfl, r, _, 2, .int _, rfl, rfl, rd R2, rfl, _, 7, rfl, rfl, ⟨by decide, by decide⟩, .inl ⟨_, rfl, _, rfl, _, m, rfl, rfl, hm0, ?_⟩⟩
        exact fin _ _ ((StepR.put _ _ _).trans (StepR.put _ _ _)) ⟨_, _, _, R2⟩
      · have h2 : ¬ (((ns.map V.int).length : Int) < a + 1) := fun z => h2 (decide_eq_true z)
        rw [List.length_map] at h2
        have hlt : a.toNat < ns.length := by omega
        have hat : atI (ns.map V.int) (a + 1 - 1) = some (.int ns[a.toNat]) := by
          have e : a + 1 - 1 = ((a.toNat : Nat) : Int) := by omega
          rw [e]
          refine atI_nat ?_
          rw [List.getElem?_map, List.getElem?_eq_getElem hlt]
          rfl
        generalize ns[a.toNat] = z at hat
        refine ⟨_, rfl, r, _, 0, .ref sc, rfl, rfl, rd R1, rfl, _, rfl, r, _, 1, .int (a + 1), rfl, rfl, rd R1, rfl, a + 1, 1, rfl, rfl, sc, _, a + 1 - 1, .int z, rfl, rfl, R1.sc, hat, ?_⟩
        obtain ⟨y, hy, ey⟩ := fmod_nat (i := b * 48271 + z + 11) (m := 2147483647) (by decide)
        have ey' : Int.fmod (b * 48271 + z + 11) 2147483647 = (y : Int) := ey
        have R2 := R1.put (a' := a + 1) (b' := Int.fmod (b * 48271 + z + 11) 2147483647) (c' := c) (by omega) (by omega) (by omega)
        refine ⟨_, rfl, r, _, 2, .int b, rfl, rfl, rd R1, rfl, b, 48271, rfl, rfl, .inl ⟨by omega, by omega⟩, _, rfl, b * 48271, z, rfl, rfl, b * 48271 + z, 11, rfl, rfl, .inl ⟨_, rfl, b * 48271 + z + 11, 2147483647, rfl, rfl, (show (2147483647 : Int) ≠ 0 by decide), _, rfl, r, _, 2, 2, rfl, rfl, R1.at_, rfl, ?_⟩⟩
        refine ⟨_, rfl, 10, 18, rfl, rfl, ⟨by decide, by decide, by decide⟩, z, _, rfl, rfl, _, rfl, ite2 (fun h3 => ?_) (fun h3 => ?_)⟩
        · refine ⟨_, rfl, _, rfl, z, m, rfl, rfl, ⟨hm0, hmb⟩, _, rfl, r, _, 3, 3, rfl, rfl, R2.at_, rfl, ?_⟩
          refine ⟨_, rfl, .inl ⟨_, rfl, _, rfl, _, m, rfl, rfl, hm0, ?_⟩⟩
          exact fin _ _ (((StepR.put _ _ _).trans (StepR.put _ _ _)).trans (StepR.put _ _ _)) ⟨_, _, _, R2.put (by omega) (by omega) (by omega)⟩
        · refine ⟨_, rfl, .inl ⟨_, rfl, _, rfl, _, m, rfl, rfl, hm0, ?_⟩⟩
          exact fin _ _ ((StepR.put _ _ _).trans (StepR.put _ _ _)) ⟨_, _, _, R2⟩
end
end Lt

set_option Elab.async false
set_option linter.all false
set_option maxRecDepth 100000
set_option maxHeartbeats 2000000
/-! lambdas in a body: made (with defaults or without), held by a name, called -/
namespace LmX
open PySem PySem.Spec PyProof.Rows L2 LamX NdefX
section
variable {X : Cx} {pins : List (Addr × Obj)} {σ : L2.St} {H : Hp} {s : Shared}
end
section
variable {X : Cx} {T : List (Addr × Str)} {c P : Addr} {params : Arguments} {body : Expr} {scope : Scope} {pos : Pos}
end
end LmX

set_option Elab.async false
set_option linter.all false
set_option maxRecDepth 100000
set_option maxHeartbeats 4000000
/-! several clauses «except X as n», one name n for all -/
namespace MaX
open PySem PySem.Spec PyProof.Rows L2
abbrev Cl := Value × (Addr → Value → Option Addr → TS)
/-- what the clauses wish of an error of the body -/
def wMA (K : PySem.W.Frag) (i : Nat) (Wo : WX) (D : Ends) : List Cl → WX
  | [] => Wo
  | u :: r => wAs K u.1 i u.2 (wMA K i Wo D r) D
inductive HAs (X : Cx) (n : Str) : List ExceptHandler → List Cl → Prop
  | nil : HAs X n [] []
  | cons {x : Str} {c : Value} {ts : Addr → Value → Option Addr → TS} {b : Stmt} {bs : List Stmt} {np q : Pos} {hds : List ExceptHandler} {l : List Cl} (hc : Names X x c)
      (su : ∀ (a : Addr) (o : Obj) (k : Value) (d : Option Addr) (pn : List (Addr × Obj)), Zc k d o → (∃ vs, o.data = .fields vs) → PSs (X.suite a ((a, o) :: pn)) (b :: bs) (ts a k d)) (r : HAs X n hds l) :
      HAs X n (.ExceptHandler (some (.Name x np)) (some n) (b :: bs) q :: hds) ((c, ts) :: l)
section
variable {X : Cx} {n : Str} {i : Nat} {bd : List Stmt} {h0 : ExceptHandler} {hds : List ExceptHandler} {l : List Cl} {p : Pos} {tb : WX → TS} {Wo : WX}
theorem ps_try_asM (hs : X.stack = X.env :: X.outer) (hf : X.env.frame = some X.env.locals) (hN : X.N.Nodup) (hi : X.N[i]? = some n) (hn : X.env.kindOf n = some .local) (tk : Takes X Wo)
    (hb : ∀ (W : WX) (pn : List (Addr × Obj)) (xe : Value → Shared → Prop), Takes (X.tr pn xe) W → PassesOwn (model X.prog X.w) X.A X.env xe → PSs (X.tr pn xe) bd (tb W)) (hh : HAs X n (h0 :: hds) l) :
    PS X (.Try bd (h0 :: hds) [] [] p) (fun D σ H => tb (wMA X.K i Wo D l) D σ H) := by
  refine ⟨fun pi s σ H D I h => wpAny_Try_except ?_⟩
  have ok := I.ok
  have frm : X.A.frames = some (X.env :: X.outer) := ok.frames.trans (congrArg some hs)
  have lo : Loc X.env.scope n := .inl hn
  refine wpAny_mono ((hb (wMA X.K i Wo D l) (X.pn ++ pi) (fun er s1 => wpAny (model X.prog X.w) X.A (noteFrame er X.env) (fun _ s2 => wpAny (model X.prog X.w) X.A (setFlight er none) (fun _ s3 => wpAny (model X.prog X.w) X.A (handleBy er X.env (h0 :: hds)) (SP X pi D) X.xe s3) X.xe s2) X.xe s1)
    (fun u t xx => ?_) PassesOwn.looking).run [] s σ H D (I.toTry _) h) (fun fl s1 hsp => ?_) (fun _ _ he => he)
  · obtain ⟨a, B, sJ, qs, σ1, H1, k, d, rfl, J0, nb, up, sk, na, os, ag, w⟩ := xx
    have J := J0.ofTry (X := X) ok
    have sk1 : Sky B (X.env :: X.outer) a (Zc k d) X.env.locals t.heap := hs ▸ sk
    show wpAny _ X.A (noteFrame (.ref a) X.env) _ _ _
    refine Sky.land Zc.steady frm hf sk1 fun h3 f3 u3 => ?_
    have J3 : Inv X pi σ1 H1 { t with heap := h3 } := J.landed nb f3.1 (up.trans u3) os ag
    obtain ⟨o3, v3, e3, z3, d3⟩ := f3.there
    have nfr : a ∉ frs (X.env :: X.outer) := fun hm => by
      obtain ⟨_, o', e', g⟩ := f3.2.2.1.mem hm
      cases e3.symm.trans e'
      exact g _ d3
    have nL : a ≠ X.env.locals := fun z => nfr (List.mem_filterMap.mpr ⟨X.env, .head _, hf.trans (congrArg some z.symm)⟩)
    have nF : a ∉ X.fs := fun hm => let ⟨e, he, g⟩ := List.mem_filterMap.mp hm; nfr (List.mem_filterMap.mpr ⟨e, .tail _ he, g⟩)
    have S3 := J3.suite e3 d3 na nL nF
    have go : ∀ {hs' : List ExceptHandler} {l' : List Cl}, HAs X n hs' l' → wMA X.K i Wo D l' k d σ1 H1 → wpAny (model X.prog X.w) X.A (handleBy (.ref a) X.env hs') (SP X pi D) X.xe { t with heap := h3 } := by
      intro hs' l' hk
      induction hk with
      | nil =>
        refine fun w => wpAny_handleBy_nil ?_
        obtain ⟨_, _, _, o, vs, T, _, _, he, _, hd, g1, _⟩ := id f3
        unfold PySem.passOn
        refine wpAny_bind (wpAny_field he hd g1 ?_)
        have nn : ¬ ((Value.ref T == Value.none) = true) := by simp
        rw [if_neg nn]
        have fin : wpAny (model X.prog X.w) X.A (setFlight (.ref a) X.env.frame) (fun _ s4 => wpAny (model X.prog X.w) X.A (throw (.ref a) : Sem Flow) (SP X pi D) X.xe s4) X.xe { t with heap := h3 } := hf ▸ HandSPX.setFlight_upZ f3 fun h4 g4 u4 => wpAny_throw (tk _ _ ⟨a, B, sJ, pi, σ1, H1, k, d, rfl, J, nb, (up.trans u3).trans u4, .inr (.inr (hs ▸ g4)), na, os, ag, w⟩)
        first | exact wpAny_bind fin | exact wpAny_bind (wpAny_pure (wpAny_bind fin))
      | @cons x c ts b bs np q hds2 l2 hc su r ih =>
        rintro ⟨bb, hb1, yes, no⟩
        refine wpAny_handleBy_cons (codeAny_handlers_test ?_) (fun q => nomatch q)
        have LM := PySem.W.exm_one (M := model X.prog X.w) (e := a) J3.kIn (fun A Q E s g q => wpAny_typeOf_ref (g _ _ e3) (z3.1.symm ▸ q)) hb1
        have tst : ∀ {Q : Value → Shared → Prop} {E : Value → Shared → Prop}, Q c { t with heap := h3 } → wpAny (model X.prog X.w) (X.A.mark (some (.ref a))) (eval (.Name x np) X.env) Q E { t with heap := h3 } := fun {Q E} g => by
          rcases hc with ⟨hg, dbg, hm | ⟨hm, hv, nnm⟩⟩
          · exact ld_glob (X := X.suite a ((a, o3) :: (X.pn ++ pi))) S3 hg hm g dbg
          · exact ld_blt (X := X.suite a ((a, o3) :: (X.pn ++ pi))) S3 hg hm hv g nnm dbg
        refine tst (LM.here ?_)
        cases bb with
        | false => exact ih (no rfl)
        | true =>
          refine codeAny_handlers_suite_as (HandSPX.lands_againZ f3 fun h4 f4 u4 => ?_)
          have J4 : Inv X pi σ1 H1 { t with heap := h4 } := J.landed nb f4.1 ((up.trans u3).trans u4) os ag
          obtain ⟨o4, v4, e4, z4, d4⟩ := f4.there
          refine store_ok (X := X.suite a ((a, o4) :: (X.pn ++ pi))) (v := .ref a) (J4.suite e4 d4 na nL nF) hN hi lo rfl (fun s5 S5 => ?_) (.inr hn)
          refine wpAny_mono ((su a o4 k d (X.pn ++ pi) z4 ⟨_, d4⟩).run [] s5 _ H1 _ S5 (yes rfl a na)) (fun f s6 g6 => ?_) (fun _ _ z => z.elim)
          have fin : ∀ {σ6 : L2.St} {H6 : Hp} {Q : Shared → Prop}, Inv (X.suite a ((a, o4) :: (X.pn ++ pi))) [] σ6 H6 s6 → (∀ s7, Inv X pi (σ6.set i none) H6 s7 → Q s7) →
              wpAny (model X.prog X.w) X.A (do bindName X.env n .none; unbindBehindTheSuite X.env n q) (fun _ s7 => Q s7) X.xe s6 := fun {_ _ _} S6 hq => gone_ok (S6.unsuite ok) hN hi hn hq
          cases f with
          | next => exact let ⟨_, _, S6, g⟩ := g6; fin S6 fun s7 J7 => ⟨_, _, J7, g⟩
          | brk => exact let ⟨_, _, S6, g⟩ := g6; fin S6 fun s7 J7 => ⟨_, _, J7, g⟩
          | cont => exact let ⟨_, _, S6, g⟩ := g6; fin S6 fun s7 J7 => ⟨_, _, J7, g⟩
          | ret u => exact let ⟨_, _, _, S6, rv, g⟩ := g6; fin S6 fun s7 J7 => ⟨_, _, _, J7, rv, g⟩
    exact go hh w
  · cases fl with
    | next => exact let ⟨σ', H', J', g⟩ := hsp; wpAny_execs_nil ⟨σ', H', J'.ofTry ok, g⟩
    | brk => exact let ⟨σ', H', J', g⟩ := hsp; ⟨σ', H', J'.ofTry ok, g⟩
    | cont => exact let ⟨σ', H', J', g⟩ := hsp; ⟨σ', H', J'.ofTry ok, g⟩
    | ret u => exact let ⟨v, σ', H', J', rv, g⟩ := hsp; ⟨v, σ', H', J'.ofTry ok, rv, g⟩
end
end MaX

set_option Elab.async false
set_option linter.all false
set_option maxRecDepth 100000
set_option maxHeartbeats 2000000
/-! lambdas of a law, the loop over them -/
namespace Lt
open PySem PySem.Spec PyProof.Rows L2 NdefX LamX LmX MaX
end Lt

set_option Elab.async false
set_option linter.all false
set_option maxRecDepth 100000
set_option maxHeartbeats 2000000
namespace Lt
open PySem PySem.Spec PyProof.Rows L2 NdefX LamX LmX
def clsB : Stmt → List Stmt
  | .ClassDef _ _ _ b _ _ _ _ _ _ _ => b
  | _ => []
def initS (st : Stmt) : Stmt := (clsB st).getD 0 (.Pass ⟨0, 0, 0, 0⟩)
section
variable {P : Program} {w : World} {K : PySem.W.Frag} {mg : Str → Option Value} {base : Heap}
/-- a class's own line: an error is what «except» of its class names -/
theorem exm_own {S : Addr} (h1 : PySem.W.subIn K (.ref S) (.type "BaseException") = some true) (h2 : PySem.W.isClsIn K S = true) (h3 : PySem.W.typeIn K (.ref S) = some (.type "type")) (h4 : PySem.W.subIn K (.ref S) (.ref S) = some true) : PySem.W.exmOne K (.ref S) (.ref S) = some true := by
  have i2 : (PySem.W.clsIn K S).isSome = true := h2
  have a : (if ((PySem.W.clsIn K S).isSome && PySem.W.typeIn K (.ref S) == some (.type "type")) = true then PySem.W.subIn K (.ref S) (.ref S) else none) = some true := by
    rw [if_pos (by rw [i2, h3]; rfl)]
    exact h4
  have b : (PySem.W.subIn K (.ref S) (.type "BaseException") == some true) = true := by
    rw [h1]
    rfl
  exact (if_pos b).trans a
structure ErrFs (K : PySem.W.Frag) (mg : Str → Option Value) (x fld : Str) (C : Addr) (st : Stmt) : Prop where
  g : mg x = some (.ref C)
  cls : ∃ nm q N bs bm sn sub ab col dd k0 k1 k2 k3 k5, K.lookup C = some (excClassObj nm q C N bs bm true sn sub ab col dd k0 k1 k2 k3 k5 "ValueError.__new__") ∧ PySem.HandSPX.refsVE bm = true
  sa : PySem.W.findIn K (.ref C) "__setattr__" = some (some (.builtin "object.__setattr__"))
  ga : PySem.W.findIn K (.ref C) "__getattribute__" = some (some (.builtin "BaseException.__getattribute__"))
  gg : PySem.W.findIn K (.ref C) "__getattr__" = some none
  no : PySem.W.findIn K (.ref C) fld = some none
  kC : PySem.W.keepIn K (.ref C) = true
  eC : PySem.W.subIn K (.ref C) (.type "BaseException") = some true
  tC : PySem.W.typeIn K (.ref C) = some (.type "type")
  hC : PySem.W.hasDictIn K C = true
  iC : PySem.W.isClsIn K C = true
  sC : PySem.W.subIn K (.ref C) (.ref C) = some true
  init : ∃ fI fd, PySem.W.findIn K (.ref C) "__init__" = some (some (.ref fI)) ∧ PySem.W.typeIn K (.ref fI) = some (.type "function") ∧ Binds K fd ["self", fld] [] ∧ Fun K "__init__" (x ++ ".__init__") (initS st) fI fd
theorem ErrFs.errI {x fld : Str} {C : Addr} {st : Stmt} (F : ErrFs K mg x fld C st) (ok : ∀ {fI fd}, Fun K "__init__" (x ++ ".__init__") (initS st) fI fd → FnOk P w K mg base CX0 1 fI fd ["self", fld] (spInit K fld)) : ErrI P w K mg base x fld C := by
  obtain ⟨fI, fd, h1, h2, h3, h4⟩ := F.init
  exact ⟨⟨F.cls, F.sa, F.eC, F.tC, F.kC⟩, F.g, F.no, ⟨fI, fd, h1, h2, h3, ok h4⟩, ⟨F.ga, F.gg, F.eC, F.hC⟩, exm_own F.eC F.iC F.tC F.sC⟩
end
theorem top_mk {K : PySem.W.Frag} {h : Heap} {mg : Str → Option Value} {x : Str} {st : Stmt} {ps : List Str} {f : Addr} {oc kV doc pm cdv ct : Value} {od an : Option Addr} {osl : Array (Option Value)} (X : K.In h) (G : h.Ns mainGlobals mg)
    (a : PySem.W.nsIn K mainGlobals x = some (some (.ref f))) (l : K.lookup f = some ⟨oc, od, .func (PySem.W.fnOf x x (defArgs st) (defBody st) (defScope st) .none kV doc pm an cdv ct), osl⟩) (c : PySem.W.codeIn K cdv x = true) (k : PySem.W.keepIn K (.ref f) = true)
    (hb : ∀ (kV doc pm : Value) (an : Option Addr) (cdv ct : Value) (us : List Value), us.length = ps.length → bindArgs (PySem.W.fnOf x x (defArgs st) (defBody st) (defScope st) .none kV doc pm an cdv ct) ⟨us, []⟩ = pure (ps.zip us)) : Top K mg x st ps :=
  ⟨f, _, PySem.W.mg_of X G a, fun_mk l c k, (fun_mk l c k).binds hb⟩
abbrev TopX {K : PySem.W.Frag} {h : Heap} (_ : K.In h) (mg : Str → Option Value) (x : Str) (st : Stmt) (ps : List Str) : Prop := Top K mg x st ps
theorem cn_mk {K : PySem.W.Frag} {h : Heap} {mg : Str → Option Value} {x : Str} {i : Int} {v : Value} (X : K.In h) (G : h.Ns mainGlobals mg) (a : PySem.W.nsIn K mainGlobals x = some (some v)) (b : ∃ t, v = .int i t) : Cn mg x i := by
  obtain ⟨t, rfl⟩ := b
  exact ⟨t, PySem.W.mg_of X G a⟩
theorem init_mk {K : PySem.W.Frag} {x fld : Str} {C fI : Addr} {st : Stmt} {oc kV doc pm cdv ct : Value} {od an : Option Addr} {osl : Array (Option Value)} (a : PySem.W.findIn K (.ref C) "__init__" = some (some (.ref fI))) (t : PySem.W.typeIn K (.ref fI) = some (.type "function"))
    (l : K.lookup fI = some ⟨oc, od, .func (PySem.W.fnOf "__init__" (x ++ ".__init__") (defArgs (initS st)) (defBody (initS st)) (defScope (initS st)) .none kV doc pm an cdv ct), osl⟩) (c : PySem.W.codeIn K cdv (x ++ ".__init__") = true) (k : PySem.W.keepIn K (.ref fI) = true)
    (hb : ∀ (kV doc pm : Value) (an : Option Addr) (cdv ct : Value) (us : List Value), us.length = (["self", fld] : List Str).length → bindArgs (PySem.W.fnOf "__init__" (x ++ ".__init__") (defArgs (initS st)) (defBody (initS st)) (defScope (initS st)) .none kV doc pm an cdv ct) ⟨us, []⟩ = pure ((["self", fld] : List Str).zip us)) :
    ∃ fI fd, PySem.W.findIn K (.ref C) "__init__" = some (some (.ref fI)) ∧ PySem.W.typeIn K (.ref fI) = some (.type "function") ∧ Binds K fd ["self", fld] [] ∧ Fun K "__init__" (x ++ ".__init__") (initS st) fI fd :=
  ⟨fI, _, a, t, (fun_mk l c k).binds hb, fun_mk l c k⟩
theorem err_mk {K : PySem.W.Frag} {h : Heap} {mg : Str → Option Value} {x fld : Str} {C N : Addr} {st : Stmt} {nm q : Str} {bs bm sub : List Value} {sn : List Str} {ab : Bool} {col : Option Bool} {dd : Option Addr} {k0 k1 k2 k3 k5 : Option Value} (X : K.In h) (G : h.Ns mainGlobals mg)
    (a : PySem.W.nsIn K mainGlobals x = some (some (.ref C))) (xL : K.lookup C = some (excClassObj nm q C N bs bm true sn sub ab col dd k0 k1 k2 k3 k5 "ValueError.__new__")) (rv : PySem.HandSPX.refsVE bm = true)
    (sa : PySem.W.findIn K (.ref C) "__setattr__" = some (some (.builtin "object.__setattr__"))) (ga : PySem.W.findIn K (.ref C) "__getattribute__" = some (some (.builtin "BaseException.__getattribute__"))) (gg : PySem.W.findIn K (.ref C) "__getattr__" = some none) (no : PySem.W.findIn K (.ref C) fld = some none)
    (kC : PySem.W.keepIn K (.ref C) = true) (eC : PySem.W.subIn K (.ref C) (.type "BaseException") = some true) (tC : PySem.W.typeIn K (.ref C) = some (.type "type")) (hC : PySem.W.hasDictIn K C = true) (iC : PySem.W.isClsIn K C = true) (sC : PySem.W.subIn K (.ref C) (.ref C) = some true)
    {fI : Addr} {oc kV doc pm cdv ct : Value} {od an : Option Addr} {osl : Array (Option Value)} (i1 : PySem.W.findIn K (.ref C) "__init__" = some (some (.ref fI))) (i2 : PySem.W.typeIn K (.ref fI) = some (.type "function"))
    (i3 : K.lookup fI = some ⟨oc, od, .func (PySem.W.fnOf "__init__" (x ++ ".__init__") (defArgs (initS st)) (defBody (initS st)) (defScope (initS st)) .none kV doc pm an cdv ct), osl⟩) (i4 : PySem.W.codeIn K cdv (x ++ ".__init__") = true) (i5 : PySem.W.keepIn K (.ref fI) = true)
    (hb : ∀ (kV doc pm : Value) (an : Option Addr) (cdv ct : Value) (us : List Value), us.length = (["self", fld] : List Str).length → bindArgs (PySem.W.fnOf "__init__" (x ++ ".__init__") (defArgs (initS st)) (defBody (initS st)) (defScope (initS st)) .none kV doc pm an cdv ct) ⟨us, []⟩ = pure ((["self", fld] : List Str).zip us)) : ∃ C, ErrFs K mg x fld C st :=
  ⟨C, PySem.W.mg_of X G a, ⟨_, _, _, _, _, _, _, _, _, _, _, _, _, _, _, xL, rv⟩, sa, ga, gg, no, kC, eC, tC, hC, iC, sC, init_mk i1 i2 i3 i4 i5 hb⟩
theorem no_mk {K : PySem.W.Frag} {h : Heap} {mg : Str → Option Value} {x : Str} {C : Addr} (X : K.In h) (G : h.Ns mainGlobals mg) (a : PySem.W.nsIn K mainGlobals x = some (some (.ref C)))
    (qx : PySem.W.excIn K C [.type "ValueError", .type "Exception", .type "BaseException", .type "object"] "ValueError.__new__" = true) (kC : PySem.W.keepIn K (.ref C) = true) (eC : PySem.W.subIn K (.ref C) (.type "BaseException") = some true) (tC : PySem.W.typeIn K (.ref C) = some (.type "type")) (iC : PySem.W.isClsIn K C = true)
    (sC : PySem.W.subIn K (.ref C) (.ref C) = some true) : ∃ C, Err0 K mg x C := ⟨C, qx, PySem.W.mg_of X G a, kC, eC, tC, exm_own eC iC tC sC⟩
abbrev ErrE {K : PySem.W.Frag} {h : Heap} (_ : K.In h) (mg : Str → Option Value) (x fld : Str) (st : Stmt) : Prop := ∃ C, ErrFs K mg x fld C st
abbrev NoE {K : PySem.W.Frag} {h : Heap} (_ : K.In h) (mg : Str → Option Value) (x : Str) : Prop := ∃ C, Err0 K mg x C

/-! ### methods, properties, __init__ -/
/-! ### a law with lambdas -/
end Lt

set_option Elab.async false
set_option linter.all false
set_option maxRecDepth 100000
set_option maxHeartbeats 1000000
namespace Lt
open PySem PySem.Spec PyProof.Rows L2 NdefX LamX LmX
section
variable {P : Program} {w : World} {K : PySem.W.Frag} {mg : Str → Option Value} {base : Heap}
theorem init_BadLock {fI : Addr} {fd : FuncData} (F : Fun K "__init__" "BadLock.__init__" (initS s_BadLock) fI fd) : FnOk P w K mg base CX0 1 fI fd ["self", "place"] (spInit K "place") := by
  refine F.ok (N := ["self", "place"]) ⟨rfl, rfl, rfl, by decide +kernel, rfl, by decide +kernel, by decide +kernel⟩ (fun vs H Q E h => ?_) (fun cdv A outer s H vs Q E hr h => ?_)
  · obtain ⟨a, C, v, rfl, _⟩ := h
    rfl
  · obtain ⟨a, C, v, rfl, ox, no, ha, q⟩ := h
    exact ⟨_, pss_one (ps_ost (pv 0) (pv 1)), _, rfl, _, rfl, a, C, rfl, ox, no, .inl ⟨ha, fun dx h1 h2 => q dx h1 h2⟩⟩
theorem init_TooMany {fI : Addr} {fd : FuncData} (F : Fun K "__init__" "TooMany.__init__" (initS s_TooMany) fI fd) : FnOk P w K mg base CX0 1 fI fd ["self", "most"] (spInit K "most") := by
  refine F.ok (N := ["self", "most"]) ⟨rfl, rfl, rfl, by decide +kernel, rfl, by decide +kernel, by decide +kernel⟩ (fun vs H Q E h => ?_) (fun cdv A outer s H vs Q E hr h => ?_)
  · obtain ⟨a, C, v, rfl, _⟩ := h
    rfl
  · obtain ⟨a, C, v, rfl, ox, no, ha, q⟩ := h
    exact ⟨_, pss_one (ps_ost (pv 0) (pv 1)), _, rfl, _, rfl, a, C, rfl, ox, no, .inl ⟨ha, fun dx h1 h2 => q dx h1 h2⟩⟩
end
/-- what the top leaves, but the law -/
structure TopFs (K : PySem.W.Frag) (mg : Str → Option Value) (C_BadLock : Addr) (C_TooMany : Addr) (C_NotPrime : Addr) : Prop where
  bi : Bi mg
  b_sum : mg "sum" = none
  b_zip : mg "zip" = none
  b_min : mg "min" = none
  b_dict : mg "dict" = none
  c_MOST_TURNS : Cn mg "MOST_TURNS" 240
  c_MOST_GIVEN : Cn mg "MOST_GIVEN" 4
  c_FEWEST_PLACES : Cn mg "FEWEST_PLACES" 2
  c_MOST_PLACES : Cn mg "MOST_PLACES" 9
  e_BadLock : ErrFs K mg "BadLock" "place" C_BadLock s_BadLock
  e_TooMany : ErrFs K mg "TooMany" "most" C_TooMany s_TooMany
  e_NotPrime : Err0 K mg "NotPrime" C_NotPrime
  f_is_number : Top K mg "is_number" s_is_number ["value"]
  f_are_numbers : Top K mg "are_numbers" s_are_numbers ["value"]
  f_is_permutation : Top K mg "is_permutation" s_is_permutation ["value", "size"]
  f_still_of : Top K mg "still_of" s_still_of ["size"]
  f_product_of : Top K mg "product_of" s_product_of ["one", "other"]
  f_back_of : Top K mg "back_of" s_back_of ["turn"]
  f_power_of : Top K mg "power_of" s_power_of ["turn", "many"]
  f_bracket_of : Top K mg "bracket_of" s_bracket_of ["one", "other"]
  f_words_of : Top K mg "words_of" s_words_of ["makers", "size"]
  f_group_of : Top K mg "group_of" s_group_of ["makers", "size"]
  f_all_turns : Top K mg "all_turns" s_all_turns ["lock"]
  f_check_lock : Top K mg "check_lock" s_check_lock ["lock"]
  f_made_words : Top K mg "made_words" s_made_words ["lock"]
  f_lower : Top K mg "lower" s_lower ["lock"]
  f_prime : Top K mg "prime" s_prime ["lock"]
  f_brackets_made : Top K mg "brackets_made" s_brackets_made ["term", "makers"]
  f_weighed : Top K mg "weighed" s_weighed ["lock"]
  f_told_number : Top K mg "told_number" s_told_number ["lock"]
  f_chains : Top K mg "chains" s_chains ["lock"]
  f_own_prime : Top K mg "own_prime" s_own_prime ["lock"]
  f_exponent_of : Top K mg "exponent_of" s_exponent_of ["base", "many"]
  f_weighed_term : Top K mg "weighed_term" s_weighed_term ["base", "terms", "weight"]
  f_weighed_makers : Top K mg "weighed_makers" s_weighed_makers ["base", "terms", "weight"]
  f_powers_in : Top K mg "powers_in" s_powers_in ["terms", "weight", "power"]
  f_made_by : Top K mg "made_by" s_made_by ["makers"]
  f_longest_first : Top K mg "longest_first" s_longest_first ["base", "terms", "level"]
  f_law_taken : Top K mg "_law_taken" s_law_taken ["row", "many"]
  f_law_pick : Top K mg "_law_pick" s_law_pick ["row", "things"]
  f_law_alike : Top K mg "_law_alike" s_law_alike ["found", "due"]
  f_law_permutation : Top K mg "_law_permutation" s_law_permutation ["row", "places"]
  f_law_behind : Top K mg "_law_behind" s_law_behind ["one", "other"]
  f_law_back : Top K mg "_law_back" s_law_back ["turn"]
  f_law_swap : Top K mg "_law_swap" s_law_swap ["one", "other"]
  f_law_span : Top K mg "_law_span" s_law_span ["places", "given"]
  f_law_known : Top K mg "_law_known" s_law_known ["row", "kinds"]
  f_law_lock : Top K mg "_law_lock" s_law_lock ["row", "kinds"]
  f_law_terms : Top K mg "_law_terms" s_law_terms ["lock", "by_all"]
  f_law_reduced : Top K mg "_law_reduced" s_law_reduced ["prime_v", "rows"]
  f_law_dies : Top K mg "_law_dies" s_law_dies ["lock", "whole", "prime_v"]
  f_law_power : Top K mg "_law_power" s_law_power ["turn", "many"]
  f_law_weighed : Top K mg "_law_weighed" s_law_weighed ["lock", "prime_v"]
  f_law_bases : Top K mg "_law_bases" s_law_bases ["told", "prime_v"]
end Lt

set_option Elab.async false
set_option linter.all false
set_option maxRecDepth 100000
set_option maxHeartbeats 1000000
namespace Lt
open PySem PySem.Spec PyProof.Rows L2
section
variable {P : Program} {w : World} {K : PySem.W.Frag} {mg : Str → Option Value} {base : Heap}
/-! ### _law_pick, _law_is -/
def spPick (K : PySem.W.Frag) : Sp := fun vs H Q _ => ∃ (r l sc : Addr) (ns : List Int) (xs : List V), vs = [.ref r, .ref l] ∧ RowAt K H r sc ns ∧ H l = some (.lst xs) ∧ l ≠ r ∧ 1 ≤ xs.length ∧ xs.length ≤ 1000 ∧ ∀ x H', x ∈ xs → StepR r H H' → RowAt K H' r sc ns → Q x H'
theorem sc_law_pick : FnScope ["row", "things"] ["row", "things"] (defScope s_law_pick) := ⟨rfl, rfl, rfl, by decide +kernel, rfl, by decide +kernel, by decide +kernel⟩
theorem has_law_pick (T : Top K mg "_law_pick" s_law_pick ["row", "things"]) (B : Bi mg) (hT : Has P w K mg base CX0 1 "_law_taken" ["row", "many"] (spTaken K)) : Has P w K mg base CX0 2 "_law_pick" ["row", "things"] (spPick K) := by
  refine T.ok sc_law_pick (fun vs H Q E h => ?_) (fun f cdv A outer s H vs Q E hr h => ?_)
  · obtain ⟨r, l, sc, ns, xs, rfl, _⟩ := h
    rfl
  · obtain ⟨r, l, sc, ns, xs, rfl, ra, hl, hne, h1, h2, q⟩ := h
    refine ⟨_, pss_one (ps_ret (pe_ix ix_list (pv 1) (pe_has hT hr (by rfl) (pa_cons (pv 0) (pa_cons (pe_callB call_len_seq (by rfl) B.len PySem.boot_len (pa_cons (pv 1) pa_nil)) pa_nil))) (fun _ _ => rfl))), ?_⟩
    refine ⟨_, rfl, _, rfl, _, rfl, l, xs, rfl, .inl (SqL.of hl), r, sc, ns, xs.length, rfl, ra, h1, h2, fun x H' hx st ra' => ?_⟩
    exact ⟨l, xs, (x : Int), xs[x], rfl, rfl, SqL.of (st l _ hne hl), atI_nat (List.getElem?_eq_getElem hx), q _ H' (List.getElem_mem hx) st ra'⟩
end
end Lt

set_option Elab.async false
set_option linter.all false
set_option maxRecDepth 100000
set_option maxHeartbeats 4000000
namespace Lt
open PySem PySem.Spec PyProof.Rows L2
/-! ### ascending -/
def iN (t : List Nat) : List Int := t.map Int.ofNat
def cd (t : List Nat) : Int := TS.code 9 (iN t)
def Asc (ts : List (List Nat)) : Prop := ts.Pairwise fun x y => cd x ≤ cd y
theorem iN_len (t : List Nat) : (iN t).length = t.length := List.length_map ..
theorem iN_inj {s t : List Nat} (h : iN s = iN t) : s = t := (List.map_inj_right ofNat_inj).mp h
theorem bd_iN {n : Nat} {t : List Nat} (h : IsP n t) (hn : n ≤ 9) : TS.Bd 9 (iN t) := fun m hm => by
  obtain ⟨i, hi, rfl⟩ := List.mem_map.mp hm
  have := h.lt i hi
  exact ⟨Int.natCast_nonneg i, by show (i : Int) < 9; omega⟩
theorem code_inj : ∀ {x y : List Int}, x.length = y.length → TS.Bd 9 x → TS.Bd 9 y → TS.code 9 x = TS.code 9 y → x = y
  | [], [], _, _, _, _ => rfl
  | [], _ :: _, h, _, _, _ => by cases h
  | _ :: _, [], h, _, _, _ => by cases h
  | a :: x, b :: y, h, hx, hy, e => by
    have hl : x.length = y.length := Nat.succ.inj h
    rcases Int.lt_trichotomy a b with z | z | z
    · have := TS.code_lt hl hx.tail hy.tail z
      omega
    · subst z
      have e2 : TS.code 9 x = TS.code 9 y := by
        have e' : a * 9 ^ x.length + TS.code 9 x = a * 9 ^ y.length + TS.code 9 y := e
        rw [hl] at e'
        omega
      rw [code_inj hl hx.tail hy.tail e2]
    · have := TS.code_lt hl.symm hy.tail hx.tail z
      omega
theorem cd_inj {n : Nat} {s t : List Nat} (hs : IsP n s) (ht : IsP n t) (hn : n ≤ 9) (e : cd s = cd t) : s = t :=
  iN_inj (code_inj (by rw [iN_len, iN_len, hs.len, ht.len]) (bd_iN hs hn) (bd_iN ht hn) e)
/-- an ascending list is told by its members -/
theorem asc_one {n : Nat} {a b : List (List Nat)} (hn : n ≤ 9) (ha : ∀ t ∈ a, IsP n t) (p : a.Perm b) (h1 : Asc a) (h2 : Asc b) : a = b :=
  List.Perm.eq_of_pairwise (fun x y hx hy e1 e2 => cd_inj (ha x hx) (ha y (p.mem_iff.mpr hy)) hn (Int.le_antisymm e1 e2)) h1 h2 p
/-- a lock that is asked of -/
structure Good (H : Hp) (v : V) (ls : List (List Nat)) (n : Nat) : Prop where
  tt : TT H v ls
  gl : GL ls n
  few : Few ls n 63
theorem Good.tm {H H' : Hp} {v : V} {ls : List (List Nat)} {n : Nat} (h : Good H v ls n) (e : Tm H H') : Good H' v ls n := ⟨h.tt.tm e, h.gl, h.few⟩
theorem Good.same {H H' : Hp} {v : V} {ls : List (List Nat)} {n : Nat} (h : Good H v ls n) (e : Same H H') : Good H' v ls n := h.tm (.of e)
theorem Good.isP {H : Hp} {v : V} {ls : List (List Nat)} {n : Nat} (h : Good H v ls n) {t : List Nat} (m : Mk ls n t) : IsP n t := m.isP h.gl.2.2.2.2
theorem Good.mem {H : Hp} {v : V} {ls : List (List Nat)} {n : Nat} (h : Good H v ls n) (t : List Nat) : t ∈ (LL ls n).map (·.1) ↔ Mk ls n t := LL_mem h.few (by omega) t
section
variable {P : Program} {w : World} {K : PySem.W.Frag} {mg : Str → Option Value} {base : Heap} {CL CM CT : Addr}
theorem Good.wd {H : Hp} {v : V} {ls : List (List Nat)} {n : Nat} (g : Good H v ls n) {L : List (List Nat × List Nat)} (hL : Wd ls n L) : L = LL ls n := by
  obtain ⟨a, e1, e2, _⟩ := g.few.wd (by omega) hL
  rw [e1] at e2 ⊢
  exact LL_of g.few (by omega) e2
/-! ### all_turns -/
def spAll (CL CM : Addr) : Sp := fun vs H Q E => ∃ v, vs = [v] ∧ LockIn CL CM v H E (fun ls n => ∀ L, Wd ls n L → L.length ≤ 240 → L.length < 64 ∧ ∀ r H' ts, Same H H' → TT H' r ts → ts.Perm (L.map (·.1)) → Asc ts → Q r H')
/-- a tuple of turns that may be keys -/
def TTK (H : Hp) (v : V) (ts : List (List Nat)) : Prop := ∃ a xs, v = .ref a ∧ H a = some (.tup xs) ∧ Paired (TK H) xs ts
theorem TTK.tt {H : Hp} {v : V} {ts : List (List Nat)} (h : TTK H v ts) : TT H v ts := let ⟨a, xs, e, ha, p⟩ := h; ⟨a, xs, e, ha, paired_mono (fun _ _ r => r.tn) p⟩
def spAllK (CL CM : Addr) : Sp := fun vs H Q E => ∃ v, vs = [v] ∧ LockIn CL CM v H E (fun ls n => ∀ L, Wd ls n L → L.length ≤ 240 → L.length < 64 ∧ ∀ r H' ts, Same H H' → TTK H' r ts → ts.Perm (L.map (·.1)) → Asc ts → Q r H')
theorem sc_all_turns : FnScope ["lock"] ["lock"] (defScope s_all_turns) := ⟨rfl, rfl, rfl, by decide +kernel, rfl, by decide +kernel, by decide +kernel⟩
theorem keysI {H : Hp} {kvs : List (List Key × V)} {L : List (List Nat × List Nat)} (p : Paired (DE H) kvs L) : kvs.map (·.1) = (numL L).map fun k => k.map Sum.inl := by
  induction p with
  | nil => rfl
  | cons r _ ih =>
    rw [List.map_cons, ih, r.1, keyN_I]
    rfl
theorem wd_isP {ls : List (List Nat)} {n : Nat} (hg : ∀ g ∈ ls, IsP n g) {L : List (List Nat × List Nat)} (h : Wd ls n L) : ∀ x ∈ L, IsP n x.1 := fun x hx => by
  obtain ⟨a, rfl, _⟩ := h
  exact (qq_mk ls n a x.1 (List.mem_map.mpr ⟨x, hx, rfl⟩)).isP hg
/-- the bases of sorted ints are turns -/
theorem turns_back {L : List (List Nat × List Nat)} : ∀ {ks : List (List Int)}, (∀ k ∈ ks, k ∈ numL L) → ∃ ts : List (List Nat), ks = ts.map iN
  | [], _ => ⟨[], rfl⟩
  | k :: ks, h => by
    obtain ⟨x, _, e⟩ := List.mem_map.mp (h k List.mem_cons_self)
    obtain ⟨ts, e2⟩ := turns_back fun y hy => h y (List.mem_cons_of_mem _ hy)
    exact ⟨x.1 :: ts, by rw [e2, List.map_cons, ← e]; rfl⟩
theorem perm_iN {a b : List (List Nat)} (h : (a.map iN).Perm (b.map iN)) : a.Perm b := by
  have z := h.map fun k : List Int => k.map Int.toNat
  rw [List.map_map, List.map_map] at z
  have e : ∀ l : List (List Nat), l.map ((fun k : List Int => k.map Int.toNat) ∘ iN) = l := fun l => (List.map_congr_left (g := id) fun t _ => by
    show (t.map Int.ofNat).map Int.toNat = t
    rw [List.map_map]
    exact (List.map_congr_left (g := id) fun _ _ => rfl).trans (List.map_id t)).trans (List.map_id l)
  rw [e, e] at z
  exact z
theorem tns_of {H : Hp} : ∀ {bs : List Addr} {ts : List (List Nat)}, Paired (fun (b : Addr) k => H b = some (.tup (k.map V.int))) bs (ts.map iN) → Paired (TK H) (bs.map V.ref) ts
  | [], [], .nil => .nil
  | b :: bs, t :: ts, .cons r s => .cons ⟨b, rfl, by rw [r, nIs_int]; rfl⟩ (tns_of s)
theorem has_all_turnsK (T : Top K mg "all_turns" s_all_turns ["lock"]) (B : Bi mg) (hM : Has P w K mg base (L2.CX P w) 5 "made_words" ["lock"] (spMade CL CM)) : Has P w K mg base (L2.CX P w) 6 "all_turns" ["lock"] (spAllK CL CM) := by
  refine T.okX sc_all_turns (fun vs H Q E h => ?_) (fun f cdv A outer s H vs Q E hr h => ?_)
  · obtain ⟨v, rfl, _⟩ := h
    rfl
  · obtain ⟨v, rfl, hl⟩ := h
    obtain ⟨n, hn1, hl⟩ : ∃ n, 1 ≤ n ∧ LockIn CL CM v H E (fun ls m => m = n ∧ ∀ L, Wd ls m L → L.length ≤ 240 → L.length < 64 ∧ ∀ r H' ts, Same H H' → TTK H' r ts → ts.Perm (L.map (·.1)) → Asc ts → Q r H') := by
      obtain ⟨d, h1, h2, h3, h4⟩ := hl
      cases hb : lockBad d with
      | some pl => exact ⟨1, Nat.le_refl 1, d, h1, h2, h3, fun e => by rw [hb] at e; cases e⟩
      | none =>
        obtain ⟨ls, n, a, b, c, q⟩ := h4 hb
        exact ⟨n, by have := b.2.2.1; omega, d, h1, h2, h3, fun _ => ⟨ls, n, a, b, c, rfl, q⟩⟩
    refine ⟨_, pss_one (ps_ret (pe_tupleOf (by rfl) B.tuple (pe_callB (cr_sortDT (d := n) (B := 9) rfl hn1) (by rfl) B.sorted PyProof.Rows.boot_sorted (pa_cons (pe_hasX (E := E) hM hr (by rfl) (passes_call (takes_of rfl rfl rfl rfl) (fun _ _ _ _ h => h)) (pa_cons (pv 0) pa_nil)) pa_nil)))), ?_⟩
    refine ⟨_, rfl, v, rfl, hl.imp fun ls m ht hg ⟨em, q⟩ d H1 L s1 hd hw hL h240 => ?_⟩
    subst em
    obtain ⟨kvs, hk, pk⟩ := hw
    obtain ⟨h64, q⟩ := q L hL h240
    have hP := wd_isP hg.2.2.2.2 hL
    refine ⟨d, kvs, numL L, rfl, .inl hk, keysI pk, by rw [List.length_map]; exact h64, fun k hk => ?_, fun bs ks' p pm so pr hp => ?_⟩
    · obtain ⟨x, hx, rfl⟩ := List.mem_map.mp hk
      exact ⟨by rw [List.length_map, (hP x hx).len], bd_iN (hP x hx) hg.2.2.2.1⟩
    · obtain ⟨ts, rfl⟩ := turns_back (L := L) fun k hk => pm.mem_iff.mp hk
      have pm2 : ts.Perm (L.map (·.1)) := perm_iN (by
        rw [List.map_map]
        exact pm)
      refine .inl ⟨p, _, rfl, SqL.of upd_same, fun r hr => ?_⟩
      have s2 := (same_new (o := .lst (bs.map V.ref)) hp).trans (same_new (o := .tup (bs.map V.ref)) hr)
      refine q _ _ ts (s1.trans s2) ⟨r, _, rfl, upd_same, paired_mono (fun _ _ r => TK.tm (.of s2) r) (tns_of pr)⟩ pm2 (show ts.Pairwise fun x y => cd x ≤ cd y from (List.pairwise_map (f := iN) (R := fun x y => TS.code 9 x ≤ TS.code 9 y)).mp so)
theorem has_all_turns (T : Top K mg "all_turns" s_all_turns ["lock"]) (B : Bi mg) (hM : Has P w K mg base (L2.CX P w) 5 "made_words" ["lock"] (spMade CL CM)) : Has P w K mg base (L2.CX P w) 6 "all_turns" ["lock"] (spAll CL CM) :=
  (has_all_turnsK T B hM).imp fun vs H Q E h => by
    obtain ⟨v, e, hl⟩ := h
    exact ⟨v, e, hl.imp fun ls n _ _ q L hL h240 => ⟨(q L hL h240).1, fun r H' ts s k => (q L hL h240).2 r H' ts s k.tt⟩⟩
end
end Lt

set_option Elab.async false
set_option linter.all false
set_option maxRecDepth 100000
set_option maxHeartbeats 1000000
/-! tuples whose object is known: they bear no dict, so their methods are found -/
namespace L2
open PySem PySem.Spec PyProof.Rows
section
variable {X : Cx} {a : Expr} {ta : TE} {te : St → Hp → (Int → Int → Hp → Prop) → Prop} {e : Expr}
def kTupF (K : PySem.W.Frag) (x : V) (H : Hp) (Q : VK) : Prop := ∃ p xs, x = .ref p ∧ SqL K H p xs ∧ ∀ q o, o.dict = none → H q = none → Q (.ref q) (upd H q (.frz o (.tup xs)))
theorem pe_tupleOfF {p pos : Pos} (hg : Gl X "tuple") (hm : X.mg "tuple" = none) (ha : PE X a ta) (na : starEach [a] X.env = (false, eval a X.env) :: starEach [] X.env := by rfl) :
    PE X (.Call (.Name "tuple" p) [a] [] pos) (tThen ta (kTupF X.K)) := by
  refine ⟨fun pins s σ H Q I h => ?_⟩
  refine Call_ (ld_blt I hg hm boot_tuple (PyProof.Rows.callWith_type1 (one_arg ha I h (fun v s2 x H2 I2 r q => ?_) na) na))
  obtain ⟨l, xs, rfl, hs, q⟩ := q
  obtain rfl : v = .ref l := r
  obtain ⟨its, rv, pl, hz⟩ := I2.list hs
  refine call_tuple_list pl.isList (fun h' hk => ?_) (by rw [List.size_toArray, ← rv.length]; exact hz)
  have I3 : Inv X pins σ H2 { s2 with heap := h' } := I2.kept (t' := s2.toks) hk
  have hget : (h'.push { cls := .type "tuple", data := .seq its.toArray }).get? h'.objs.size = some { cls := .type "tuple", data := .seq its.toArray } := Heap.get?_push_size _ rfl
  have I4 := I3.laid (a := h'.objs.size) (o := .frz { cls := .type "tuple", data := .seq its.toArray } (.tup xs)) (h' := h'.push { cls := .type "tuple", data := .seq its.toArray }) (t' := s2.toks) (fun b o e => Heap.get?_push_of_some _ e) (Nat.le_refl _) ⟨hget, hz, its, rv, _, hget, rfl, _, rfl⟩
  exact ⟨.ref h'.objs.size, _, I4, rfl, q _ _ rfl (I3.hok.fresh (Nat.le_refl _))⟩
def tTupRgF (te : St → Hp → (Int → Int → Hp → Prop) → Prop) : TE := fun σ H Q => te σ H fun a b H1 => RgOk a b ∧ ∀ q o, o.dict = none → H1 q = none → Q (.ref q) (upd H1 q (.frz o (.tup (rgV a b))))
theorem pe_tupRgF {p pos : Pos} (hc : X.calm = true) (hg : Gl X "tuple") (hm : X.mg "tuple" = none) (he : PRg X e te) (na : starEach [e] X.env = (false, eval e X.env) :: starEach [] X.env := by rfl) : PE X (.Call (.Name "tuple" p) [e] [] pos) (tTupRgF te) := by
  refine ⟨fun pins s σ H Q I h => ?_⟩
  refine Call_ (ld_blt I hg hm boot_tuple (PyProof.Rows.callWith_type1 (args_cons (thn (he pins s σ H _ I h) fun x s1 ⟨r, a, b, t, u, v, H1, ex, hr, I1, ok, q⟩ => args_nil ?_) na) na))
  subst ex
  obtain ⟨b1, b2, b3, b4, b5⟩ := ok
  refine call_tuple_range (n := (b - a).toNat) (I1.ok.hd hc) hr (small_one b1 b2 b3 b4) (rangeSize_nat a b) b5 fun h' tk acc hk hi => ?_
  have I2 : Inv X pins σ H1 { s1 with heap := h', toks := tk } := I1.kept hk
  have hget : (h'.push { cls := .type "tuple", data := .seq acc }).get? h'.objs.size = some { cls := .type "tuple", data := .seq acc } := Heap.get?_push_size _ rfl
  have hz : (rgV a b).length ≤ sizeLine := by rw [rgV_length, sizeLine_eq]; omega
  have hi2 : IsTup (h'.push { cls := .type "tuple", data := .seq acc }) h'.objs.size acc.toList.toArray := by rw [Array.toArray_toList]; exact IsTup.new _ _
  have I3 := I2.laid (a := h'.objs.size) (o := .frz { cls := .type "tuple", data := .seq acc } (.tup (rgV a b))) (h' := h'.push { cls := .type "tuple", data := .seq acc }) (t' := tk) (fun c o e => Heap.get?_push_of_some _ e) (Nat.le_refl _) ⟨hget, hz, acc.toList, vals_rg hi, hi2⟩
  exact ⟨.ref h'.objs.size, _, I3, rfl, q _ _ rfl (I2.hok.fresh (Nat.le_refl _))⟩
/-- a method of a tuple whose object is known -/
def tBMF (r : V → List V → Hp → VK → Prop) (to : TE) (t : TA) : TE := fun σ H Q => to σ H fun x H1 => (∃ a o xs, x = .ref a ∧ H1 a = some (.frz o (.tup xs)) ∧ o.dict = none) ∧ t σ H1 fun ys H2 => r x ys H2 Q
theorem pe_bmF {o e : Expr} {es : List Expr} {to : TE} {t : TA} {name : Str} {apos cpos : Pos} {id : String} {r : V → List V → Hp → VK → Prop} (slot : Slot "tuple" name id) (hty : typeOf (.builtin id) = pure (.type "method_descriptor")) (hm : MtR X id r) (ho : PE X o to) (ha : PA X (e :: es) t)
    (hbase : attributeBase o name X.env (eval o X.env) = eval o X.env := by rfl)
    (hfew : ((backTo cpos (starEach (e :: es) X.env)).all (fun x => !x.1) && (backToKw cpos (keywordEach [] X.env)).all (fun x => x.1.isSome)
      && decide ((e :: es).length + ([] : List Keyword).length + (if ([] : List Keyword).isEmpty then 0 else 1) < 30)) = true := by rfl)
    (hline : (apos.endLine == cpos.line) = true := by rfl) (hs : starEach (e :: es) X.env = (false, eval e X.env) :: starEach es X.env := by rfl) (hplain : (backTo cpos (starEach es X.env)).any (·.1) = false := by rfl) :
    PE X (.Call (.Attribute o name apos) (e :: es) [] cpos) (tBMF r to t) := by
  refine ⟨fun pins s σ H Q I h => ?_⟩
  refine wpAny_Call_method_late hbase hfew hline rfl (thn (ho.run pins s σ H _ I h) fun v s1 ⟨x, H1, I1, r1, ty, q1⟩ => ?_)
  obtain ⟨a, ob, xs, rfl, hH, hdn⟩ := ty
  obtain rfl : v = Value.ref a := r1
  obtain ⟨hget, hz, its, rv, ob', hget', hcls, hdat⟩ := (show ObjOk X.prog X.w H1 s1.heap a (.frz ob (.tup xs)) from I1.hok a _ hH)
  refine ⟨"tuple", id, PySem.F.plainAttrs_tuple, slot, hty, ⟨ob', hget', hcls⟩, fun b eb => ?_, ?_⟩
  · cases eb
    exact ⟨ob, hget, hdn⟩
  have hA := ha.run cpos pins s1 σ H1 _ I1 q1
  rw [hs] at hA ⊢
  refine Calls.callWith_builtin (by show (false || (backTo cpos (starEach es X.env)).any (·.1)) = false; rw [hplain] <;> rfl) (Calls.evalArgs_plain ?_)
  exact thn hA fun us s2 ⟨vs, H2, I2, r2, q2⟩ => hm pins s2 σ H2 (.ref a) vs (.ref a) us Q I2 rfl r2 q2
end
end L2

set_option Elab.async false
set_option linter.all false
set_option maxRecDepth 100000
set_option maxHeartbeats 1000000
namespace Lt
open PySem PySem.Spec PyProof.Rows L2
/-- a turn whose object is known -/
def TF (H : Hp) (v : V) (t : List Nat) : Prop := ∃ a o, v = .ref a ∧ H a = some (.frz o (.tup (nIs t))) ∧ o.dict = none
theorem TF.tn {H : Hp} {v : V} {t : List Nat} (h : TF H v t) : TN H v t := let ⟨a, o, e, h, _⟩ := h; ⟨a, e, .inr ⟨o, h⟩⟩
theorem TF.tm {H H' : Hp} {v : V} {t : List Nat} (e : Tm H H') (h : TF H v t) : TF H' v t := let ⟨a, o, ev, h, d⟩ := h; ⟨a, o, ev, e.2 _ _ _ h, d⟩
section
variable {P : Program} {w : World} {K : PySem.W.Frag} {mg : Str → Option Value} {base : Heap}
/-! ### _law_is -/
/-! ### _law_behind, _law_back, _law_swap -/
theorem sc_law_behind : FnScope ["one", "other", "place"] ["one", "other"] (defScope s_law_behind) := ⟨rfl, rfl, rfl, by decide +kernel, rfl, by decide +kernel, by decide +kernel⟩
theorem has_law_behind (T : Top K mg "_law_behind" s_law_behind ["one", "other"]) (B : Bi mg) : Has P w K mg base CX0 1 "_law_behind" ["one", "other"] spProd := by
  refine T.ok sc_law_behind (fun vs H Q E h => ?_) (fun f cdv A outer s H vs Q E hr h => ?_)
  · obtain ⟨a, b, x, y, rfl, _⟩ := h
    rfl
  · obtain ⟨a, b, x, y, rfl, ha, hb, hxy, hx, q⟩ := h
    refine ⟨_, pss_one (ps_ret (pe_tupleOf (by rfl) B.tuple (pe_lc (own := [("place", 2)]) (g := gName 2) (te := tOp (rIxT K) (tVar 1) (tVar 2)) (by rfl) sc_law_behind.nd (pi_tup (pv 0)) (blkOk_by (own := [("place", 2)]) (N := ["one", "other", "place"]) (sc := defScope s_law_behind) (by decide +kernel))
      (fun _ _ _ _ _ => pg_name (i := 2) sc_law_behind.nd rfl (Or.inl rfl)) (fun _ _ _ _ _ => pts_nil) (fun _ _ _ _ _ => pe_ix ix_tup (pv 1) (pv 2) (fun _ _ => rfl))))), ?_⟩
    obtain ⟨pa, rfl, ea⟩ := ha
    obtain ⟨pb, rfl, eb⟩ := hb
    refine ⟨_, rfl, pa, rfl, ⟨_, ea.sq⟩, fun D hD => lc_tupM RN (prod x y) (fun _ _ _ _ _ r => r) ea.sq (fun H' sm => (ea.sm sm).sq) (by rw [nIs_len]; omega) (by rw [prod_len, nIs_len]) hD (fun x => rfl) (fun i v n hi hn H' sm Q' q' => ?_) (fun H' zs sm hz pr => ?_)⟩
    · rw [nIs_get] at hi
      obtain ⟨m, hm, rfl⟩ := Option.map_eq_some_iff.mp hi
      have hlt := hxy m (List.mem_of_getElem? hm)
      have e : n = y.getD m 0 := by
        have z : (prod x y)[i]? = some (y.getD m 0) := by
          unfold prod
          rw [List.getElem?_map, hm]
          rfl
        exact Option.some.inj (hn.symm.trans z)
      refine ⟨_, rfl, _, rfl, pb, _, _, nI n, rfl, rfl, (eb.sm sm).sq, atI_nat ?_, q' _ _ (Same.refl _) rfl⟩
      rw [nIs_get, e, List.getD_eq_getElem?_getD, List.getElem?_eq_getElem hlt]
      rfl
    · refine .inl ⟨D, zs, rfl, SqL.of hz, fun p hp => q _ _ (sm.trans (same_new hp)) (tn_of upd_same (RN.all pr))⟩
/-- the same, the new turn's object told -/
def spProdF : Sp := fun vs H Q _ => ∃ (a b : V) (x y : List Nat), vs = [a, b] ∧ TN H a x ∧ TN H b y ∧ (∀ i ∈ x, i < y.length) ∧ x.length ≤ 1000 ∧ ∀ v H', Same H H' → TF H' v (prod x y) → Q v H'
theorem has_law_behindF (T : Top K mg "_law_behind" s_law_behind ["one", "other"]) (B : Bi mg) : Has P w K mg base CX0 1 "_law_behind" ["one", "other"] spProdF := by
  refine T.ok sc_law_behind (fun vs H Q E h => ?_) (fun f cdv A outer s H vs Q E hr h => ?_)
  · obtain ⟨a, b, x, y, rfl, _⟩ := h
    rfl
  · obtain ⟨a, b, x, y, rfl, ha, hb, hxy, hx, q⟩ := h
    refine ⟨_, pss_one (ps_ret (pe_tupleOfF (by rfl) B.tuple (pe_lc (own := [("place", 2)]) (g := gName 2) (te := tOp (rIxT K) (tVar 1) (tVar 2)) (by rfl) sc_law_behind.nd (pi_tup (pv 0)) (blkOk_by (own := [("place", 2)]) (N := ["one", "other", "place"]) (sc := defScope s_law_behind) (by decide +kernel))
      (fun _ _ _ _ _ => pg_name (i := 2) sc_law_behind.nd rfl (Or.inl rfl)) (fun _ _ _ _ _ => pts_nil) (fun _ _ _ _ _ => pe_ix ix_tup (pv 1) (pv 2) (fun _ _ => rfl))))), ?_⟩
    obtain ⟨pa, rfl, ea⟩ := ha
    obtain ⟨pb, rfl, eb⟩ := hb
    refine ⟨_, rfl, pa, rfl, ⟨_, ea.sq⟩, fun D hD => lc_tupM RN (prod x y) (fun _ _ _ _ _ r => r) ea.sq (fun H' sm => (ea.sm sm).sq) (by rw [nIs_len]; omega) (by rw [prod_len, nIs_len]) hD (fun x => rfl) (fun i v n hi hn H' sm Q' q' => ?_) (fun H' zs sm hz pr => ?_)⟩
    · rw [nIs_get] at hi
      obtain ⟨m, hm, rfl⟩ := Option.map_eq_some_iff.mp hi
      have hlt := hxy m (List.mem_of_getElem? hm)
      have e : n = y.getD m 0 := by
        have z : (prod x y)[i]? = some (y.getD m 0) := by
          unfold prod
          rw [List.getElem?_map, hm]
          rfl
        exact Option.some.inj (hn.symm.trans z)
      refine ⟨_, rfl, _, rfl, pb, _, _, nI n, rfl, rfl, (eb.sm sm).sq, atI_nat ?_, q' _ _ (Same.refl _) rfl⟩
      rw [nIs_get, e, List.getD_eq_getElem?_getD, List.getElem?_eq_getElem hlt]
      rfl
    · refine ⟨D, zs, rfl, SqL.of hz, fun p o ho hp => q _ _ (sm.trans (same_new hp)) ⟨p, o, rfl, by rw [upd_same, RN.all pr], ho⟩⟩
def rTupIx (K : PySem.W.Frag) : V → List V → Hp → VK → Prop := fun x xs H Q => ∃ p, ∃ ys : List Int, ∃ z j, x = .ref p ∧ xs = [.int z] ∧ SqT K H p (ys.map V.int) ∧ ys[j]? = some z ∧ (∀ m, m < j → ys[m]? ≠ some z) ∧ Q (.int (j : Nat)) H
def spLawBack : Sp := fun vs H Q _ => ∃ (a : V) (t : List Nat) (n : Nat), vs = [a] ∧ TF H a t ∧ IsP n t ∧ n ≤ 1000 ∧ ∀ v H', Same H H' → TK H' v (inv t) → Q v H'
theorem sc_law_back : FnScope ["turn", "place"] ["turn"] (defScope s_law_back) := ⟨rfl, rfl, rfl, by decide +kernel, rfl, by decide +kernel, by decide +kernel⟩
theorem has_law_back (T : Top K mg "_law_back" s_law_back ["turn"]) (B : Bi mg) : Has P w K mg base CX0 1 "_law_back" ["turn"] spLawBack := by
  refine T.ok sc_law_back (fun vs H Q E h => ?_) (fun f cdv A outer s H vs Q E hr h => ?_)
  · obtain ⟨a, t, n, rfl, _⟩ := h
    rfl
  · obtain ⟨a, t, n, rfl, ⟨pa, o, rfl, ea, ho⟩, ht, hn, q⟩ := h
    refine ⟨_, pss_one (ps_ret (pe_tupleOf (by rfl) B.tuple (pe_lc (own := [("place", 1)]) (g := gName 1) (te := tBMF (rTupIx K) (tVar 0) (tCons (tVar 1) tNil)) (by rfl) sc_law_back.nd (pi_range1 (by rfl) B.range (pa_cons (pe_callB call_len_seq (by rfl) B.len PySem.boot_len (pa_cons (pv 0) pa_nil)) pa_nil)) (blkOk_by (own := [("place", 1)]) (N := ["turn", "place"]) (sc := defScope s_law_back) (by decide +kernel))
      (fun _ _ _ _ _ => pg_name (i := 1) sc_law_back.nd rfl (Or.inl rfl)) (fun _ _ _ _ _ => pts_nil) (fun _ _ _ _ _ => pe_bmF PySem.F.slot_tuple_index PySem.F.type_tuple_index mt_tup_indexI (pv 0) (pa_cons (pv 1) pa_nil))))), ?_⟩
    have hlen := ht.len
    refine ⟨_, rfl, pa, nIs t, rfl, .inr (RT.sq (.inr ⟨o, ea⟩)), ((nIs t).length : Int), rfl, by omega, by rw [nIs_len, hlen]; omega, fun D hD => lc_rangeM (n := ((nIs t).length : Int).toNat) RN (inv t) (fun _ _ _ _ _ r => r) (by rw [nIs_len]; omega) (by rw [inv_len, nIs_len]; omega) hD (fun x => rfl) (fun i m hi hm H' sm Q' q' => ?_) (fun H' zs sm hz pr => ?_)⟩
    · have hit : i < t.length := by rw [nIs_len] at hi; omega
      have hmem : i ∈ t := ht.mem.mpr (by omega)
      have em : m = t.idxOf i := by
        unfold inv at hm
        rw [List.getElem?_map, List.getElem?_range hit] at hm
        exact (Option.some.inj hm).symm
      have hil := List.idxOf_lt_length_of_mem hmem
      refine ⟨_, rfl, ⟨pa, o, _, rfl, sm _ _ ea, ho⟩, _, rfl, pa, iN t, (0 : Int) + (i : Int), m, rfl, rfl, by rw [show (iN t).map V.int = nIs t from (nIs_int t).symm]; exact RT.sq (.inr ⟨o, sm _ _ ea⟩), ?_, fun j hj e => ?_, q' _ _ (Same.refl _) rfl⟩
      · unfold iN
        rw [em, List.getElem?_map, List.getElem?_eq_getElem hil, List.getElem_idxOf, Int.zero_add]
        rfl
      · unfold iN at e
        rw [List.getElem?_map] at e
        obtain ⟨y, hy, ey⟩ := Option.map_eq_some_iff.mp e
        have ey : (y : Int) = 0 + (i : Int) := ey
        have eyi : y = i := by omega
        subst eyi
        have : j = t.idxOf y := nd_ix ht.nd hy (by rw [List.getElem?_eq_getElem hil, List.getElem_idxOf])
        omega
    · refine .inl ⟨D, zs, rfl, SqL.of hz, fun p hp => q _ _ (sm.trans (same_new hp)) (tn_of upd_same (RN.all pr))⟩
def spLawSwap : Sp := fun vs H Q _ => ∃ (a b : V) (x y : List Nat) (n : Nat), vs = [a, b] ∧ TF H a x ∧ TF H b y ∧ IsP n x ∧ IsP n y ∧ n ≤ 1000 ∧ ∀ v H', Same H H' → TK H' v (prod (prod x y) (prod (inv x) (inv y))) → Q v H'
theorem sc_law_swap : FnScope ["one", "other"] ["one", "other"] (defScope s_law_swap) := ⟨rfl, rfl, rfl, by decide +kernel, rfl, by decide +kernel, by decide +kernel⟩
theorem has_law_swap (T : Top K mg "_law_swap" s_law_swap ["one", "other"]) (hP : Has P w K mg base CX0 1 "_law_behind" ["one", "other"] spProd) (hB : Has P w K mg base CX0 1 "_law_back" ["turn"] spLawBack) : Has P w K mg base CX0 2 "_law_swap" ["one", "other"] spLawSwap := by
  refine T.ok sc_law_swap (fun vs H Q E h => ?_) (fun f cdv A outer s H vs Q E hr h => ?_)
  · obtain ⟨a, b, x, y, n, rfl, _⟩ := h
    rfl
  · obtain ⟨a, b, x, y, n, rfl, ha, hb, hx, hy, hn, q⟩ := h
    refine ⟨_, pss_one (ps_ret (pe_has hP hr (by rfl) (pa_cons (pe_has hP hr (by rfl) (pa_cons (pv 0) (pa_cons (pv 1) pa_nil))) (pa_cons (pe_has hP hr (by rfl) (pa_cons (pe_has hB hr (by rfl) (pa_cons (pv 0) pa_nil)) (pa_cons (pe_has hB hr (by rfl) (pa_cons (pv 1) pa_nil)) pa_nil))) pa_nil)))), ?_⟩
    refine ⟨_, rfl, _, rfl, pr_call ha.tn hb.tn hx hy hn fun u1 H1 s1 h1 => ?_⟩
    refine ⟨_, rfl, a, x, n, rfl, ha.tm (.of s1), hx, hn, fun u2 H2 s2 h2 => ?_⟩
    refine ⟨_, rfl, b, y, n, rfl, hb.tm (.of (s1.trans s2)), hy, hn, fun u3 H3 s3 h3 => ?_⟩
    refine pr_call (h2.tm (.of s3)).tn h3.tn hx.inv hy.inv hn fun u4 H4 s4 h4 => ?_
    exact pr_call (h1.tm (.of ((s2.trans s3).trans s4))).tn h4.tn (hx.prod hy) (hx.inv.prod hy.inv) hn fun u5 H5 s5 h5 => q u5 H5 ((((s1.trans s2).trans s3).trans s4).trans s5) h5
/-! ### _law_permutation -/
def spLawPerm (K : PySem.W.Frag) : Sp := fun vs H Q _ => ∃ (r sc : Addr) (ns : List Int) (n : Nat), vs = [.ref r, nI n] ∧ RowAt K H r sc ns ∧ n ≤ 1000 ∧ ∀ v H' t, IsP n t → StepR r H H' → RowAt K H' r sc ns → TK H' v t → Q v H'
theorem sc_law_permutation : FnScope ["row", "places", "left", "found", "turn"] ["row", "places"] (defScope s_law_permutation) := ⟨rfl, rfl, rfl, by decide +kernel, rfl, by decide +kernel, by decide +kernel⟩
theorem nIs_erase : ∀ (t : List Nat) (i : Nat), (nIs t).eraseIdx i = nIs (t.eraseIdx i)
  | [], _ => rfl
  | _ :: _, 0 => rfl
  | a :: t, i + 1 => by
    show nI a :: (nIs t).eraseIdx i = nI a :: nIs (t.eraseIdx i)
    rw [nIs_erase t i]
theorem erase_perm : ∀ (l : List Nat) (x : Nat) (h : x < l.length), (l[x] :: l.eraseIdx x).Perm l
  | [], x, h => absurd h (Nat.not_lt_zero x)
  | a :: l, 0, _ => List.Perm.refl _
  | a :: l, x + 1, h => (List.Perm.swap a (l[x]'(Nat.lt_of_succ_lt_succ h)) (l.eraseIdx x)).trans ((erase_perm l x (Nat.lt_of_succ_lt_succ h)).cons a)
theorem has_law_permutation (T : Top K mg "_law_permutation" s_law_permutation ["row", "places"]) (B : Bi mg) (hT : Has P w K mg base CX0 1 "_law_taken" ["row", "many"] (spTaken K)) : Has P w K mg base CX0 2 "_law_permutation" ["row", "places"] (spLawPerm K) := by
  refine T.ok sc_law_permutation (fun vs H Q E h => ?_) (fun f cdv A outer s H vs Q E hr h => ?_)
  · obtain ⟨r, sc, ns, n, rfl, _⟩ := h
    rfl
  · obtain ⟨r, sc, ns, n, rfl, ra, hn, q⟩ := h
    refine ⟨_, pss_cons (ps_par (i := 2) (j := 3) (by rfl) sc_law_permutation.nd rfl rfl (by decide) rfl rfl (pa_cons (pe_listRg (by rfl) (by rfl) B.list (prg_1 (by rfl) B.range (pv 1))) (pa_cons (pe_lst pa_nil) pa_nil)) (by rfl))
      (pss_cons (ps_for PassesOwn.never rfl (pi_range1 (by rfl) B.range (pa_cons (pv 1) pa_nil)) (pg_name (i := 4) sc_law_permutation.nd rfl (Or.inl rfl))
        (pss_one (ps_expr (pe_bm PySem.F.plainAttrs_list PySem.F.slot_list_append PySem.F.type_list_append mt_append (pv 3) (pa_cons
          (pe_bm PySem.F.plainAttrs_list PySem.F.slot_list_pop PySem.F.type_list_pop mt_popAt (pv 2) (pa_cons (pe_has hT hr (by rfl) (pa_cons (pv 0) (pa_cons (pe_callB call_len_seq (by rfl) B.len PySem.boot_len (pa_cons (pv 2) pa_nil)) pa_nil))) pa_nil)) pa_nil)))))
      (pss_one (ps_ret (pe_tupleOf (by rfl) B.tuple (pv 3))))), ?_⟩
    refine ⟨_, rfl, n, rfl, .of_le (by omega) (by omega) (by omega) (by omega), fun lf hlf => ?_⟩
    have s1 := same_new (o := .lst (rgV 0 n)) hlf
    refine ⟨Nat.zero_le _, fun fd hfd => ⟨_, _, rfl, ?_⟩⟩
    have s2 := s1.trans (same_new (o := .lst []) hfd)
    have hfd0 : H fd = none := s1.free hfd
    have hlfd : lf ≠ fd := fun z => by rw [← z, upd_same] at hfd; cases hfd
    refine ⟨_, rfl, (n : Int), rfl, by omega, by omega, for_range (lo := 0) (n := (n : Int).toNat) (fun i σ H' => ∃ (l f : List Nat) (y : Option V), σ = [some (.ref r), some (nI n), some (.ref lf), some (.ref fd), y] ∧ StepR r H H' ∧ RowAt K H' r sc ns ∧ H' lf = some (.lst (nIs l)) ∧ H' fd = some (.lst (nIs f)) ∧ (f ++ l).Perm (List.range n) ∧ f.length = i)
      ⟨List.range n, [], none, rfl, .of s2, ra.step s2, by rw [upd_ne hlfd, upd_same, rgV_nat], by rw [upd_same]; rfl, List.Perm.refl _, rfl⟩ ?_ ?_⟩
    · rintro i σ H' hi ⟨l, f, y, rfl, st, ra', hl, hf, pm, hfl⟩
      have hlen := pm.length_eq
      rw [List.length_append, List.length_range] at hlen
      have hl1 : 1 ≤ l.length := by omega
      refine ⟨_, rfl, .inl ⟨rfl, _, SqL.of hf⟩, _, rfl, .inl ⟨rfl, _, SqL.of hl⟩, _, rfl, _, rfl, lf, nIs l, rfl, .inl (SqL.of hl), r, sc, ns, l.length, by rw [nIs_len]; rfl, ra', hl1, by omega, fun x H2 hx st2 ra2 => ?_⟩
      have hlr : lf ≠ r := (ra.ne hlf).symm
      have hfr : fd ≠ r := (ra.ne hfd0).symm
      have hl2 := st2 _ _ hlr hl
      have hf2 := st2 _ _ hfr hf
      refine ⟨lf, nIs l, (x : Int), x, nI l[x], rfl, rfl, hl2, by omega, by omega, (ixN_seq (Evl.ixN_nat (by rw [nIs_len]; exact hx))).1, by rw [nIs_get, List.getElem?_eq_getElem hx]; rfl, ?_⟩
      have hf3 : (upd H2 lf (.lst ((nIs l).eraseIdx x))) fd = some (.lst (nIs f)) := by rw [upd_ne hlfd.symm]; exact hf2
      refine ⟨fd, nIs f, nI l[x], rfl, rfl, hf3, by rw [nIs_len, sizeLine_eq]; omega, ?_⟩
      refine ⟨l.eraseIdx x, f ++ [l[x]], _, rfl, ((st.trans st2).mut hlf).mut hfd0, RowAt.mut ra hfd0 (RowAt.mut ra hlf ra2), ?_, ?_, ?_, by rw [List.length_append, hfl]; rfl⟩
      · rw [upd_ne hlfd, upd_same, nIs_erase]
      · rw [upd_same]
        unfold nIs
        rw [List.map_append]
        rfl
      · rw [List.append_assoc]
        refine List.Perm.trans (List.Perm.append_left f ?_) pm
        exact erase_perm l x hx
    · rintro σ H' ⟨l, f, y, rfl, st, ra', hl, hf, pm, hfl⟩
      have hlen := pm.length_eq
      rw [List.length_append, List.length_range] at hlen
      have hl0 : l = [] := by
        cases l with
        | nil => rfl
        | cons a l => rw [List.length_cons] at hlen; omega
      subst hl0
      rw [List.append_nil] at pm
      refine ⟨_, rfl, .inl ⟨fd, nIs f, rfl, SqL.of hf, fun p hp => ?_⟩⟩
      have sp := same_new (o := .tup (nIs f)) hp
      exact q _ _ f pm (st.trans (.of sp)) (ra'.step sp) ⟨p, rfl, upd_same⟩
end
end Lt

set_option Elab.async false
set_option linter.all false
set_option maxRecDepth 100000
set_option maxHeartbeats 1000000
namespace Lt
open PySem PySem.Spec PyProof.Rows L2
theorem Paired.perm {α β : Type} {R : α → β → Prop} {ys xs : List α} (p : ys.Perm xs) : ∀ {ts : List β}, Paired R xs ts → ∃ us, Paired R ys us ∧ us.Perm ts := by
  induction p with
  | nil => intro ts h; cases h; exact ⟨[], .nil, List.Perm.refl _⟩
  | cons x _ ih =>
    intro ts h
    cases h with
    | cons r t =>
      obtain ⟨us, h1, h2⟩ := ih t
      exact ⟨_ :: us, .cons r h1, h2.cons _⟩
  | swap x y l =>
    intro ts h
    cases h with
    | cons r t =>
      cases t with
      | cons r2 t => exact ⟨_, .cons r2 (.cons r t), List.Perm.swap _ _ _⟩
  | trans _ _ ih1 ih2 =>
    intro ts h
    obtain ⟨us, h1, h2⟩ := ih2 h
    obtain ⟨ws, h3, h4⟩ := ih1 h1
    exact ⟨ws, h3, h4.trans h2⟩
theorem Paired.pairwise {α β : Type} {R : α → β → Prop} {S : α → α → Prop} {S' : β → β → Prop} (h : ∀ x y s t, R x s → R y t → S x y → S' s t) : ∀ {xs : List α} {ts : List β}, Paired R xs ts → xs.Pairwise S → ts.Pairwise S'
  | _, _, .nil, _ => .nil
  | _, _, .cons r t, .cons a b => .cons (fun s hs => by
      obtain ⟨i, hi, e⟩ := List.getElem_of_mem hs
      obtain ⟨x, hx, rx⟩ := Paired.getR t (show _[i]? = some s by rw [List.getElem?_eq_getElem hi, e])
      exact h _ _ _ _ r rx (a x (List.mem_of_getElem? hx))) (Paired.pairwise h t b)
theorem Paired.memL {α β : Type} {R : α → β → Prop} {xs : List α} {ts : List β} (p : Paired R xs ts) {x : α} (h : x ∈ xs) : ∃ t ∈ ts, R x t := by
  obtain ⟨i, hi, e⟩ := List.getElem_of_mem h
  obtain ⟨t, ht, r⟩ := Paired.getL p (show xs[i]? = some x by rw [List.getElem?_eq_getElem hi, e])
  exact ⟨t, List.mem_of_getElem? ht, r⟩
/-- a list of turns whose objects are known -/
def LF (H : Hp) (a : Addr) (ts : List (List Nat)) : Prop := ∃ xs, H a = some (.lst xs) ∧ Paired (TF H) xs ts
theorem TFs.tm {H H' : Hp} (e : Tm H H') {xs : List V} {ts : List (List Nat)} (p : Paired (TF H) xs ts) : Paired (TF H') xs ts := paired_mono (fun _ _ r => TF.tm e r) p
theorem LF.same {H H' : Hp} {a : Addr} {ts : List (List Nat)} (h : LF H a ts) (e : Same H H') : LF H' a ts := let ⟨xs, h1, h2⟩ := h; ⟨xs, e _ _ h1, TFs.tm (.of e) h2⟩
theorem LF.step {K : PySem.W.Frag} {r sc : Addr} {ns : List Int} {H H' : Hp} {a : Addr} {ts : List (List Nat)} (h : LF H a ts) (ra : RowAt K H r sc ns) (hr : a ≠ r) (e : StepR r H H') : LF H' a ts := let ⟨xs, h1, h2⟩ := h; ⟨xs, e _ _ hr h1, TFs.tm (e.tm ra) h2⟩
theorem LF.lt {H : Hp} {a : Addr} {ts : List (List Nat)} (h : LF H a ts) : LT H a ts := let ⟨xs, h1, h2⟩ := h; ⟨xs, h1, paired_mono (fun _ _ r => TF.tn r) h2⟩
/-- the addresses and numbers -/
theorem ks_of {H : Hp} : ∀ {xs : List V} {ts : List (List Nat)}, Paired (TF H) xs ts → ∃ ks : List (Addr × List Int), xs = ks.map (fun p => V.ref p.1) ∧ ks.map (·.2) = ts.map iN ∧ ∀ p ∈ ks, ∃ t ∈ ts, p.2 = iN t ∧ TF H (.ref p.1) t
  | _, _, .nil => ⟨[], rfl, rfl, fun p h => by cases h⟩
  | _, _, .cons (a := x) (b := t) r s => by
    obtain ⟨ks, h1, h2, h3⟩ := ks_of s
    obtain ⟨a, o, e, ho, hd⟩ := id r
    refine ⟨(a, iN t) :: ks, by rw [e, h1]; rfl, by rw [List.map_cons, h2]; rfl, fun p hp => ?_⟩
    rcases List.mem_cons.mp hp with z | hp
    · rw [z]
      exact ⟨t, List.mem_cons_self, rfl, a, o, rfl, ho, hd⟩
    · obtain ⟨t', ht, z⟩ := h3 p hp
      exact ⟨t', List.mem_cons_of_mem _ ht, z⟩
theorem cut_one (xs : List V) (j : Nat) : cutV xs (some (j : Int)) (some ((j : Int) + 1)) = (xs.drop j).take 1 := by
  unfold cutV
  have e : ((j : Int) + 1) = ((j + 1 : Nat) : Int) := by omega
  rw [e, HT.sIx_nat, HT.sIx_nat]
  by_cases h : j < xs.length
  · rw [Nat.min_eq_left (Nat.le_of_lt h), Nat.min_eq_left h]
    congr 1
    omega
  · rw [Nat.min_eq_right (by omega), Nat.min_eq_right (by omega), List.drop_of_length_le (Nat.le_refl _), List.drop_of_length_le (by omega), List.take_nil, List.take_nil]
/-! ### the mirror -/
structure SpI (gs : List (List Nat)) (n j : Nat) (F : List (List Nat)) : Prop where
  nd : F.Nodup
  made : ∀ t ∈ F, Mk gs n t
  st : List.range n ∈ F
  cl : ∀ (i : Nat) (t : List Nat), i < j → F[i]? = some t → ∀ g ∈ gs, prod t g ∈ F
theorem SpI.skip {gs : List (List Nat)} {n j : Nat} {F : List (List Nat)} (h : SpI gs n j F) (hj : F.length ≤ j) : SpI gs n (j + 1) F :=
  ⟨h.nd, h.made, h.st, fun i t hi e => by
    have := (List.getElem?_eq_some_iff.mp e).1
    exact h.cl i t (by omega) e⟩
theorem SpI.next {gs : List (List Nat)} {n j : Nat} {F M : List (List Nat)} {one : List Nat} (h : SpI gs n j F) (h1 : F[j]? = some one) (hM : M.Nodup) (hM1 : ∀ t ∈ M, ∃ g ∈ gs, t = prod one g) (hM2 : ∀ g ∈ gs, prod one g ∈ M) :
    SpI gs n (j + 1) (F ++ M.filter fun t => decide (t ∉ F)) := by
  have hjl := (List.getElem?_eq_some_iff.mp h1).1
  have hone := h.made one (List.mem_of_getElem? h1)
  refine ⟨List.nodup_append.mpr ⟨h.nd, hM.filter _, fun a ha b hb e => ?_⟩, fun t ht => ?_, List.mem_append.mpr (.inl h.st), fun i t hi e g hg => ?_⟩
  · subst e
    have := (List.mem_filter.mp hb).2
    exact (of_decide_eq_true this) ha
  · rcases List.mem_append.mp ht with z | z
    · exact h.made t z
    · obtain ⟨g, hg, e⟩ := hM1 t (List.mem_filter.mp z).1
      rw [e]
      exact .step hone hg
  · rw [List.getElem?_append_left (by omega)] at e
    by_cases hij : i < j
    · exact List.mem_append.mpr (.inl (h.cl i t hij e g hg))
    · have : i = j := by omega
      subst this
      rw [h1] at e
      have e := Option.some.inj e
      subst e
      by_cases hin : prod one g ∈ F
      · exact List.mem_append.mpr (.inl hin)
      · exact List.mem_append.mpr (.inr (List.mem_filter.mpr ⟨hM2 g hg, decide_eq_true hin⟩))
theorem SpI.all {gs : List (List Nat)} {n j : Nat} {F : List (List Nat)} (h : SpI gs n j F) (hj : F.length ≤ j) : ∀ t, t ∈ F ↔ Mk gs n t := fun t => by
  refine ⟨h.made t, fun m => ?_⟩
  induction m with
  | still => exact h.st
  | @step t g _ hg ih =>
    obtain ⟨i, hi, e⟩ := List.getElem_of_mem ih
    exact h.cl i t (by omega) (by rw [List.getElem?_eq_getElem hi, e]) g hg
/-! ### a tuple or a list of turns -/
def GS (H : Hp) (v : V) (ts : List (List Nat)) : Prop := TT H v ts ∨ ∃ a, v = .ref a ∧ LT H a ts
theorem GS.same {H H' : Hp} {v : V} {ts : List (List Nat)} (h : GS H v ts) (e : Same H H') : GS H' v ts := by
  rcases h with h | ⟨a, rfl, h⟩
  · exact .inl (h.tm (.of e))
  · exact .inr ⟨a, rfl, h.same e⟩
def iSq (K : PySem.W.Frag) (i : Nat) : TI := fun σ H R => iTup K (tVar i) σ H R ∨ iList K (tVar i) σ H R
theorem pi_sq {X : Cx} {tg : Expr} {l : Expr} {i : Nat} (h : PE X l (tVar i)) : PI X tg l (iSq X.K i) :=
  ⟨fun pins s σ H R I q => q.elim ((pi_tup h).run pins s σ H R I) ((pi_list h).run pins s σ H R I)⟩
theorem sq_lc {K : PySem.W.Frag} {te : TE} {vs : List Nat} {σ : L2.St} {H1 : Hp} {β : Type} {i j : Nat} {gv : V} {gs : List (List Nat)} {Q : VK} (R : Hp → V → β → Prop) (ys : List β) (mono : ∀ H H' v b, Tm H H' → R H v b → R H' v b) (hgs : GS H1 gv gs) (hσ : σ[i]? = some (some gv)) (hz : gs.length ≤ 100000) (hy : ys.length = gs.length)
    (hw : ∀ x, wipe ((wipe σ vs).set j (some x)) vs = wipe σ vs)
    (he : ∀ (k : Nat) (x : V) (b : β) (g : List Nat), gs[k]? = some g → ys[k]? = some b → TN H1 x g → ∀ H, Same H1 H → ∀ Q : VK, (∀ v H', Same H H' → R H' v b → Q v H') → te ((wipe σ vs).set j (some x)) H Q)
    (hd : ∀ D H zs, H1 D = none → Same H1 H → H D = some (.lst zs) → Paired (R H) zs ys → Q (.ref D) H) : tLc (iSq K i) (gName j) tYes te vs σ H1 Q := by
  rcases hgs with ⟨a, xs, rfl, ha, p⟩ | ⟨a, rfl, xs, ha, p⟩
  · refine .inl ⟨_, hσ, a, rfl, ⟨_, SqT.of ha⟩, fun D hD => lc_tupM R ys mono (SqT.of ha) (fun H s => SqT.of (s _ _ ha)) (by rw [Paired.length p]; exact hz) (by rw [Paired.length p]; exact hy) hD hw (fun k x b hx hb => ?_) (fun H zs => hd D H zs hD)⟩
    obtain ⟨g, hg, r⟩ := Paired.getL p hx
    exact he k x b g hg hb r
  · refine .inr ⟨_, hσ, a, rfl, ⟨_, SqL.of ha⟩, fun D hD => lc_listM R ys mono (fun H s => SqL.of (s _ _ ha)) (by rw [Paired.length p]; exact hz) (by rw [Paired.length p]; exact hy) hD hw (fun k x b hx hb => ?_) (fun H zs => hd D H zs hD)⟩
    obtain ⟨g, hg, r⟩ := Paired.getL p hx
    exact he k x b g hg hb r
section
variable {P : Program} {w : World} {K : PySem.W.Frag} {mg : Str → Option Value} {base : Heap}
def spSpan : Sp := fun vs H Q _ => ∃ (gv : V) (gs : List (List Nat)) (n : Nat), vs = [nI n, gv] ∧ GS H gv gs ∧ (∀ g ∈ gs, IsP n g) ∧ 1 ≤ n ∧ n ≤ 9 ∧ gs.length ≤ 60 ∧ Few gs n 63 ∧
  ∀ p H' ts, Same H H' → H p = none → LF H' p ts → ts.Nodup → (∀ t, t ∈ ts ↔ Mk gs n t) → Asc ts → Q (.ref p) H'
theorem sc_law_span : FnScope ["places", "given", "found", "turn", "one", "later", "other"] ["places", "given"] (defScope s_law_span) := ⟨rfl, rfl, rfl, by decide +kernel, rfl, by decide +kernel, by decide +kernel⟩
theorem has_law_span (T : Top K mg "_law_span" s_law_span ["places", "given"]) (B : Bi mg) (hP : Has P w K mg base CX0 1 "_law_behind" ["one", "other"] spProdF) : Has P w K mg base CX0 2 "_law_span" ["places", "given"] spSpan := by
  refine T.ok sc_law_span (fun vs H Q E h => ?_) (fun f cdv A outer s H vs Q E hr h => ?_)
  · obtain ⟨gv, gs, n, rfl, _⟩ := h
    rfl
  · obtain ⟨gv, gs, n, rfl, hgv, hg, hn1, hn9, hgl, hf, q⟩ := h
    have hu64 := hr.units
    have hu65 : A.units + 3 + 65 < cLine := by have := hr.un; show A.units + 3 + 65 < cLine; have e : (A.deeper (envOfC "_law_span" (defScope s_law_span) s.heap.objs.size f cdv)).units = A.units + 3 := rfl; omega
    refine ⟨_, pss_cons (ps_set (i := 2) sc_law_span.nd rfl (Or.inr rfl) (pe_lst (pa_cons (pe_tupRgF (by rfl) (by rfl) B.tuple (prg_1 (by rfl) B.range (pv 0))) pa_nil)))
      (pss_cons (ps_for PassesOwn.never rfl (pi_range1 (by rfl) B.range (pa_cons pe_int pa_nil)) (pg_name (i := 3) sc_law_span.nd rfl (Or.inl rfl))
        (pss_one (ps_for PassesOwn.never rfl (pi_list (pe_slice sl_list (pv 2) (po_some (pv 3)) (po_some (pe_op op_add (pv 3) pe_int)))) (pg_name (i := 4) sc_law_span.nd rfl (Or.inr rfl))
          (pss_cons (ps_setLc (i := 5) (own := [("other", 6)]) (g := gName 6) (te := tCall spProdF [] E0 (tCons (tVar 4) (tCons (tVar 6) tNil))) (by rfl) sc_law_span.nd rfl rfl (sw_true rfl rfl rfl (by decide +kernel)) (pi_sq (pv 1)) (blkOk_by (own := [("other", 6)]) (N := ["places", "given", "found", "turn", "one", "later", "other"]) (sc := defScope s_law_span) (by decide +kernel))
            (fun _ _ _ _ _ => pg_name (i := 6) sc_law_span.nd rfl (Or.inl rfl)) (fun _ _ _ _ _ => pts_nil) (fun _ _ _ _ _ => pe_has hP hr (by rfl) (pa_cons (pv 4) (pa_cons (pv 6) pa_nil))))
          (pss_one (ps_set (i := 2) sc_law_span.nd rfl (Or.inr rfl) (pe_op op_cat (pv 2) (pe_lc (own := [("other", 6)]) (g := gName 6) (tt := tTest (tOp (rNotInD K) (tVar 6) (tVar 2))) (te := tVar 6) (by rfl) sc_law_span.nd
            (pi_list (pe_callB (cr_sortedT (by rfl)) (by rfl) B.sorted PyProof.Rows.boot_sorted (pa_cons (pe_callTy (cr_setOfT (by rfl) hu64) (by rfl) B.set PyProof.Rows.boot_set (pa_cons (pv 5) pa_nil)) pa_nil)))
            (blkOk_by (own := [("other", 6)]) (N := ["places", "given", "found", "turn", "one", "later", "other"]) (sc := defScope s_law_span) (by decide +kernel))
            (fun _ _ _ _ _ => pg_name (i := 6) sc_law_span.nd rfl (Or.inl rfl)) (fun _ _ _ _ _ => pts_one (pt_cmpR (op_notInD hu65) (pv 6) (pv 2) (by rfl))) (fun _ _ _ _ _ => pv 6)))))))))
      (pss_one (ps_ret (pe_callB (cr_sortT (d := n) (B := 9) hn1) (by rfl) B.sorted PyProof.Rows.boot_sorted (pa_cons (pv 2) pa_nil))))), ?_⟩
    refine ⟨_, rfl, n, rfl, .of_le (by omega) (by omega) (by omega) (by omega), fun q0 o ho hq0 => ⟨by show 1 ≤ sizeLine; decide, fun fl hfl => ?_⟩⟩
    have s1 := same_new (o := .frz o (.tup (rgV 0 n))) hq0
    have s2 := s1.trans (same_new (o := .lst [.ref q0]) hfl)
    have hq0l : q0 ≠ fl := fun z => by rw [← z, upd_same] at hfl; cases hfl
    refine ⟨300, rfl, by decide, by decide, for_range (lo := 0) (n := 300) (fun j σ H' => ∃ fl F x3 x4 x5 x6, σ = [some (nI n), some gv, some (.ref fl), x3, x4, x5, x6] ∧ Same H H' ∧ LF H' fl F ∧ SpI gs n j F)
      ⟨fl, [List.range n], none, none, none, none, rfl, s2, ⟨[.ref q0], upd_same, .cons ⟨q0, o, rfl, by rw [upd_ne hq0l, upd_same, rgV_nat], ho⟩ .nil⟩, ⟨List.pairwise_singleton _ _, fun t ht => by rw [List.mem_singleton.mp ht]; exact .still, List.mem_singleton.mpr rfl, fun i t hi => absurd hi (Nat.not_lt_zero i)⟩⟩ ?_ ?_⟩
    · rintro j σ H' hj ⟨fl, F, x3, x4, x5, x6, rfl, sm, ⟨xs, hxs, hp⟩, sp⟩
      simp only [Int.zero_add]
      have hFl : F.length ≤ 63 := hf.le sp.nd sp.made
      have hxl : xs.length = F.length := Paired.length hp
      refine ⟨_, rfl, _, rfl, (j : Int), rfl, _, rfl, (j : Int), 1, rfl, rfl, (j : Int) + 1, rfl, fl, xs, rfl, SqL.of hxs, fun sl hsl => ?_⟩
      have ssl := same_new (o := .lst (cutV xs (some (j : Int)) (some ((j : Int) + 1)))) hsl
      refine ⟨sl, rfl, ⟨_, SqL.of upd_same⟩, for_list (K := K) (a := sl) (xs := cutV xs (some (j : Int)) (some ((j : Int) + 1)))
        (fun i σ H2 => ∃ fl' F' x4 x5 x6, σ = [some (nI n), some gv, some (.ref fl'), some (nI j), x4, x5, x6] ∧ Same H' H2 ∧ LF H2 fl' F' ∧ (i = 0 → F' = F) ∧ (1 ≤ i → SpI gs n (j + 1) F') ∧ H2 sl = some (.lst (cutV xs (some (j : Int)) (some ((j : Int) + 1)))))
        ⟨fl, F, x4, x5, x6, rfl, ssl, LF.same ⟨xs, hxs, hp⟩ ssl, fun _ => rfl, fun h => absurd h (by omega), upd_same⟩ (fun i σ H2 _ ⟨_, _, _, _, _, _, _, _, _, _, h⟩ => SqL.of h) ?_ ?_⟩
      · rintro i x σ H2 hi ⟨fl', F', x4, x5, x6, rfl, sm1, ⟨xs2, hxs2, hp2⟩, h0, _, hsl2⟩
        have sm2 := sm.trans sm1
        rw [cut_one] at hi
        have hi0 : i = 0 := by
          have := (List.getElem?_eq_some_iff.mp hi).1
          rw [List.length_take] at this
          omega
        subst hi0
        have eF := h0 rfl
        subst eF
        rw [List.getElem?_take_of_lt (by omega), List.getElem?_drop, Nat.add_zero] at hi
        obtain ⟨one, hone, htf0⟩ := Paired.getL hp hi
        have hi := hone
        have htf : TF H2 x one := htf0.tm (.of sm1)
        have honeP := (sp.made one (List.mem_of_getElem? hone)).isP hg
        -- later
        dsimp only [gName, tSeq, tAsg, List.set]
        refine sq_lc TF (gs.map (prod one)) (fun _ _ _ _ e r => TF.tm e r) (hgv.same sm2) (by rfl) (by omega) (by rw [List.length_map]) (by intro _; rfl) (fun k y b g hgk hb hyg H3 s3 Q' q' => ?_) (fun D H3 zs hD s3 hz pz => ?_)
        · rw [List.getElem?_map, hgk] at hb
          have hb := Option.some.inj hb
          subst hb
          have hgP := hg g (List.mem_of_getElem? hgk)
          exact ⟨_, rfl, _, rfl, x, y, one, g, rfl, htf.tn.tm (.of s3), hyg.tm (.of s3), fun i hi => by rw [hgP.len]; exact honeP.lt i hi, by rw [honeP.len]; omega, q'⟩
        · -- found = found + [..]
          obtain ⟨ks, ek1, ek2, ek3⟩ := ks_of pz
          have hksl : ks.length < 64 := by
            have e := congrArg List.length ek2
            rw [List.length_map, List.length_map, List.length_map] at e
            omega
          have hks : ∀ p ∈ ks, SqT K H3 p.1 (p.2.map V.int) := fun p hp => by
            obtain ⟨t, _, e, a, o, ea, hao, _⟩ := ek3 p hp
            cases ea
            rw [e, show (iN t).map V.int = nIs t from (nIs_int t).symm]
            exact RT.sq (.inr ⟨o, hao⟩)
          have hz' : H3 D = some (.lst (ks.map fun p => V.ref p.1)) := by rw [hz, ek1]
          refine ⟨_, rfl, _, rfl, D, ks, rfl, SqL.of hz', hks, hksl, fun aS L haS hL1 hL2 => ?_⟩
          have s4 := same_new (o := SetTO P w aS L) haS
          have hLP : ∀ p ∈ L, ∃ t ∈ gs.map (prod one), p.2 = iN t ∧ TF H3 (.ref p.1) t := fun p hp => ek3 p (hL1 p hp)
          have hmulP : ∀ t ∈ gs.map (prod one), IsP n t := fun t ht => by
            obtain ⟨g, hgm, e⟩ := List.mem_map.mp ht
            rw [← e]
            exact honeP.prod (hg g hgm)
          refine ⟨aS, L, n, 9, rfl, upd_same, fun p hp => ?_, hn1, fun p hp => ?_, fun L' sp' pm nd h64 pw hsp' => ?_⟩
          · rcases hks p (hL1 p hp) with (z | ⟨o, z⟩) | z
            · exact .inl (.inl (s4 _ _ z))
            · exact .inl (.inr ⟨o, s4 _ _ z⟩)
            · exact .inr z
          · obtain ⟨t, ht, e, _⟩ := hLP p hp
            rw [e]
            exact ⟨by rw [iN_len, (hmulP t ht).len], bd_iN (hmulP t ht) hn9⟩
          have s5 := same_new (o := .lst (L'.map fun q : Addr × List Int => V.ref q.1)) hsp'
          have s45 := s4.trans s5
          refine ⟨sp', rfl, ⟨_, SqL.of upd_same⟩, fun D2 hD2 => ?_⟩
          have hL' : ∀ q ∈ L', q.2 = iN (q.2.map Int.toNat) ∧ q.2.map Int.toNat ∈ gs.map (prod one) ∧ TF H3 (.ref q.1) (q.2.map Int.toNat) := fun q hq => by
            obtain ⟨t, ht, e, tf⟩ := hLP q (pm.mem_iff.mp hq)
            have et : q.2.map Int.toNat = t := by
              rw [e]
              show (t.map Int.ofNat).map Int.toNat = t
              rw [List.map_map]
              exact (List.map_congr_left (g := id) fun _ _ => rfl).trans (List.map_id t)
            rw [et]
            exact ⟨e, ht, tf⟩
          have hM : (L'.map fun q : Addr × List Int => q.2.map Int.toNat).Nodup := by
            have e : (L'.map fun q : Addr × List Int => q.2.map Int.toNat).map iN = L'.map (·.2) := by
              rw [List.map_map]
              exact List.map_congr_left fun q hq => (hL' q hq).1.symm
            rw [← e] at nd
            exact nodup_of_map nd
          have hM1 : ∀ t ∈ (L'.map fun q : Addr × List Int => q.2.map Int.toNat), ∃ g ∈ gs, t = prod one g := fun t ht => by
            obtain ⟨q, hq, e⟩ := List.mem_map.mp ht
            obtain ⟨g, hgm, e2⟩ := List.mem_map.mp (hL' q hq).2.1
            exact ⟨g, hgm, by rw [← e, ← e2]⟩
          have hM2 : ∀ g ∈ gs, prod one g ∈ (L'.map fun q : Addr × List Int => q.2.map Int.toNat) := fun g hgm => by
            have h1 : iN (prod one g) ∈ ks.map (·.2) := by
              rw [ek2]
              exact List.mem_map.mpr ⟨_, List.mem_map.mpr ⟨g, hgm, rfl⟩, rfl⟩
            obtain ⟨p, hp, e⟩ := List.mem_map.mp h1
            obtain ⟨q, hq, e2⟩ := List.mem_map.mp (hL2 p hp)
            have hq' := pm.mem_iff.mpr hq
            refine List.mem_map.mpr ⟨q, hq', iN_inj ?_⟩
            rw [← (hL' q hq').1]
            exact e2.trans e
          have hlfl : L'.length ≤ 64 := Nat.le_of_lt h64
          have sB := s3.trans s45
          have hp2B := TFs.tm (.of sB) hp2
          have hxs2B := sB _ _ hxs2
          refine lc_list (xs := L'.map fun q : Addr × List Int => V.ref q.1) (fun i H4 => Same (upd (upd H3 aS (SetTO P w aS L)) sp' (.lst (L'.map fun q : Addr × List Int => V.ref q.1))) H4 ∧ ∃ zs, H4 D2 = some (.lst zs) ∧ Paired (TF H4) zs (((L'.map fun q : Addr × List Int => q.2.map Int.toNat).take i).filter fun t => decide (t ∉ F')) ∧ zs.length ≤ i)
            ⟨same_new hD2, [], upd_same, .nil, Nat.le_refl 0⟩ (fun i H4 _ h => SqL.of (h.1 _ _ upd_same)) ?_ ?_
          · rintro i x' H4 hi' ⟨sD, zs, hz4, pz4, hzl⟩
            rw [List.getElem?_map] at hi'
            obtain ⟨qe, hqe, rfl⟩ := Option.map_eq_some_iff.mp hi'
            have hqm := List.mem_of_getElem? hqe
            obtain ⟨_, ht1, ht2⟩ := hL' qe hqm
            have hil : i < 64 := by have := (List.getElem?_eq_some_iff.mp hqe).1; omega
            have tf4 : TF H4 (.ref qe.1) (qe.2.map Int.toNat) := ht2.tm (.of (s45.trans sD))
            have etake : (L'.map fun q : Addr × List Int => q.2.map Int.toNat).take (i + 1) = (L'.map fun q : Addr × List Int => q.2.map Int.toNat).take i ++ [qe.2.map Int.toNat] := by
              rw [List.take_add_one, List.getElem?_map, hqe]
              rfl
            refine ⟨rfl, _, rfl, _, rfl, dT (qe.2.map Int.toNat), F'.map dT, tf4.tn.dp, .lst (SqL.of (sD _ _ hxs2B)) (TNs.dp (paired_mono (fun _ _ r => TF.tn r) (TFs.tm (.of sD) hp2B))), sh_T _, sh_LT _, _, rfl, ?_⟩
            rw [any_dT]
            by_cases hin : qe.2.map Int.toNat ∈ F'
            · rw [decide_eq_true hin]
              refine iteF ⟨sD, zs, hz4, ?_, by omega⟩
              rw [etake, List.filter_append, List.filter_cons, if_neg (by simpa using hin), List.filter_nil, List.append_nil]
              exact pz4
            · rw [decide_eq_false hin]
              have t4 := Tm.lst (o := .lst (zs ++ [V.ref qe.1])) hz4
              refine iteT ⟨_, rfl, zs, hz4, by rw [sizeLine_eq]; omega, same_mut sD hD2, zs ++ [V.ref qe.1], upd_same, ?_, by rw [List.length_append]; show zs.length + 1 ≤ i + 1; omega⟩
              rw [etake, List.filter_append, List.filter_cons, if_pos (by simpa using hin), List.filter_nil]
              exact Paired.app (TFs.tm t4 pz4) (Paired.one (tf4.tm t4))
          · rintro H4 ⟨sD, zs, hz4, pz4, hzl⟩
            rw [List.length_map, show L'.length = (L'.map fun q : Addr × List Int => q.2.map Int.toNat).length from (List.length_map ..).symm, List.take_length] at pz4
            rw [List.length_map] at hzl
            have hxs4 := sD _ _ hxs2B
            have hx2l : xs2.length ≤ 63 := by rw [Paired.length hp2]; exact hFl
            refine ⟨fl', D2, xs2, zs, rfl, rfl, hxs4, hz4, by rw [sizeLine_eq]; omega, fun np hnp => ?_⟩
            have s6 := same_new (o := .lst (xs2 ++ zs)) hnp
            have sE := (sB.trans sD).trans s6
            refine ⟨np, _, _, _, _, rfl, sm1.trans sE, ⟨xs2 ++ zs, upd_same, Paired.app (TFs.tm (.of (sD.trans s6)) hp2B) (TFs.tm (.of s6) pz4)⟩, fun h => absurd h (by omega), fun _ => sp.next hi hM hM1 hM2, sE _ _ hsl2⟩
      · rintro σ H2 ⟨fl', F', x4, x5, x6, rfl, sm1, lf2, h0, h1, _⟩
        refine ⟨fl', F', _, _, _, _, rfl, sm.trans sm1, lf2, ?_⟩
        rw [cut_one, List.length_take, List.length_drop] at h0 h1
        by_cases hlt : j < xs.length
        · exact h1 (by omega)
        · rw [h0 (by omega)]
          exact sp.skip (by omega)
    · rintro σ H' ⟨fl, F, x3, x4, x5, x6, rfl, sm, ⟨xs, hxs, hp⟩, sp⟩
      have hFl : F.length ≤ 63 := hf.le sp.nd sp.made
      have hxl : xs.length = F.length := Paired.length hp
      refine ⟨_, rfl, fl, xs, rfl, SqL.of hxs, by omega, fun x hx => ?_, fun ys p pm pw hp2 => ?_⟩
      · obtain ⟨t, ht, a, o, rfl, hao, _⟩ := Paired.memL hp hx
        have htP := (sp.made t ht).isP hg
        exact ⟨iN t, ⟨a, rfl, by rw [show (iN t).map V.int = nIs t from (nIs_int t).symm]; exact RT.sq (.inr ⟨o, hao⟩)⟩, by rw [iN_len, htP.len], bd_iN htP hn9⟩
      · obtain ⟨ts, h1, h2⟩ := Paired.perm pm hp
        have s2 := same_new (o := .lst ys) hp2
        refine q p _ ts (sm.trans s2) (sm.free hp2) ⟨ys, upd_same, TFs.tm (.of s2) h1⟩ (h2.nodup_iff.mpr sp.nd) (fun t => h2.mem_iff.trans (sp.all (by omega) t)) ?_
        refine Paired.pairwise (R := TF H') (fun x y s t rx ry hxy => ?_) h1 pw
        obtain ⟨a, o, rfl, hao, _⟩ := rx
        obtain ⟨a', o', rfl, hao', _⟩ := ry
        exact hxy (iN s) (iN t) ⟨a, rfl, by rw [show (iN s).map V.int = nIs s from (nIs_int s).symm]; exact RT.sq (.inr ⟨o, hao⟩)⟩ ⟨a', rfl, by rw [show (iN t).map V.int = nIs t from (nIs_int t).symm]; exact RT.sq (.inr ⟨o', hao'⟩)⟩
end
end Lt

set_option linter.all false
set_option Elab.async false
set_option maxRecDepth 100000
/-! locks whose places are called otherwise; small locks -/
namespace Lt
def cj (s t : List Nat) : List Nat := prod (prod (inv s) t) s
theorem cj_isP {n : Nat} {s t : List Nat} (hs : IsP n s) (ht : IsP n t) : IsP n (cj s t) := (hs.inv.prod ht).prod hs
theorem cj_still {n : Nat} {s : List Nat} (hs : IsP n s) : cj s (List.range n) = List.range n := by
  unfold cj
  rw [prod_still_r hs.inv.lt, prod_inv_l hs]
theorem bd {n : Nat} {x y : List Nat} (hx : IsP n x) (hy : IsP n y) : ∀ i ∈ x, i < y.length := fun i hi => by rw [hy.len]; exact hx.lt i hi
theorem cj_prod {n : Nat} {s a b : List Nat} (hs : IsP n s) (ha : IsP n a) (hb : IsP n b) : cj s (prod a b) = prod (cj s a) (cj s b) := by
  unfold cj
  have h1 : prod (prod (prod (inv s) a) s) (prod (prod (inv s) b) s) = prod (prod (inv s) a) (prod s (prod (prod (inv s) b) s)) := prod_assoc (bd (hs.inv.prod ha) hs)
  have h2 : prod s (prod (prod (inv s) b) s) = prod b s := by
    rw [← prod_assoc (bd hs (hs.inv.prod hb)), ← prod_assoc (bd hs hs.inv), prod_inv_r hs, prod_still_l hb.len]
  rw [h1, h2, ← prod_assoc (bd hs.inv ha), prod_assoc (bd (hs.inv.prod ha) hb)]
theorem Mk.cj {gs : List (List Nat)} {n : Nat} {s : List Nat} (hg : ∀ g ∈ gs, IsP n g) (hs : IsP n s) {u : List Nat} (h : Mk (gs.map (Lt.cj s)) n u) : ∃ t, Mk gs n t ∧ u = Lt.cj s t := by
  induction h with
  | still => exact ⟨_, .still, (cj_still hs).symm⟩
  | @step a g _ hm ih =>
    obtain ⟨t, ht, e⟩ := ih
    obtain ⟨g', hg', e'⟩ := List.mem_map.mp hm
    exact ⟨_, .step ht hg', by rw [cj_prod hs (ht.isP hg) (hg g' hg'), e, e']⟩
theorem Few.cj {gs : List (List Nat)} {n m : Nat} {s : List Nat} (hg : ∀ g ∈ gs, IsP n g) (hs : IsP n s) (h : Few gs n m) : Few (gs.map (Lt.cj s)) n m := by
  obtain ⟨D, h1, h2⟩ := h
  refine ⟨D.map (Lt.cj s), by rw [List.length_map]; exact h1, fun u hu => ?_⟩
  obtain ⟨t, ht, e⟩ := hu.cj hg hs
  rw [e]
  exact List.mem_map.mpr ⟨t, h2 t ht, rfl⟩
theorem few_of {gs : List (List Nat)} {n k : Nat} (h : (qq gs n k).length ≤ k) : Few gs n k :=
  ⟨(qq gs n k).map (·.1), by rw [List.length_map]; exact h, fun t ht => (qq_full h t).mpr ht⟩
theorem Few.mono {gs : List (List Nat)} {n m m' : Nat} (h : Few gs n m) (l : m ≤ m') : Few gs n m' := let ⟨D, h1, h2⟩ := h; ⟨D, Nat.le_trans h1 l, h2⟩
/-- what is led where -/
theorem cj_at {n : Nat} {s t u : List Nat} (hs : IsP n s) (ht : IsP n t) (hl : u.length = n) (h : ∀ (i si ti : Nat), s[i]? = some si → t[i]? = some ti → u[si]? = s[ti]?) : u = cj s t := by
  apply List.ext_getElem?
  intro p
  by_cases hp : p < n
  · have hm : p ∈ s := hs.mem.mpr hp
    have hj := List.idxOf_lt_length_of_mem hm
    have hjn : s.idxOf p < n := by rw [← hs.len]; exact hj
    have e1 : s[s.idxOf p]? = some p := by rw [List.getElem?_eq_getElem hj, List.getElem_idxOf]
    have e2 : t[s.idxOf p]? = some (t[s.idxOf p]'(by rw [ht.len]; exact hjn)) := List.getElem?_eq_getElem _
    have htl : t[s.idxOf p]'(by rw [ht.len]; exact hjn) < s.length := by rw [hs.len]; exact ht.lt _ (List.getElem_mem _)
    rw [h _ _ _ e1 e2]
    unfold cj prod inv
    rw [List.getElem?_map, List.getElem?_map, List.getElem?_map, hs.len, List.getElem?_range hp]
    simp only [Option.map_some]
    rw [List.getD_eq_getElem?_getD (l := t), e2, Option.getD_some, List.getD_eq_getElem?_getD, List.getElem?_eq_getElem htl, Option.getD_some]
  · rw [List.getElem?_eq_none (by omega), List.getElem?_eq_none (by rw [(cj_isP hs ht).len]; omega)]
/-! ### all permutations of few places -/
def lists (n : Nat) : Nat → List (List Nat)
  | 0 => [[]]
  | k + 1 => (List.range n).flatMap fun a => (lists n k).map (a :: ·)
theorem mem_lists {n : Nat} : ∀ (t : List Nat), (∀ i ∈ t, i < n) → t ∈ lists n t.length
  | [], _ => List.mem_singleton.mpr rfl
  | a :: t, h => List.mem_flatMap.mpr ⟨a, List.mem_range.mpr (h a List.mem_cons_self), List.mem_map.mpr ⟨t, mem_lists t fun i hi => h i (List.mem_cons_of_mem _ hi), rfl⟩⟩
theorem few_all {gs : List (List Nat)} {n m : Nat} (hg : ∀ g ∈ gs, IsP n g) (h : ((lists n n).filter fun t => decide (IsP n t)).length ≤ m) : Few gs n m :=
  ⟨_, h, fun t ht => by
    have hp := ht.isP hg
    have z := mem_lists t hp.lt
    rw [hp.len] at z
    exact List.mem_filter.mpr ⟨z, decide_eq_true hp⟩⟩
theorem all4 : ((lists 4 4).filter fun t => decide (IsP 4 t)).length ≤ 60 := by decide +kernel
theorem all3 : ((lists 3 3).filter fun t => decide (IsP 3 t)).length ≤ 60 := by decide +kernel
theorem all2 : ((lists 2 2).filter fun t => decide (IsP 2 t)).length ≤ 60 := by decide +kernel
/-! ### the known locks -/
def known : List (List (List Nat)) := [[[1, 2, 3, 0]], [[1, 0, 3, 2], [2, 3, 0, 1]], [[1, 2, 3, 0], [3, 2, 1, 0]], [[1, 0, 2, 3, 4, 5], [0, 1, 3, 2, 4, 5], [0, 1, 2, 3, 5, 4]],
  [[1, 2, 3, 4, 5, 6, 7, 0]], [[1, 2, 3, 4, 5, 6, 7, 8, 0]], [[1, 2, 3, 0, 5, 6, 7, 4], [4, 7, 6, 5, 2, 1, 0, 3]], [[1, 2, 0, 3, 4, 5], [0, 1, 2, 4, 5, 3]], [[1, 2, 0], [1, 0, 2]],
  [[1, 2, 0, 3], [1, 0, 3, 2]], [[1, 2, 0, 3, 4], [0, 1, 2, 4, 3]], [[3, 4, 5, 6, 7, 8, 0, 1, 2], [0, 1, 2, 4, 5, 3, 8, 6, 7]], [[1, 2, 3, 4, 0], [1, 2, 0, 3, 4]], [[1, 2, 3, 0], [1, 0, 2, 3]],
  [[1, 2, 3, 4, 0], [0, 4, 3, 2, 1]]]
def fine (gs : List (List Nat)) : Bool := match gs with
  | [] => false
  | g :: _ => decide (gs.length ≤ 4) && decide (2 ≤ g.length) && decide (g.length ≤ 9) && gs.all (fun t => decide (IsP g.length t)) && decide ((qq gs g.length 60).length ≤ 60)
theorem known_fine : known.all fine = true := by decide +kernel
theorem fine_of {gs : List (List Nat)} (h : gs ∈ known) : ∃ n, 1 ≤ gs.length ∧ gs.length ≤ 4 ∧ 2 ≤ n ∧ n ≤ 9 ∧ (∀ g ∈ gs, IsP n g) ∧ Few gs n 60 := by
  have z := List.all_eq_true.mp known_fine gs h
  cases gs with
  | nil => cases z
  | cons g gs =>
    have z : (decide ((g :: gs).length ≤ 4) && decide (2 ≤ g.length) && decide (g.length ≤ 9) && (g :: gs).all (fun t => decide (IsP g.length t)) && decide ((qq (g :: gs) g.length 60).length ≤ 60)) = true := z
    simp only [Bool.and_eq_true, decide_eq_true_eq, List.all_eq_true] at z
    obtain ⟨⟨⟨⟨z1, z2⟩, z3⟩, z4⟩, z5⟩ := z
    exact ⟨g.length, by show 1 ≤ gs.length + 1; omega, z1, z2, z3, z4, few_of z5⟩
end Lt

set_option Elab.async false
set_option linter.all false
set_option maxRecDepth 100000
set_option maxHeartbeats 1000000
namespace Lt
open PySem PySem.Spec PyProof.Rows L2
/-! ### a written table of locks -/
def isInts : List Expr → List Nat → Bool
  | [], [] => true
  | .Constant (.int i) _ _ :: es, n :: t => decide (i = Int.ofNat n) && isInts es t
  | _, _ => false
def isTurns : List Expr → List (List Nat) → Bool
  | [], [] => true
  | .Tuple es _ _ :: r, t :: ts => isInts es t && isTurns r ts
  | _, _ => false
def isTab : List (Option Expr) → List Expr → List (Str × List (List Nat)) → Bool
  | [], [], [] => true
  | some (.Constant (.str x) _ _) :: ks, .Tuple es _ _ :: vs, (y, ts) :: tab => decide (x = y) && isTurns es ts && isTab ks vs tab
  | _, _, _ => false
theorem PA.imp {X : Cx} {es : List Expr} {t t' : TA} (h : PA X es t) (i : ∀ σ H Q, t' σ H Q → t σ H Q) : PA X es t' := ⟨fun pos pins s σ H Q I q => h.run pos pins s σ H Q I (i σ H Q q)⟩
theorem PE.imp {X : Cx} {e : Expr} {t t' : TE} (h : PE X e t) (i : ∀ σ H Q, t' σ H Q → t σ H Q) : PE X e t' := ⟨fun pins s σ H Q I q => h.run pins s σ H Q I (i σ H Q q)⟩
section
variable {X : Cx}
theorem pa_ints : ∀ {es : List Expr} {t : List Nat}, isInts es t = true → PA X es (fun _ H Q => Q (nIs t) H)
  | [], [], _ => pa_nil
  | [], _ :: _, h => by cases h
  | e :: es, [], h => by
    cases e with
    | Constant c j p => cases c <;> cases h
    | _ => cases h
  | e :: es, n :: t, h => by
    cases e with
    | Constant c j p =>
      cases c with
      | int i =>
        have h : (decide (i = Int.ofNat n) && isInts es t) = true := h
        rw [Bool.and_eq_true, decide_eq_true_eq] at h
        obtain ⟨rfl, h2⟩ := h
        exact PA.imp (pa_cons pe_int (pa_ints h2)) fun σ H Q q => q
      | _ => cases h
    | _ => cases h
theorem pe_turn {es : List Expr} {k : Nat} {pos : Pos} {t : List Nat} (h : isInts es t = true) (hl : t.length ≤ 1000) : PE X (.Tuple es k pos) (fun _ H Q => ∀ v H', Same H H' → TK H' v t → Q v H') :=
  PE.imp (pe_tup (pa_ints h)) fun σ H Q q => ⟨by rw [nIs_len, sizeLine_eq]; omega, fun p hp => q _ _ (same_new hp) ⟨p, rfl, upd_same⟩⟩
theorem pa_turns : ∀ {es : List Expr} {ts : List (List Nat)}, isTurns es ts = true → (∀ t ∈ ts, t.length ≤ 1000) → PA X es (fun _ H Q => ∀ vs H', Same H H' → Paired (TN H') vs ts → Q vs H')
  | [], [], _, _ => PA.imp pa_nil fun σ H Q q => q _ _ (Same.refl _) .nil
  | [], _ :: _, h, _ => by cases h
  | e :: es, [], h, _ => by cases e <;> cases h
  | e :: es, t :: ts, h, hl => by
    cases e with
    | Tuple es2 k pos =>
      have h : (isInts es2 t && isTurns es ts) = true := h
      rw [Bool.and_eq_true] at h
      refine PA.imp (pa_cons (pe_turn h.1 (hl t List.mem_cons_self)) (pa_turns h.2 fun x hx => hl x (List.mem_cons_of_mem _ hx))) fun σ H Q q => ?_
      exact fun v H1 s1 hv vs H2 s2 hvs => q _ _ (s1.trans s2) (.cons (hv.tn.tm (.of s2)) hvs)
    | _ => cases h
def Tb (H : Hp) (p : V × V) (x : Str × List (List Nat)) : Prop := p.1 = .str x.1 ∧ TT H p.2 x.2
theorem pps_tab {pos : Pos} : ∀ {ks : List (Option Expr)} {vs : List Expr} {tab : List (Str × List (List Nat))}, isTab ks vs tab = true → (∀ x ∈ tab, x.2.length ≤ 1000 ∧ ∀ t ∈ x.2, t.length ≤ 1000) →
    ∃ trs, PPs X pos ks vs trs ∧ ∀ σ H Q, (∀ ps H', Same H H' → Paired (Tb H') ps tab → Q ps H') → tPairs trs σ H Q
  | [], [], [], _, _ => ⟨[], pps_nil, fun σ H Q q => q _ _ (Same.refl _) .nil⟩
  | [], [], _ :: _, h, _ => by cases h
  | [], _ :: _, _, h, _ => by cases h
  | k :: ks, [], tab, h, _ => by
    cases k with
    | none => cases h
    | some e => cases e with
      | Constant c j p => cases c <;> cases h
      | _ => cases h
  | k :: ks, v :: vs, [], h, _ => by
    cases k with
    | none => cases h
    | some e => cases e with
      | Constant c j p => cases c <;> cases v <;> cases h
      | _ => cases h
  | k :: ks, v :: vs, (y, ts) :: tab, h, hl => by
    cases k with
    | none => cases h
    | some e => cases e with
      | Constant c j p => cases c with
        | str x => cases v with
          | Tuple es k2 pos2 =>
            have h : (decide (x = y) && isTurns es ts && isTab ks vs tab) = true := h
            rw [Bool.and_eq_true, Bool.and_eq_true, decide_eq_true_eq] at h
            obtain ⟨⟨rfl, h1⟩, h2⟩ := h
            obtain ⟨hl1, hl2⟩ := hl (x, ts) List.mem_cons_self
            obtain ⟨trs, p, r⟩ := pps_tab h2 fun z hz => hl z (List.mem_cons_of_mem _ hz)
            refine ⟨_, pps_cons pe_str (pe_tup (pa_turns h1 hl2)) p, fun σ H Q q => ?_⟩
            refine fun us H1 s1 hus => ⟨by rw [Paired.length hus, sizeLine_eq]; exact Nat.le_trans hl1 (by decide), fun pt hpt => ?_⟩
            have s2 := same_new (o := .tup us) hpt
            refine r σ _ _ fun ps H3 s3 hps => q _ _ ((s1.trans s2).trans s3) (.cons ⟨rfl, TT.tm (.of s3) ⟨pt, us, rfl, upd_same, TNs.tm (.of s2) hus⟩⟩ hps)
          | _ => cases h
        | _ => cases h
      | _ => cases h
/-- what a dict of names and locks holds -/
def DB (H : Hp) (kv : Key × V) (x : Str × List (List Nat)) : Prop := kv.1 = Sum.inr x.1 ∧ TT H kv.2 x.2
theorem tb_kvs {H : Hp} : ∀ {ps : List (V × V)} {tab : List (Str × List (List Nat))}, Paired (Tb H) ps tab → ∃ kvs : List (Key × V), ps = kvs.map (fun kv => (kV kv.1, kv.2)) ∧ Paired (DB H) kvs tab
  | _, _, .nil => ⟨[], rfl, .nil⟩
  | p :: _, x :: _, .cons r t => by
    obtain ⟨kvs, h1, h2⟩ := tb_kvs t
    refine ⟨(Sum.inr x.1, p.2) :: kvs, ?_, .cons ⟨rfl, r.2⟩ h2⟩
    rw [h1]
    have e : p = (V.str x.1, p.2) := Prod.ext r.1 rfl
    rw [e]
    rfl
theorem db_val {H : Hp} {x : Str} {ts : List (List Nat)} : ∀ {kvs : List (Key × V)} {tab : List (Str × List (List Nat))}, Paired (DB H) kvs tab → (tab.map (·.1)).Nodup → (x, ts) ∈ tab → ∃ v, valV kvs (Sum.inr x) = some v ∧ TT H v ts
  | _, _, .nil, _, h => by cases h
  | p :: ps, q :: qs, .cons r s, hn, h => by
    rw [List.map_cons] at hn
    obtain ⟨h1, h2⟩ := List.nodup_cons.mp hn
    rcases List.mem_cons.mp h with e | h
    · subst e
      exact ⟨p.2, valV_pos r.1, r.2⟩
    · have hne : ¬ p.1 = Sum.inr x := fun e => h1 (by
        rw [r.1] at e
        injection e with e
        rw [e]
        exact List.mem_map.mpr ⟨_, h, rfl⟩)
      rw [valV_neg hne]
      exact db_val s h2 h
theorem mergeK_nil {H : Hp} : ∀ {kvs : List (Key × V)} {tab : List (Str × List (List Nat))} {acc : List (Key × V)} {at_ : List (Str × List (List Nat))}, Paired (DB H) kvs tab → Paired (DB H) acc at_ → ((at_ ++ tab).map (·.1)).Nodup → mergeK acc kvs = acc ++ kvs
  | _, _, acc, _, .nil, _, _ => by
    show acc = acc ++ []
    rw [List.append_nil]
  | p :: ps, q :: qs, acc, at_, .cons r s, ha, hn => by
    have hnone : valV acc p.1 = none := by
      cases e : valV acc p.1 with
      | none => rfl
      | some v =>
        exfalso
        have m := valV_in e
        obtain ⟨kv, hkv, ekv⟩ := List.mem_map.mp m
        obtain ⟨y, hy, ry⟩ := Paired.memL ha hkv
        have e1 : y.1 = q.1 := by
          have z : (Sum.inr y.1 : Key) = Sum.inr q.1 := ry.1.symm.trans (ekv.trans r.1)
          injection z
        rw [List.map_append, List.map_cons] at hn
        exact (List.nodup_append.mp hn).2.2 y.1 (List.mem_map.mpr ⟨y, hy, rfl⟩) q.1 List.mem_cons_self e1
    show mergeK (putK acc p.1 p.2) ps = acc ++ p :: ps
    rw [putK_new p.2 hnone, mergeK_nil (acc := acc ++ [(p.1, p.2)]) (at_ := at_ ++ [q]) s (Paired.app ha (Paired.one r)) (by rw [List.append_assoc]; exact hn), List.append_assoc]
    rfl
/-- {'a': ((..), ..), ..} -/
def tTab (tab : List (Str × List (List Nat))) : TE := fun _ H Q => ∀ p H' kvs, Same H H' → H p = none → H' p = some (.dK kvs) → Paired (DB H') kvs tab → Q (.ref p) H'
theorem pe_tab {ks : List (Option Expr)} {vs : List Expr} {pos : Pos} {tab : List (Str × List (List Nat))} (h : isTab ks vs tab = true) (hl : ∀ x ∈ tab, x.2.length ≤ 1000 ∧ ∀ t ∈ x.2, t.length ≤ 1000) (hn : (tab.map (·.1)).Nodup) (h15 : tab.length ≤ 15)
    (hall : ks.all (·.isSome) = true) (hlen : ks.length = vs.length) (h0 : ks ≠ []) (hk15 : ks.length ≤ 15) : PE X (.Dict ks vs pos) (tTab tab) := by
  obtain ⟨trs, p, r⟩ := pps_tab (X := X) (pos := pos) h hl
  refine PE.imp (pe_disp p hall hlen h0 hk15) fun σ H Q q => ?_
  refine fun d hd => r σ _ _ fun ps H2 s2 hps => ⟨s2 _ _ upd_same, ?_⟩
  obtain ⟨kvs, e, hb⟩ := tb_kvs hps
  refine ⟨kvs, e, by rw [Paired.length hb]; exact h15, ?_⟩
  have em : mergeK [] kvs = kvs := mergeK_nil (acc := []) (at_ := []) hb .nil hn
  rw [em]
  have hd2 : H2 d = some (.dK []) := s2 _ _ upd_same
  have tm : Tm H2 (upd H2 d (.dK kvs)) := .mut hd2 (fun _ z => nomatch z) fun _ _ z => nomatch z
  have sH : Same H (upd H2 d (.dK kvs)) := same_mut ((same_new hd).trans s2) hd
  exact q d _ kvs sH hd upd_same (paired_mono (fun a b z => ⟨z.1, z.2.tm tm⟩) hb)
end
def names : List Str := ["four", "klein", "square", "cube", "eight", "nine", "quaternions", "threes", "three", "tetra", "six", "heis", "five", "whole", "ten"]
def table : List (Str × List (List Nat)) := names.zip known
theorem table_nd : (table.map (·.1)).Nodup := by decide +kernel
theorem table_len : ∀ x ∈ table, x.2.length ≤ 1000 ∧ ∀ t ∈ x.2, t.length ≤ 1000 := by decide +kernel
theorem table_known {x : Str × List (List Nat)} (h : x ∈ table) : x.2 ∈ known := by
  unfold table at h
  exact (List.of_mem_zip (a := x.1) (b := x.2) h).2
end Lt

set_option Elab.async false
set_option linter.all false
set_option maxRecDepth 100000
set_option maxHeartbeats 1000000
namespace Lt
open PySem PySem.Spec PyProof.Rows L2
theorem names_in : ∀ nm ∈ names, ∃ ts, (nm, ts) ∈ table := fun nm h => by
  have z : (names.all fun nm => table.any fun x => decide (x.1 = nm)) = true := by decide +kernel
  obtain ⟨x, hx, e⟩ := List.any_eq_true.mp (List.all_eq_true.mp z nm h)
  have e := of_decide_eq_true e
  exact ⟨x.2, by rw [← e]; exact hx⟩
theorem three_of {nm : Str} {ts : List (List Nat)} (h : (nm, ts) ∈ table) : ts.length ≤ 3 := by
  have z : (table.all fun x => decide (x.2.length ≤ 3)) = true := by decide +kernel
  exact of_decide_eq_true (List.all_eq_true.mp z _ h)
section
variable {P : Program} {w : World} {K : PySem.W.Frag} {mg : Str → Option Value} {base : Heap}
theorem sc_law_known : FnScope ["row", "kinds", "locks", "lock", "order", "found", "turn", "named", "place", "comes"] ["row", "kinds"] (defScope s_law_known) := ⟨rfl, rfl, rfl, by decide +kernel, rfl, by decide +kernel, by decide +kernel⟩
/-! ### _law_lock -/
theorem sc_law_lock : FnScope ["row", "kinds", "places", "turn"] ["row", "kinds"] (defScope s_law_lock) := ⟨rfl, rfl, rfl, by decide +kernel, rfl, by decide +kernel, by decide +kernel⟩
theorem few4 {ls : List (List Nat)} {n : Nat} (h1 : 2 ≤ n) (h2 : n ≤ 4) (hg : ∀ g ∈ ls, IsP n g) : Few ls n 60 := by
  have : n = 2 ∨ n = 3 ∨ n = 4 := by omega
  rcases this with e | e | e
  · subst e; exact (few_all hg all2).mono (by omega)
  · subst e; exact (few_all hg all3).mono (by omega)
  · subst e; exact (few_all hg all4).mono (by omega)
end
end Lt

set_option Elab.async false
set_option linter.all false
set_option maxRecDepth 100000
set_option maxHeartbeats 1000000
/-! the drawn lock, and of what kind it is -/
namespace Lt
open PySem PySem.Spec PyProof.Rows L2
/-- of these kinds, its places called otherwise -/
def LkD (kn : List Str) (ls : List (List Nat)) (n : Nat) : Prop := ∃ nm gs s, nm ∈ kn ∧ (nm, gs) ∈ table ∧ IsP n s ∧ ls = gs.map (cj s) ∧ ∀ g ∈ gs, IsP n g
section
variable {P : Program} {w : World} {K : PySem.W.Frag} {mg : Str → Option Value} {base : Heap}
end
end Lt

set_option linter.all false
set_option Elab.async false
set_option maxHeartbeats 1000000
/-! commutators: given turns stand for any turn -/
namespace Lt
def cm (x y : List Nat) : List Nat := prod (prod x y) (inv (prod y x))
section
variable {n : Nat}
theorem pas {x y : List Nat} (z : List Nat) (hx : IsP n x) (hy : IsP n y) : prod (prod x y) z = prod x (prod y z) := prod_assoc fun i hi => by rw [hy.len]; exact hx.lt i hi
theorem pc1 {x z : List Nat} (hx : IsP n x) (hz : IsP n z) : prod (inv x) (prod x z) = z := by
  rw [← pas z hx.inv hx, prod_inv_l hx, prod_still_l hz.len]
theorem pc2 {x z : List Nat} (hx : IsP n x) (hz : IsP n z) : prod x (prod (inv x) z) = z := by
  rw [← pas z hx hx.inv, prod_inv_r hx, prod_still_l hz.len]
theorem inv_inv {x : List Nat} (hx : IsP n x) : inv (inv x) = x := (inv_unique hx.inv hx (prod_inv_l hx)).symm
theorem IsP.cm {x y : List Nat} (hx : IsP n x) (hy : IsP n y) : IsP n (cm x y) := (hx.prod hy).prod (hy.prod hx).inv
theorem cm_step {t y g : List Nat} (ht : IsP n t) (hy : IsP n y) (hg : IsP n g) : cm t (prod y g) = prod (cm t y) (prod (prod y (cm t g)) (inv y)) := by
  have A : ∀ x y z, IsP n x → IsP n y → prod (prod x y) z = prod x (prod y z) := fun x y z a b => pas z a b
  have I : ∀ x y, IsP n x → IsP n y → inv (prod x y) = prod (inv y) (inv x) := fun x y a b => inv_prod a b
  have C1 : ∀ x z, IsP n x → IsP n z → prod (inv x) (prod x z) = z := fun x z a b => pc1 a b
  have C2 : ∀ x z, IsP n x → IsP n z → prod x (prod (inv x) z) = z := fun x z a b => pc2 a b
  have Pr : ∀ x y, IsP n x → IsP n y → IsP n (prod x y) := fun x y a b => a.prod b
  have V : ∀ x, IsP n x → IsP n (inv x) := fun x a => a.inv
  unfold cm
  simp (maxDischargeDepth := 30) only [A, I, C1, C2, Pr, V, ht, hy, hg]
theorem cm_flip {c y : List Nat} (hc : IsP n c) (hy : IsP n y) : prod (prod y c) (inv y) = prod (inv (cm c y)) c := by
  have A : ∀ x y z, IsP n x → IsP n y → prod (prod x y) z = prod x (prod y z) := fun x y z a b => pas z a b
  have I : ∀ x y, IsP n x → IsP n y → inv (prod x y) = prod (inv y) (inv x) := fun x y a b => inv_prod a b
  have I2 : ∀ x, IsP n x → inv (inv x) = x := fun x a => inv_inv a
  have C3 : ∀ x, IsP n x → prod (inv x) x = List.range n := fun x a => prod_inv_l a
  have S : ∀ x, IsP n x → prod x (List.range n) = x := fun x a => prod_still_r a.lt
  have Pr : ∀ x y, IsP n x → IsP n y → IsP n (prod x y) := fun x y a b => a.prod b
  have V : ∀ x, IsP n x → IsP n (inv x) := fun x a => a.inv
  unfold cm
  simp (maxDischargeDepth := 30) only [A, I, I2, C3, S, Pr, V, hc, hy]
theorem cm_still {t : List Nat} (ht : IsP n t) : cm t (List.range n) = List.range n := by
  unfold cm
  rw [prod_still_r ht.lt, prod_still_l ht.len, prod_inv_r ht]
end
theorem Mk.one {gs : List (List Nat)} {n : Nat} (hg : ∀ g ∈ gs, IsP n g) {g : List Nat} (h : g ∈ gs) : Mk gs n g := by
  have z := Mk.step (Mk.still (gs := gs) (n := n)) h
  rw [prod_still_l (hg g h).len] at z
  exact z
theorem Mk.inv {gs : List (List Nat)} {n m : Nat} (hg : ∀ g ∈ gs, IsP n g) (hf : Few gs n m) {t : List Nat} (h : Mk gs n t) : Mk gs n (Lt.inv t) := by
  obtain ⟨N, h1, _, e⟩ := pw_back hg hf h
  obtain ⟨k, rfl⟩ : ∃ k, N = 1 + k := ⟨N - 1, by omega⟩
  have hP := h.isP hg
  rw [pw_add hP 1 k, pw_one hP] at e
  rw [← inv_unique hP (pw_isP hP k) e]
  exact h.pw hg k
theorem Mk.mono {gs hs : List (List Nat)} {n : Nat} (hh : ∀ g ∈ hs, IsP n g) (s : ∀ g ∈ gs, Mk hs n g) {t : List Nat} (h : Mk gs n t) : Mk hs n t := by
  induction h with
  | still => exact .still
  | step _ hg ih => exact ih.prod hh (s _ hg)
theorem Few.sub {gs hs : List (List Nat)} {n m : Nat} (hf : Few hs n m) (s : ∀ t, Mk gs n t → Mk hs n t) : Few gs n m := let ⟨D, h1, h2⟩ := hf; ⟨D, h1, fun t ht => h2 t (s t ht)⟩
/-- commutators with the given turns make the commutators with any turn -/
theorem cm_all {n m : Nat} {gs bs : List (List Nat)} {N : List Nat → Prop} (hN : ∀ t, N t → IsP n t) (hgs : ∀ g ∈ gs, IsP n g) (hbs : ∀ b ∈ bs, IsP n b) (hf : Few bs n m)
    (hc : ∀ t g, N t → g ∈ gs → N (cm t g)) (hb : ∀ t g, N t → g ∈ gs → cm t g ∈ bs) {x : List Nat} (hx : Mk gs n x) : ∀ t, N t → Mk bs n (cm t x) := by
  induction hx with
  | still => exact fun t ht => by rw [cm_still (hN t ht)]; exact .still
  | @step y g hy hg ih =>
    intro t ht
    have c := hc t g ht hg
    have hyP := hy.isP hgs
    rw [cm_step (hN t ht) hyP (hgs g hg), cm_flip (hN _ c) hyP]
    exact (ih t ht).prod hbs (((ih _ c).inv hbs hf).prod hbs (.one hbs (hb t g ht hg)))
/-- a part of a whole that is less is at most half of it -/
theorem half {n : Nat} {H T : List (List Nat)} (hT : ∀ t ∈ T, IsP n t) (nd : H.Nodup) (sub : ∀ h ∈ H, h ∈ T) (pr : ∀ a ∈ T, ∀ b ∈ T, prod a b ∈ T) (cl : ∀ a ∈ H, ∀ b ∈ H, prod (inv a) b ∈ H) {t : List Nat} (ht : t ∈ T) (hn : t ∉ H) : 2 * H.length ≤ T.length := by
  have tP := hT t ht
  have P := fun h hh => hT h (sub h hh)
  have z : (H ++ H.map fun h => prod h t).Nodup := by
    refine List.nodup_append.mpr ⟨nd, ?_, fun a ha b hb e => ?_⟩
    · refine List.pairwise_map.mpr (List.Pairwise.imp_of_mem (fun {a b} ha hb hne e => hne ?_) nd)
      have e2 := congrArg (fun x => prod x (inv t)) e
      have e2 : prod (prod a t) (inv t) = prod (prod b t) (inv t) := e2
      rw [pas _ (P a ha) tP, pas _ (P b hb) tP, prod_inv_r tP, prod_still_r (P a ha).lt, prod_still_r (P b hb).lt] at e2
      exact e2
    · obtain ⟨h, hh, rfl⟩ := List.mem_map.mp hb
      subst e
      have y := cl h hh _ ha
      rw [pc1 (P h hh) tP] at y
      exact hn y
  have l := nodup_len _ T z fun x hx => by
    rcases List.mem_append.mp hx with q | q
    · exact sub x q
    · obtain ⟨h, hh, rfl⟩ := List.mem_map.mp q
      exact pr _ (sub h hh) t ht
  rw [List.length_append, List.length_map] at l
  omega
end Lt

set_option Elab.async false
set_option linter.all false
set_option maxRecDepth 100000
set_option maxHeartbeats 4000000
namespace Lt
open PySem PySem.Spec PyProof.Rows L2
theorem for_enumL {K : PySem.W.Frag} {a : Addr} {xs : List V} {g : TG} {tb : TS} {D : Ends} {σ : L2.St} {H : Hp} (Pv : Nat → L2.St → Hp → Prop) (h0 : Pv 0 σ H) (hl : ∀ i σ H, i ≤ xs.length → Pv i σ H → SqL K H a xs)
    (hs : ∀ (i : Nat) (x : V) σ H T, xs[i]? = some x → Pv i σ H → H T = none → g (.ref T) σ (upd H T (.tup [nI i, x])) fun σ2 H2 => tb { D with nx := Pv (i + 1), ct := Pv (i + 1), bk := D.nx } σ2 H2) (hd : ∀ σ H, Pv xs.length σ H → D.nx σ H) :
    ∃ W : Nat → Nat → L2.St → Hp → Prop, (∃ m, W 0 m σ H) ∧ ∀ i m σ H, W i m σ H →
      ((Ite K a).stop i H ∧ D.nx σ H) ∨ ((Ite K a).go i H ∧ ∃ N : L2.St → Hp → Prop, (∀ σ' H', N σ' H' → ∃ m', m' < m ∧ W (i + 1) m' σ' H') ∧ ∀ x H', (Ite K a).yld i H x H' → g x σ H' fun σ2 H2 => tb { D with nx := N, ct := N, bk := D.nx } σ2 H2) := by
  refine ⟨fun i m σ H => m = xs.length - i ∧ i ≤ xs.length ∧ Pv i σ H, ⟨xs.length, by simp, Nat.zero_le _, h0⟩, ?_⟩
  rintro i m σ H ⟨rfl, hi, p⟩
  have q := hl i σ H hi p
  by_cases hlt : i < xs.length
  · refine .inr ⟨⟨xs, xs[i], q, by simp [hlt]⟩, Pv (i + 1), fun σ' H' p' => ⟨xs.length - (i + 1), by omega, rfl, hlt, p'⟩, fun x H' y => ?_⟩
    obtain ⟨T, z, rfl, hT, rfl, hz⟩ := y
    exact hs i z σ H T (hz xs q) p hT
  · exact .inl ⟨⟨xs, q, by omega⟩, hd σ H (by rw [show xs.length = i by omega]; exact p)⟩
section
variable {P : Program} {w : World} {K : PySem.W.Frag} {mg : Str → Option Value} {base : Heap}
/-! ### words_of, the makers a list -/
def spWordsL : Sp := fun vs H Q _ => ∃ (pm : Addr) (gs : List (List Nat)) (n : Nat), vs = [.ref pm, nI n] ∧ LT H pm gs ∧ (∀ g ∈ gs, IsP n g) ∧ n ≤ 1000 ∧ gs.length ≤ 1000 ∧
  ∀ d H' L, Same H H' → H d = none → DW H' d L → Wd gs n L → Q (.ref d) H'
theorem has_words_ofL (T : Top K mg "words_of" s_words_of ["makers", "size"]) (B : Bi mg) (C : Cn mg "MOST_TURNS" 240) (hS : Has P w K mg base CX0 1 "still_of" ["size"] spStill) (hP : Has P w K mg base CX0 1 "product_of" ["one", "other"] spProd) :
    Has P w K mg base CX0 2 "words_of" ["makers", "size"] spWordsL := by
  refine T.ok sc_words_of (fun vs H Q E h => ?_) (fun f cdv A outer s H vs Q E hr h => ?_)
  · obtain ⟨pm, gs, n, rfl, _⟩ := h
    rfl
  · obtain ⟨pm, gs, n, rfl, hms, hg, hn, hgl, q⟩ := h
    obtain ⟨tk, hC⟩ := C
    have hu := hu_of hr
    refine ⟨_, pss_cons (ps_set (i := 2) sc_words_of.nd rfl (Or.inl rfl) (pe_has hS hr (by rfl) (pa_cons (pv 1) pa_nil)))
      (pss_cons (ps_set (i := 3) sc_words_of.nd rfl (Or.inl rfl) (pe_dispT hu (pv 2) (pe_tup pa_nil)))
      (pss_cons (ps_set (i := 4) sc_words_of.nd rfl (Or.inl rfl) (pe_lst (pa_cons (pv 2) pa_nil)))
      (pss_cons (ps_while PassesOwn.never (PW.pt (pw_and (pt_truth (pv 4) (by intro _; rfl)) (pw_and1 (pt_cmpR op_le (pe_callB call_len_dT (by rfl) B.len PySem.boot_len (pa_cons (pv 3) pa_nil)) (pe_glob (v := .int 240) rfl hC ⟨_, rfl⟩) (nomark _)))))
        (pss_cons (ps_set (i := 5) sc_words_of.nd rfl (Or.inl rfl) (pe_lst pa_nil))
        (pss_cons (ps_for PassesOwn.never rfl (pi_list (pv 4)) (pg_name (i := 6) sc_words_of.nd rfl (Or.inl rfl))
          (pss_one (ps_for PassesOwn.never rfl (pi_enum (by rfl) B.enumerate (pa_cons (pv 0) pa_nil)) (pg_tup rfl (pgs_cons (pg_name (i := 7) sc_words_of.nd rfl (Or.inl rfl)) (pgs_cons (pg_name (i := 8) sc_words_of.nd rfl (Or.inl rfl)) pgs_nil)))
            (pss_cons (ps_set (i := 9) sc_words_of.nd rfl (Or.inl rfl) (pe_has hP hr (by rfl) (pa_cons (pv 6) (pa_cons (pv 8) pa_nil))))
            (pss_one (ps_if (pt_cmp (pc_dnotin hu (pv 9) (pv 3)))
              (pss_cons (ps_dput hu (pv 3) (pv 9) (pe_op op_catA (pe_dgetR hu (pv 3) (pv 6) (fun _ _ => rfl)) (pe_tup (pa_cons (pv 7) pa_nil))) rfl)
              (pss_one (ps_expr (pe_bm PySem.F.plainAttrs_list PySem.F.slot_list_append PySem.F.type_list_append mt_append (pv 5) (pa_cons (pv 9) pa_nil)))))
              pss_nil))))))
        (pss_one (ps_set (i := 4) sc_words_of.nd rfl (Or.inl rfl) (pv 5))))))
      (pss_one (ps_ret (pv 3)))))), ?_⟩
    refine ⟨_, rfl, n, rfl, hn, fun st H1 s1 hst => ?_⟩
    refine fun d hd => ⟨_, rfl, ⟨Nat.zero_le _, fun p hp => ?_⟩⟩
    have hpd : p ≠ d := fun z => by rw [z, upd_same] at hp; cases hp
    have s2 : Same H1 (upd (upd H1 d (.dT [])) p (.tup [])) := (same_new hd).trans (same_new hp)
    obtain ⟨b, ebv, hb⟩ := (hst.tm (.of s2)).key
    subst ebv
    refine ⟨b, keyN (List.range n), rfl, by rw [upd_ne hpd.symm, upd_same], hb, ?_⟩
    refine ⟨_, rfl, by show 1 ≤ sizeLine; decide, fun lv hlv => ?_⟩
    have hd0 : H d = none := s1.free hd
    have s3 : Same H1 (upd (upd (upd H1 d (.dT [])) p (.tup [])) d (.dT [(keyN (List.range n), .ref p)])) := same_mut s2 hd
    have s4 : Same H1 (upd (upd (upd (upd H1 d (.dT [])) p (.tup [])) d (.dT [(keyN (List.range n), .ref p)])) lv (.lst [.ref b])) := s3.trans (same_new hlv)
    have hdl : d ≠ lv := fun z => by rw [← z, upd_same] at hlv; cases hlv
    have hpl : p ≠ lv := fun z => by rw [← z, upd_ne hpd, upd_same] at hlv; cases hlv
    have hst' : TN (upd (upd (upd (upd H1 d (.dT [])) p (.tup [])) d (.dT [(keyN (List.range n), .ref p)])) lv (.lst [.ref b])) (.ref b) (List.range n) := (hst.tm (.of s4)).tn
    refine ⟨fun m σ H' => ∃ a, m = 240 - a ∧ WS H (.ref pm) (.ref b) n gs d a σ H', ⟨240, 0, rfl, ⟨⟨lv, none, none, none, none, none, rfl, [.ref b], upd_same, .cons hst' .nil⟩, s1.trans s4, ⟨[(keyN (List.range n), .ref p)], by rw [upd_ne hdl, upd_same], .cons ⟨rfl, p, rfl, .inl ?_⟩ .nil⟩, Nat.zero_le _, Nat.zero_le _⟩⟩, ?_⟩
    · rw [upd_ne hpl, upd_ne hpd, upd_same]
      rfl
    rintro m σ H' ⟨a, rfl, ⟨⟨lv, x5, x6, x7, x8, x9, rfl, xs, hlv', hxs⟩, sm, dw, le, le2⟩⟩
    have ret : (qq gs n a).length = a ∨ 240 < (qq gs n a).length → Q (.ref d) H' := fun h => q d H' _ sm hd0 dw ⟨a, rfl, le, h⟩
    have hxl : xs.length = (qq gs n a).length - a := by
      rw [Paired.length hxs, List.length_drop, List.length_map]
    refine ⟨_, rfl, !xs.isEmpty, .inl ⟨xs, SqL.of hlv', rfl⟩, ?_⟩
    refine ite2 (fun h => ?_) (fun h => ?_)
    rotate_left
    · refine iteF ⟨_, rfl, ret (.inl ?_)⟩
      cases xs with
      | nil => simp at hxl; omega
      | cons x xs => exact absurd rfl h
    obtain ⟨kvs, hkv, pkv⟩ := dw
    have hkl : kvs.length = (qq gs n a).length := Paired.length pkv
    refine ⟨_, rfl, d, kvs, rfl, hkv, _, _, rfl, rfl, _, rfl, ite2 (fun h2 => ?_) (fun h2 => ?_)⟩
    rotate_left
    · have h2 : ¬ ((kvs.length : Int) ≤ 240) := fun z => h2 (decide_eq_true z)
      exact ⟨_, rfl, ret (.inr (by omega))⟩
    have h2 : (kvs.length : Int) ≤ 240 := of_decide_eq_true h2
    have hpos : a < (qq gs n a).length := by
      cases xs with
      | nil => simp at h
      | cons x xs => rw [List.length_cons] at hxl; omega
    refine ⟨fun σ2 H2 => WS H (.ref pm) (.ref b) n gs d (qq gs n a).length σ2 H2, fun σ2 H2 hw => ⟨240 - (qq gs n a).length, by omega, _, rfl, hw⟩, ?_⟩
    -- longer = []
    refine ⟨Nat.zero_le _, fun lg hlg => ?_⟩
    have hlg0 : H lg = none := sm.free hlg
    have sl := same_new (o := .lst []) hlg
    obtain ⟨mxs, hpm, hmx⟩ := hms
    have hlvg : lv ≠ lg := ne_of_none hlv' hlg
    have hdg : d ≠ lg := ne_of_none hkv hlg
    have hlv0 : ∀ H2 : Hp, Same H' H2 → H2 lv = some (.lst xs) := fun H2 s => s _ _ hlv'
    refine ⟨_, rfl, lv, rfl, ⟨_, SqL.of (sl _ _ hlv')⟩, for_list (K := K) (a := lv) (xs := xs)
      (fun i σ2 H2 => ∃ y6 y7 y8 y9 M, σ2 = [some (.ref pm), some (nI n), some (.ref b), some (.ref d), some (.ref lv), some (.ref lg), y6, y7, y8, y9] ∧ Same H H2 ∧ qq gs n (a + i) = qq gs n a ++ M ∧ DW H2 d (qq gs n (a + i)) ∧ LT H2 lg (M.map (·.1)) ∧ H2 lv = some (.lst xs) ∧ Paired (TN H2) xs (((qq gs n a).map (·.1)).drop a))
      ⟨x6, x7, x8, x9, [], rfl, sm.trans sl, by rw [List.append_nil]; rfl, DW.same ⟨kvs, hkv, pkv⟩ sl, ⟨[], upd_same, .nil⟩, sl _ _ hlv', TNs.tm (.of sl) hxs⟩
      (fun i σ2 H2 _ ⟨_, _, _, _, _, _, _, _, _, _, h, _⟩ => SqL.of h) ?_ ?_⟩
    · rintro i x σ2 H2 hi ⟨y6, y7, y8, y9, M, rfl, sm2, eM, dw2, lt2, hlv2, hx2⟩
      obtain ⟨t, ht, htn⟩ := Paired.getL hx2 hi
      rw [List.getElem?_drop, List.getElem?_map] at ht
      obtain ⟨⟨t', w'⟩, hq, et⟩ := Option.map_eq_some_iff.mp ht
      have et : t' = t := et
      subst et
      have hstep := qq_step eM hq
      have htP : IsP n t' := Mk.isP hg (qq_mk gs n a t' (List.mem_map.mpr ⟨_, List.mem_of_getElem? hq, rfl⟩))
      refine ⟨_, rfl, pm, _, rfl, SqL.of (sm2 _ _ hpm), for_enumL (K := K) (xs := mxs)
        (fun j σ3 H3 => ∃ z7 z8 z9 M', σ3 = [some (.ref pm), some (nI n), some (.ref b), some (.ref d), some (.ref lv), some (.ref lg), some x, z7, z8, z9] ∧ Same H H3 ∧ grow t' w' (gs.take j) 0 (qq gs n (a + i)) = qq gs n a ++ M' ∧ DW H3 d (qq gs n a ++ M') ∧ LT H3 lg (M'.map (·.1)) ∧ H3 lv = some (.lst xs) ∧ Paired (TN H3) xs (((qq gs n a).map (·.1)).drop a))
        ⟨y7, y8, y9, M, rfl, sm2, eM, by rw [← eM]; exact dw2, lt2, hlv2, hx2⟩ (fun j σ3 H3 _ ⟨_, _, _, _, _, s, _⟩ => SqL.of (s _ _ hpm)) ?_ ?_⟩
      · rintro j y σ3 H3 T hj ⟨z7, z8, z9, M', rfl, sm3, eM', dw3, ⟨gz, hgz, pgz⟩, hlv3, hx3⟩ hT
        obtain ⟨g, hgj, hyg⟩ := Paired.getL hmx hj
        have hgP := hg g (List.mem_of_getElem? hgj)
        have sT := same_new (o := .tup [nI j, y]) hT
        refine ⟨T, _, rfl, SqT.of upd_same, rfl, nI j, _, rfl, y, _, rfl, rfl, ?_⟩
        obtain ⟨t2, ht2, htn3⟩ := Paired.getL hx3 hi
        rw [List.getElem?_drop, List.getElem?_map, hq] at ht2
        have ht2 : t' = t2 := Option.some.inj ht2
        subst ht2
        refine ⟨_, rfl, _, rfl, pr_call (htn3.tm (.of sT)) (hyg.tm (.of (sm3.trans sT))) htP hgP hn fun v H4 s4 hv => ?_⟩
        have s34 : Same H3 H4 := sT.trans s4
        have hvP := htP.prod hgP
        obtain ⟨b1, rfl, hb1⟩ := hv.key
        obtain ⟨kv4, hk4, pk4⟩ := dw3.same s34
        have hgz4 := s34 _ _ hgz
        have pgz4 := TNs.tm (.of s34) pgz
        have hlv4 := s34 _ _ hlv3
        have hx4 := TNs.tm (.of s34) hx3
        have hnd : ((qq gs n a ++ M').map (·.1)).Nodup := by rw [← eM']; exact grow_nd _ _ _ _ _ (qq_nd gs n (a + i))
        have hnx := grow_next (t := t') (w := w') hgj (qq gs n (a + i))
        rw [eM'] at hnx
        have sm4 : Same H H4 := sm3.trans s34
        refine ⟨_, rfl, _, rfl, d, _, rfl, DGet.t hk4 hb1, _, rfl, ?_⟩
        rw [dw_isSome pk4 hnd]
        by_cases hin : prod t' g ∈ (qq gs n a ++ M').map (·.1)
        · rw [if_pos hin] at hnx
          rw [decide_eq_true hin]
          exact iteF ⟨_, _, _, M', rfl, sm4, hnx, ⟨kv4, hk4, pk4⟩, ⟨gz, hgz4, pgz4⟩, hlv4, hx4⟩
        · rw [if_neg hin] at hnx
          rw [decide_eq_false hin]
          refine iteT ?_
          have hmem : (t', w') ∈ qq gs n a ++ M' := List.mem_append.mpr (.inl (List.mem_of_getElem? hq))
          obtain ⟨wv, hwv, hwn⟩ := dw_some pk4 hnd hmem
          obtain ⟨b2, rfl, hb2⟩ := (htn3.tm (.of s34)).key
          obtain ⟨pw, rfl, hpw⟩ := hwn
          have hwl : w'.length ≤ 240 := Nat.le_trans (qq_w gs n a _ (List.mem_of_getElem? hq)) le2
          refine ⟨_, rfl, _, rfl, d, .ref pw, kv4, _, _, rfl, rfl, .inl hk4, hb2, hwv, _, rfl, by show 1 ≤ sizeLine; decide, fun p hp => ?_⟩
          have s5 := same_new (o := .tup [nI j]) hp
          refine catA_tn (hpw.sm s5) upd_same (by omega) fun v5 H5 s6 hv5 => ?_
          have s45 := s5.trans s6
          have hk5 := s45 _ _ hk4
          have hkl4 : kv4.length = (grow t' w' (gs.take j) 0 (qq gs n (a + i))).length := by rw [Paired.length pk4, ← eM']
          have hsz : kv4.length ≤ 1000000 := by
            have h0 := grow_len t' w' (gs.take j) 0 (qq gs n (a + i))
            have h1 := qq_len_le gs n a i
            have h3 : i ≤ 240 := by
              have := (List.getElem?_eq_some_iff.mp hq).1
              omega
            have h4 : i * gs.length ≤ 240 * 1000 := Nat.mul_le_mul h3 hgl
            rw [List.length_take] at h0
            omega
          refine ⟨_, rfl, _, rfl, d, _, rfl, DPut.t hk5 (s45 _ _ hb1) (by rw [sizeLine_eq]; omega), ?_⟩
          rw [putK_new v5 (dw_none pk4 hin)]
          have t6 : Tm H5 (upd H5 d (.dT (kv4 ++ [(keyN (prod t' g), v5)]))) := Tm.dT hk5
          have hg6 : (upd H5 d (.dT (kv4 ++ [(keyN (prod t' g), v5)]))) lg = some (.lst gz) := by
            rw [upd_ne (ne_of hgz4 hk4 (fun z => nomatch z))]
            exact s45 _ _ hgz4
          have hgzl : gz.length ≤ kv4.length := by
            rw [Paired.length pgz, Paired.length pk4, List.length_map, List.length_append]
            omega
          refine ⟨_, rfl, .inl ⟨rfl, _, SqL.of hg6⟩, _, rfl, lg, _, _, rfl, rfl, hg6, by rw [sizeLine_eq]; omega, ?_⟩
          have t7 := Tm.lst (o := .lst (gz ++ [.ref b1])) hg6
          have tt := (Tm.of s45).trans (t6.trans t7)
          refine ⟨_, _, _, M' ++ [(prod t' g, w' ++ [j])], rfl, ?_, ?_, ⟨kv4 ++ [(keyN (prod t' g), v5)], ?_, ?_⟩, ⟨gz ++ [.ref b1], upd_same, ?_⟩, ?_, TNs.tm tt hx4⟩
          · exact same_mut (same_mut (sm4.trans s45) hd0) hlg0
          · rw [hnx, List.append_assoc]
          · rw [upd_ne hdg, upd_same]
          · rw [← List.append_assoc]
            exact Paired.app (DEs.tm tt pk4) (Paired.one ⟨rfl, hv5.tm (t6.trans t7)⟩)
          · rw [List.map_append]
            exact Paired.app (TNs.tm tt pgz4) (Paired.one (hv.tn.tm tt))
          · rw [upd_ne hlvg, upd_ne (ne_of hlv4 hk4 (fun z => nomatch z))]
            exact s45 _ _ hlv4
      · rintro σ3 H3 ⟨z7, z8, z9, M', rfl, sm3, eM', dw3, lt3, hlv3, hx3⟩
        have e : gs.take mxs.length = gs := by rw [Paired.length hmx, List.take_length]
        rw [e] at eM'
        refine ⟨_, _, _, _, M', rfl, sm3, ?_, ?_, lt3, hlv3, hx3⟩
        · show qq gs n (a + i + 1) = _
          rw [hstep, eM']
        · show DW H3 d (qq gs n (a + i + 1))
          rw [hstep, eM']
          exact dw3
    · rintro σ2 H2 ⟨y6, y7, y8, y9, M, rfl, sm2, eM, dw2, lt2, hlv2, hx2⟩
      have e : a + xs.length = (qq gs n a).length := by omega
      rw [e] at eM dw2
      refine ⟨_, rfl, ⟨⟨lg, _, _, _, _, _, rfl, ?_⟩, sm2, dw2, ?_, by omega⟩⟩
      · rw [eM, List.map_append, List.drop_append_of_le_length (by rw [List.length_map]; exact Nat.le_refl _), List.drop_of_length_le (by rw [List.length_map]; exact Nat.le_refl _), List.nil_append]
        exact lt2
      · rw [eM, List.length_append]
        omega
end
end Lt

set_option Elab.async false
set_option linter.all false
set_option maxRecDepth 100000
set_option maxHeartbeats 2000000
namespace Lt
open PySem PySem.Spec PyProof.Rows L2
/-- a list of turns that are keys -/
def LK (H : Hp) (a : Addr) (ts : List (List Nat)) : Prop := ∃ xs, H a = some (.lst xs) ∧ Paired (TK H) xs ts
theorem TKs.tm {H H' : Hp} (e : Tm H H') {xs : List V} {ts : List (List Nat)} (p : Paired (TK H) xs ts) : Paired (TK H') xs ts := paired_mono (fun _ _ r => TK.tm e r) p
/-- a dict with these turns as keys -/
def DKs (H : Hp) (d : Addr) (ks : List (List Nat)) : Prop := ∃ kvs, H d = some (.dT kvs) ∧ kvs.map (·.1) = ks.map keyN
theorem DW.dks {H : Hp} {d : Addr} {L : List (List Nat × List Nat)} (h : DW H d L) : DKs H d (L.map (·.1)) := by
  obtain ⟨kvs, h1, p⟩ := h
  refine ⟨kvs, h1, ?_⟩
  clear h1
  induction p with
  | nil => rfl
  | cons r _ ih => rw [List.map_cons, List.map_cons, List.map_cons, ih, r.1]
theorem dks_isSome : ∀ {kvs : List (List Key × V)} {ks : List (List Nat)}, kvs.map (·.1) = ks.map keyN → ∀ t, (valV kvs (keyN t)).isSome = decide (t ∈ ks)
  | [], ks, h, t => by
    cases ks with
    | nil => rfl
    | cons k ks => cases h
  | kv :: kvs, ks, h, t => by
    cases ks with
    | nil => cases h
    | cons k ks =>
      injection h with h1 h2
      have ih := dks_isSome h2 t
      have h1 : kv.1 = keyN k := h1
      by_cases hk : k = t
      · subst hk
        rw [valV_pos h1, decide_eq_true (List.mem_cons_self)]
        rfl
      · rw [valV_neg (by rw [h1]; exact fun z => hk (keyN_inj z)), ih]
        exact decide_eq_decide.mpr ⟨fun z => List.mem_cons_of_mem _ z, fun z => (List.mem_cons.mp z).resolve_left (fun y => hk y.symm)⟩
theorem Mk.nil {n : Nat} {t : List Nat} (h : Mk [] n t) : t = List.range n := by
  induction h with
  | still => rfl
  | step _ hg _ => cases hg
section
variable {P : Program} {w : World} {K : PySem.W.Frag} {mg : Str → Option Value} {base : Heap}
theorem sc_group_of : FnScope ["makers", "size", "few", "turns", "known", "maker"] ["makers", "size"] (defScope s_group_of) := ⟨rfl, rfl, rfl, by decide +kernel, rfl, by decide +kernel, by decide +kernel⟩
end
end Lt

set_option Elab.async false
set_option linter.all false
set_option maxRecDepth 100000
set_option maxHeartbeats 2000000
namespace Lt
open PySem PySem.Spec PyProof.Rows L2
/-- the commutators of the turns ts with the makers ms, in the order of the program -/
def brk (ts ms : List (List Nat)) : List (List Nat) := ts.flatMap fun t => ms.map (cm t)
theorem brk_next {ts ms : List (List Nat)} {i : Nat} {t : List Nat} (h : ts[i]? = some t) : brk (ts.take (i + 1)) ms = brk (ts.take i) ms ++ ms.map (cm t) := by
  unfold brk
  rw [List.take_add_one, h, List.flatMap_append]
  simp
theorem brk_mem {ts ms : List (List Nat)} {b : List Nat} : b ∈ brk ts ms ↔ ∃ t ∈ ts, ∃ g ∈ ms, b = cm t g := by
  unfold brk
  rw [List.mem_flatMap]
  exact ⟨fun ⟨t, h1, h2⟩ => ⟨t, h1, by obtain ⟨g, h3, h4⟩ := List.mem_map.mp h2; exact ⟨g, h3, h4.symm⟩⟩, fun ⟨t, h1, g, h2, e⟩ => ⟨t, h1, List.mem_map.mpr ⟨g, h2, e.symm⟩⟩⟩
theorem brk_len (ts ms : List (List Nat)) : (brk ts ms).length = ts.length * ms.length := by
  induction ts with
  | nil => simp [brk]
  | cons t ts ih =>
    have e : brk (t :: ts) ms = ms.map (cm t) ++ brk ts ms := by unfold brk; rw [List.flatMap_cons]
    rw [e, List.length_append, List.length_map, ih, List.length_cons, Nat.succ_mul, Nat.add_comm]
section
variable {P : Program} {w : World} {K : PySem.W.Frag} {mg : Str → Option Value} {base : Heap}
theorem sc_brackets_made : FnScope ["term", "makers", "brackets", "turn", "maker"] ["term", "makers"] (defScope s_brackets_made) := ⟨rfl, rfl, rfl, by decide +kernel, rfl, by decide +kernel, by decide +kernel⟩
end
end Lt

set_option Elab.async false
set_option linter.all false
set_option maxRecDepth 100000
set_option maxHeartbeats 2000000
namespace Lt
open PySem PySem.Spec PyProof.Rows L2
section
variable {P : Program} {w : World} {K : PySem.W.Frag} {mg : Str → Option Value} {base : Heap}
end
end Lt

set_option Elab.async false
set_option linter.all false
set_option maxRecDepth 100000
set_option maxHeartbeats 2000000
namespace Lt
open PySem PySem.Spec PyProof.Rows L2
/-- the next term: all that the commutators make, ascending -/
structure Nx (ms : List (List Nat)) (n : Nat) (A B : List (List Nat)) : Prop where
  nd : B.Nodup
  asc : Asc B
  mem : ∀ t, t ∈ B ↔ Mk (brk A ms) n t
/-- a series of terms, each the next one, up to the last that is less -/
structure Ser (ms : List (List Nat)) (n : Nat) (T0 : List (List Nat)) (Ts : List (List (List Nat))) : Prop where
  head : Ts[0]? = some T0
  step : ∀ i A B, Ts[i]? = some A → Ts[i + 1]? = some B → Nx ms n A B ∧ B.length ≠ A.length
  stop : ∀ i A, Ts[i]? = some A → Ts[i + 1]? = none → ∃ B, Nx ms n A B ∧ B.length = A.length
/-- a term: closed, and closed under commutators with ms -/
structure Tm1 (ls ms : List (List Nat)) (n : Nat) (A : List (List Nat)) : Prop where
  sub : ∀ t ∈ A, Mk ls n t
  still : List.range n ∈ A
  pr : ∀ a ∈ A, ∀ b ∈ A, prod a b ∈ A
  cm : ∀ t ∈ A, ∀ g ∈ ms, cm t g ∈ A
theorem Tm1.next {ls ms : List (List Nat)} {n : Nat} {A B : List (List Nat)} (hls : ∀ g ∈ ls, IsP n g) (hms : ∀ g ∈ ms, IsP n g) (h : Tm1 ls ms n A) (hx : Nx ms n A B) : Tm1 ls ms n B ∧ ∀ t ∈ B, t ∈ A := by
  have hA : ∀ t ∈ A, IsP n t := fun t ht => (h.sub t ht).isP hls
  have hb : ∀ b ∈ brk A ms, b ∈ A := fun b hb => by
    obtain ⟨t, h1, g, h2, rfl⟩ := brk_mem.mp hb
    exact h.cm t h1 g h2
  have hbP : ∀ b ∈ brk A ms, IsP n b := fun b hb' => hA b (hb b hb')
  have sub : ∀ t, Mk (brk A ms) n t → t ∈ A := fun t ht => by
    induction ht with
    | still => exact h.still
    | step _ hg ih => exact h.pr _ ih _ (hb _ hg)
  refine ⟨⟨fun t ht => h.sub t (sub t ((hx.mem t).mp ht)), (hx.mem _).mpr .still, fun a ha b hb' => (hx.mem _).mpr (((hx.mem a).mp ha).prod hbP ((hx.mem b).mp hb')), fun t ht g hg => ?_⟩, fun t ht => sub t ((hx.mem t).mp ht)⟩
  exact (hx.mem _).mpr (.one hbP (brk_mem.mpr ⟨t, sub t ((hx.mem t).mp ht), g, hg, rfl⟩))
theorem Tm1.whole {ls : List (List Nat)} {n m : Nat} {T0 : List (List Nat)} (hls : ∀ g ∈ ls, IsP n g) (hf : Few ls n m) (hT : ∀ t, t ∈ T0 ↔ Mk ls n t) : Tm1 ls ls n T0 := by
  refine ⟨fun t ht => (hT t).mp ht, (hT _).mpr .still, fun a ha b hb => (hT _).mpr (((hT a).mp ha).prod hls ((hT b).mp hb)), fun t ht g hg => (hT _).mpr ?_⟩
  have h1 := (hT t).mp ht
  have h2 := Mk.one hls hg
  exact (h1.prod hls h2).prod hls ((h2.prod hls h1).inv hls hf)
theorem TTs.tm {H H' : Hp} (e : Tm H H') {xs : List V} {Ts : List (List (List Nat))} (p : Paired (TT H) xs Ts) : Paired (TT H') xs Ts := paired_mono (fun _ _ r => TT.tm e r) p
section
variable {P : Program} {w : World} {K : PySem.W.Frag} {mg : Str → Option Value} {base : Heap} {CL CM : Addr}
theorem sc_lower : FnScope ["lock", "terms", "_", "term"] ["lock"] (defScope s_lower) := ⟨rfl, rfl, rfl, by decide +kernel, rfl, by decide +kernel, by decide +kernel⟩
end
end Lt

set_option Elab.async false
set_option linter.all false
set_option maxRecDepth 100000
set_option maxHeartbeats 1000000
/-! turns called otherwise: what is kept -/
namespace Lt
open PySem PySem.Spec PyProof.Rows L2
theorem cjCj {n : Nat} {s t : List Nat} (hs : IsP n s) (ht : IsP n t) : cj s (cj (inv s) t) = t := by
  have A : ∀ x y z, IsP n x → IsP n y → prod (prod x y) z = prod x (prod y z) := fun x y z a b => pas z a b
  have I2 : ∀ x, IsP n x → inv (inv x) = x := fun x a => inv_inv a
  have C1 : ∀ x z, IsP n x → IsP n z → prod (inv x) (prod x z) = z := fun x z a b => pc1 a b
  have C3 : ∀ x, IsP n x → prod (inv x) x = List.range n := fun x a => prod_inv_l a
  have S : ∀ x, IsP n x → prod x (List.range n) = x := fun x a => prod_still_r a.lt
  have Pr : ∀ x y, IsP n x → IsP n y → IsP n (prod x y) := fun x y a b => a.prod b
  have V : ∀ x, IsP n x → IsP n (inv x) := fun x a => a.inv
  unfold cj
  simp (maxDischargeDepth := 30) only [A, I2, C1, C3, S, Pr, V, hs, ht]
theorem cjCj2 {n : Nat} {s t : List Nat} (hs : IsP n s) (ht : IsP n t) : cj (inv s) (cj s t) = t := by
  have := cjCj hs.inv ht
  rw [inv_inv hs] at this
  exact this
theorem cj_inj {n : Nat} {s t u : List Nat} (hs : IsP n s) (ht : IsP n t) (hu : IsP n u) (h : cj s t = cj s u) : t = u := by
  rw [← cjCj2 hs ht, h, cjCj2 hs hu]
theorem mkCj {gs : List (List Nat)} {n : Nat} {s : List Nat} (hg : ∀ g ∈ gs, IsP n g) (hs : IsP n s) {t : List Nat} (h : Mk gs n t) : Mk (gs.map (cj s)) n (cj s t) := by
  induction h with
  | still => rw [cj_still hs]; exact .still
  | @step a g ha hm ih =>
    rw [cj_prod hs (ha.isP hg) (hg g hm)]
    exact .step ih (List.mem_map.mpr ⟨g, hm, rfl⟩)
theorem cj_inv {n : Nat} {s t : List Nat} (hs : IsP n s) (ht : IsP n t) : cj s (inv t) = inv (cj s t) :=
  inv_unique (cj_isP hs ht) (cj_isP hs ht.inv) (by rw [← cj_prod hs ht ht.inv, prod_inv_r ht, cj_still hs])
theorem cj_pw {n : Nat} {s t : List Nat} (hs : IsP n s) (ht : IsP n t) : ∀ k, cj s (pw n t k) = pw n (cj s t) k
  | 0 => cj_still hs
  | k + 1 => by
    show cj s (prod (pw n t k) t) = prod (pw n (cj s t) k) (cj s t)
    rw [cj_prod hs (pw_isP ht k) ht, cj_pw hs ht k]
theorem cj_cm {n : Nat} {s a b : List Nat} (hs : IsP n s) (ha : IsP n a) (hb : IsP n b) : cj s (cm a b) = cm (cj s a) (cj s b) := by
  unfold cm
  rw [cj_prod hs (ha.prod hb) (hb.prod ha).inv, cj_inv hs (hb.prod ha), cj_prod hs ha hb, cj_prod hs hb ha]
/-- these are those, their places called otherwise -/
structure Rn (s : List Nat) (n : Nat) (A' A : List (List Nat)) : Prop where
  p : ∀ x ∈ A, IsP n x
  e : ∀ x, x ∈ A' ↔ ∃ y ∈ A, x = cj s y
namespace Rn
variable {s : List Nat} {n : Nat} {A' A B' B : List (List Nat)}
theorem nil : Rn s n [] [] := ⟨fun _ h => (nomatch h), fun x => Iff.intro (fun h => by cases h) (fun ⟨_, h, _⟩ => by cases h)⟩
theorem app (a : Rn s n A' A) (b : Rn s n B' B) : Rn s n (A' ++ B') (A ++ B) := by
  refine ⟨fun x hx => (List.mem_append.mp hx).elim (a.p x) (b.p x), fun x => ?_⟩
  rw [List.mem_append, a.e, b.e]
  constructor
  · rintro (⟨y, h, e⟩ | ⟨y, h, e⟩)
    · exact ⟨y, List.mem_append_left _ h, e⟩
    · exact ⟨y, List.mem_append_right _ h, e⟩
  · rintro ⟨y, h, e⟩
    rcases List.mem_append.mp h with h | h
    · exact .inl ⟨y, h, e⟩
    · exact .inr ⟨y, h, e⟩
theorem map {f f' : List Nat → List Nat} (a : Rn s n A' A) (hP : ∀ x, IsP n x → IsP n (f x)) (hf : ∀ x, IsP n x → cj s (f x) = f' (cj s x)) : Rn s n (A'.map f') (A.map f) := by
  refine ⟨fun x hx => ?_, fun x => ?_⟩
  · obtain ⟨y, hy, rfl⟩ := List.mem_map.mp hx
    exact hP y (a.p y hy)
  · rw [List.mem_map]
    constructor
    · rintro ⟨z, hz, rfl⟩
      obtain ⟨y, hy, rfl⟩ := (a.e z).mp hz
      exact ⟨f y, List.mem_map.mpr ⟨y, hy, rfl⟩, (hf y (a.p y hy)).symm⟩
    · rintro ⟨w, hw, rfl⟩
      obtain ⟨y, hy, rfl⟩ := List.mem_map.mp hw
      exact ⟨cj s y, (a.e _).mpr ⟨y, hy, rfl⟩, (hf y (a.p y hy)).symm⟩
theorem of_map (hP : ∀ x ∈ A, IsP n x) : Rn s n (A.map (cj s)) A := by
  refine ⟨hP, fun x => ?_⟩
  rw [List.mem_map]
  exact ⟨fun ⟨y, h, e⟩ => ⟨y, h, e.symm⟩, fun ⟨y, h, e⟩ => ⟨y, h, e.symm⟩⟩
theorem p' (hs : IsP n s) (a : Rn s n A' A) : ∀ x ∈ A', IsP n x := fun x hx => by
  obtain ⟨y, hy, rfl⟩ := (a.e x).mp hx
  exact cj_isP hs (a.p y hy)
theorem mkI (hs : IsP n s) (a : Rn s n A' A) {t : List Nat} (ht : IsP n t) : Mk A' n (cj s t) ↔ Mk A n t := by
  have hm : ∀ x ∈ A.map (cj s), IsP n x := fun x hx => by
    obtain ⟨y, hy, rfl⟩ := List.mem_map.mp hx
    exact cj_isP hs (a.p y hy)
  constructor
  · intro h
    have h2 : Mk (A.map (cj s)) n (cj s t) := h.mono hm fun x hx => by
      obtain ⟨y, hy, rfl⟩ := (a.e x).mp hx
      exact .one hm (List.mem_map.mpr ⟨y, hy, rfl⟩)
    obtain ⟨u, hu, e⟩ := h2.cj a.p hs
    rw [cj_inj hs ht (hu.isP a.p) e]
    exact hu
  · intro h
    exact (mkCj a.p hs h).mono (a.p' hs) fun x hx => by
      obtain ⟨y, hy, rfl⟩ := List.mem_map.mp hx
      exact .one (a.p' hs) ((a.e _).mpr ⟨y, hy, rfl⟩)
theorem mk2 (hs : IsP n s) (a : Rn s n A' A) {u : List Nat} : Mk A' n u ↔ ∃ t, Mk A n t ∧ u = cj s t := by
  constructor
  · intro h
    have hu := h.isP (a.p' hs)
    refine ⟨cj (inv s) u, ?_, (cjCj hs hu).symm⟩
    rw [← a.mkI hs (cj_isP hs.inv hu), cjCj hs hu]
    exact h
  · rintro ⟨t, h, rfl⟩
    exact (a.mkI hs (h.isP a.p)).mpr h
theorem len (hs : IsP n s) (a : Rn s n A' A) (n1 : A'.Nodup) (n2 : A.Nodup) : A'.length = A.length := by
  have nd : (A.map (cj s)).Nodup := by
    refine List.pairwise_map.mpr (List.Pairwise.imp_of_mem (fun {x y} hx hy h => ?_) n2)
    exact fun e => h (cj_inj hs (a.p x hx) (a.p y hy) e)
  have pm : A'.Perm (A.map (cj s)) := (List.perm_ext_iff_of_nodup n1 nd).mpr fun x => by
    rw [a.e, List.mem_map]
    exact ⟨fun ⟨y, h, e⟩ => ⟨y, h, e.symm⟩, fun ⟨y, h, e⟩ => ⟨y, h, e.symm⟩⟩
  rw [pm.length_eq, List.length_map]
end Rn
/-- what these make has it -/
def inS (n : Nat) (ms : List (List Nat)) (t : List Nat) : Bool := decide (t ∈ (LL ms n).map (·.1))
/-- how many these make -/
def szS (n : Nat) (ms : List (List Nat)) : Nat := (LL ms n).length
theorem inS_mk {n m : Nat} {ms : List (List Nat)} (hf : Few ms n m) (hm : m ≤ 240) {t : List Nat} : inS n ms t = true ↔ Mk ms n t := by
  unfold inS
  rw [decide_eq_true_iff]
  exact LL_mem hf hm t
theorem szS_of {n : Nat} {ms us : List (List Nat)} (hf : Few ms n 63) (nd : us.Nodup) (h : ∀ t, t ∈ us ↔ Mk ms n t) : us.length = szS n ms := by
  have pm : us.Perm ((LL ms n).map (·.1)) := (List.perm_ext_iff_of_nodup nd (LL_nd ms n)).mpr fun t => (h t).trans (LL_mem hf (by decide) t).symm
  rw [pm.length_eq, List.length_map]
  rfl
namespace Rn
variable {s : List Nat} {n : Nat} {A' A B' B : List (List Nat)}
theorem few (hs : IsP n s) (a : Rn s n A' A) {m : Nat} (hf : Few A n m) : Few A' n m := by
  obtain ⟨D, h1, h2⟩ := hf
  refine ⟨D.map (cj s), by rw [List.length_map]; exact h1, fun u hu => ?_⟩
  obtain ⟨t, ht, rfl⟩ := (a.mk2 hs).mp hu
  exact List.mem_map.mpr ⟨t, h2 t ht, rfl⟩
theorem inS (hs : IsP n s) (a : Rn s n A' A) (hf : Few A n 63) {t : List Nat} (ht : IsP n t) : Lt.inS n A' (cj s t) = Lt.inS n A t := by
  have e := (inS_mk (a.few hs hf) (by decide) (t := cj s t)).trans ((a.mkI hs ht).trans (inS_mk hf (by decide) (t := t)).symm)
  cases e1 : Lt.inS n A' (cj s t) <;> cases e2 : Lt.inS n A t <;> simp_all
theorem span (hs : IsP n s) (a : Rn s n A' A) (hf : Few A n 63) : Rn s n ((LL A' n).map (·.1)) ((LL A n).map (·.1)) := by
  refine ⟨fun x hx => ((LL_mem hf (by decide) x).mp hx).isP a.p, fun x => ?_⟩
  rw [LL_mem (a.few hs hf) (by decide), a.mk2 hs]
  exact ⟨fun ⟨t, h, e⟩ => ⟨t, (LL_mem hf (by decide) t).mpr h, e⟩, fun ⟨t, h, e⟩ => ⟨t, (LL_mem hf (by decide) t).mp h, e⟩⟩
theorem szS (hs : IsP n s) (a : Rn s n A' A) (hf : Few A n 63) : Lt.szS n A' = Lt.szS n A := by
  have := (a.span hs hf).len hs (LL_nd _ _) (LL_nd _ _)
  rw [List.length_map, List.length_map] at this
  exact this
theorem brk (hs : IsP n s) (a : Rn s n A' A) (b : Rn s n B' B) : Rn s n (Lt.brk A' B') (Lt.brk A B) := by
  refine ⟨fun x hx => ?_, fun x => ?_⟩
  · obtain ⟨t, ht, g, hg, rfl⟩ := brk_mem.mp hx
    exact (a.p t ht).cm (b.p g hg)
  · rw [brk_mem]
    constructor
    · rintro ⟨t, ht, g, hg, rfl⟩
      obtain ⟨t2, ht2, rfl⟩ := (a.e t).mp ht
      obtain ⟨g2, hg2, rfl⟩ := (b.e g).mp hg
      exact ⟨cm t2 g2, brk_mem.mpr ⟨t2, ht2, g2, hg2, rfl⟩, (cj_cm hs (a.p t2 ht2) (b.p g2 hg2)).symm⟩
    · rintro ⟨y, hy, rfl⟩
      obtain ⟨t, ht, g, hg, rfl⟩ := brk_mem.mp hy
      exact ⟨cj s t, (a.e _).mpr ⟨t, ht, rfl⟩, cj s g, (b.e _).mpr ⟨g, hg, rfl⟩, cj_cm hs (a.p t ht) (b.p g hg)⟩
end Rn
/-- a series of terms, worked out -/
def serF (gs : List (List Nat)) (n : Nat) : Nat → List (List Nat) → List (List (List Nat))
  | 0, A => [A]
  | f + 1, A => if ((LL (brk A gs) n).map (·.1)).length = A.length then [A] else A :: serF gs n f ((LL (brk A gs) n).map (·.1))
theorem ser_len {ls T0 : List (List Nat)} {n m : Nat} {Ts : List (List (List Nat))} (hls : ∀ g ∈ ls, IsP n g) (hf : Few ls n m) (hT : ∀ t, t ∈ T0 ↔ Mk ls n t) (nd : T0.Nodup) (h : Ser ls n T0 Ts) : ∀ (i : Nat) (A : List (List Nat)), Ts[i]? = some A → Tm1 ls ls n A ∧ A.Nodup ∧ i + A.length ≤ T0.length
  | 0, A, e => by
    rw [h.head] at e
    cases e
    exact ⟨Tm1.whole hls hf hT, nd, by omega⟩
  | i + 1, B, e => by
    have hi : i < Ts.length := by have := (List.getElem?_eq_some_iff.mp e).1; omega
    have ea : Ts[i]? = some Ts[i] := List.getElem?_eq_getElem hi
    obtain ⟨a1, a2, a3⟩ := ser_len hls hf hT nd h i _ ea
    obtain ⟨nx, ne⟩ := h.step i _ _ ea e
    obtain ⟨b1, b2⟩ := a1.next hls hls nx
    have := nodup_len B _ nx.nd b2
    exact ⟨b1, nx.nd, by omega⟩
theorem ser_go {gs ls T0 : List (List Nat)} {n : Nat} {s : List Nat} {Ts : List (List (List Nat))} (hs : IsP n s) (hgs : ∀ g ∈ gs, IsP n g) (hf : Few gs n 60) (hls : Rn s n ls gs) (hT : ∀ t, t ∈ T0 ↔ Mk ls n t) (nd : T0.Nodup) (h : Ser ls n T0 Ts) :
    ∀ (f i : Nat) (A' A : List (List Nat)), Ts[i]? = some A' → Rn s n A' A → A.Nodup → (∀ t ∈ A, Mk gs n t) → Ts.length ≤ i + f → Paired (Rn s n) (Ts.drop i) (serF gs n f A)
  | 0, i, A', A, e, _, _, _, l => by
    have := (List.getElem?_eq_some_iff.mp e).1
    omega
  | f + 1, i, A', A, e, r, ndA, sub, l => by
    have hi := (List.getElem?_eq_some_iff.mp e).1
    have hd : Ts.drop i = A' :: Ts.drop (i + 1) := by
      rw [List.drop_eq_getElem_cons hi]
      rw [List.getElem?_eq_getElem hi] at e
      rw [Option.some.inj e]
    have hb := r.brk hs hls
    have cmk : ∀ t, Mk (brk A gs) n t → Mk gs n t := fun t ht => ht.mono hgs fun b hb => by
      obtain ⟨x, h1, y, h2, rfl⟩ := brk_mem.mp hb
      have h1 := sub x h1
      have h2 := Mk.one hgs h2
      exact (h1.prod hgs h2).prod hgs ((h2.prod hgs h1).inv hgs hf)
    have hfb : Few (brk A gs) n 63 := (hf.mono (by decide)).sub cmk
    have hsp := hb.span hs hfb
    have lA := r.len hs (ser_len (m := 60) (hls.p' hs) (hls.few hs hf) hT nd h i A' e).2.1 ndA
    unfold serF
    rw [hd]
    cases e2 : Ts[i + 1]? with
    | none =>
      obtain ⟨B, nx, hl⟩ := h.stop i A' e e2
      have lB := (szS_of (hb.few hs hfb) nx.nd nx.mem).trans (hb.szS hs hfb)
      rw [if_pos (by rw [List.length_map]; exact lB.symm.trans (hl.trans lA)), List.drop_eq_nil_of_le (by have := List.getElem?_eq_none_iff.mp e2; omega)]
      exact .cons r .nil
    | some B =>
      obtain ⟨nx, ne⟩ := h.step i A' B e e2
      have lB := (szS_of (hb.few hs hfb) nx.nd nx.mem).trans (hb.szS hs hfb)
      rw [if_neg (by rw [List.length_map]; exact fun z => ne (lB.trans (z.trans lA.symm)))]
      refine .cons r (ser_go hs hgs hf hls hT nd h f (i + 1) B _ e2 ⟨hsp.p, fun x => ?_⟩ (LL_nd _ _) (fun t ht => cmk t ((LL_mem hfb (by decide) t).mp ht)) (by omega))
      rw [nx.mem, ← hsp.e]
      exact (LL_mem (hb.few hs hfb) (by decide) x).symm
/-- the terms of a lock whose places are called otherwise -/
theorem ser_rn {gs ls T0 : List (List Nat)} {n : Nat} {s : List Nat} {Ts : List (List (List Nat))} (hs : IsP n s) (hgs : ∀ g ∈ gs, IsP n g) (hf : Few gs n 60) (hls : Rn s n ls gs) (hT : ∀ t, t ∈ T0 ↔ Mk ls n t) (nd : T0.Nodup) (h : Ser ls n T0 Ts) : Paired (Rn s n) Ts (serF gs n 64 ((LL gs n).map (·.1))) := by
  have h0 := h.head
  have l64 : Ts.length ≤ 64 := by
    have l0 := (hls.few hs hf).le nd fun t ht => (hT t).mp ht
    cases e : Ts[Ts.length - 1]? with
    | none =>
      have := (List.getElem?_eq_some_iff.mp h0).1
      have := List.getElem?_eq_none_iff.mp e
      omega
    | some A =>
      have := (ser_len (hls.p' hs) (hls.few hs hf) hT nd h _ A e).2.2
      omega
  have hsp := hls.span hs (hf.mono (by decide))
  refine ser_go hs hgs hf hls hT nd h 64 0 T0 _ h0 ⟨hsp.p, fun x => ?_⟩ (LL_nd _ _) (fun t ht => (LL_mem hf (by decide) t).mp ht) (by omega)
  rw [hT, ← hsp.e]
  exact (LL_mem ((hls.few hs hf).mono (by decide : 60 ≤ 63)) (by decide) x).symm
end Lt

set_option Elab.async false
set_option linter.all false
set_option maxRecDepth 100000
set_option maxHeartbeats 1000000
/-! formulas: words, what may stand, and the parser -/
namespace Lt
open PySem PySem.Spec PyProof.Rows L2
abbrev Tok := Nat × Str
def wNot : Str := "not"
def wOp : Str := "("
def wCl : Str := ")"
def wVoid : Str := ""
def joins : List Str := ["and", "or", "xor"]
inductive Nd
  | E
  | W
  | C
deriving DecidableEq
/-- what is wanted behind a word, none where it cannot stand -/
def stp (ns : List Str) : List Nd → Str → Option (List Nd)
  | [], _ => none
  | .E :: r, w => if w = wNot then some (.E :: r) else if w = wOp then some (.E :: .W :: .E :: .C :: r) else if w ∈ ns then some r else none
  | .W :: r, w => if w ∈ joins then some r else none
  | .C :: r, w => if w = wCl then some r else none
theorem m1 (x : Tok) (r : List Tok) : (x :: r).map (·.2) = x.2 :: r.map (·.2) := rfl
end Lt

set_option Elab.async false
set_option linter.all false
set_option maxRecDepth 100000
set_option maxHeartbeats 1000000
/-! the words of a text -/
namespace Lt
open PySem PySem.Spec PyProof.Rows L2
def runS : Str := "abcdefghijklmnopqrstuvwxyz0123456789"
/-- text[a:b] -/
def cut (T : List Nat) (a b : Nat) : Str := ⟨((T.drop a).take (b - a)).toArray⟩
def flush (T : List Nat) (st : List Tok × Nat) (p : Nat) : List Tok := if st.2 < p then st.1 ++ [(st.2, cut T st.2 p)] else st.1
def lexStep (T : List Nat) (st : List Tok × Nat) (p c : Nat) : List Tok × Nat :=
  if c ∈ runS.cps.toList then st else (if c = 32 then flush T st p else flush T st p ++ [(p, ⟨#[c]⟩)], p + 1)
def lexFrom (T : List Nat) : List Tok × Nat → Nat → List Nat → List Tok × Nat
  | st, _, [] => st
  | st, p, c :: cs => lexFrom T (lexStep T st p c) (p + 1) cs
theorem lex_nil {T : List Nat} {st : List Tok × Nat} {p : Nat} : lexFrom T st p [] = st := by rw [lexFrom]
theorem lex_cons {T : List Nat} {st : List Tok × Nat} {p c : Nat} {cs : List Nat} : lexFrom T st p (c :: cs) = lexFrom T (lexStep T st p c) (p + 1) cs := by rw [lexFrom]
theorem lex_app {T : List Nat} : ∀ {a b : List Nat} {st : List Tok × Nat} {p : Nat}, lexFrom T st p (a ++ b) = lexFrom T (lexFrom T st p a) (p + a.length) b
  | [], b, st, p => by rw [List.nil_append, lex_nil]; rfl
  | c :: a, b, st, p => by
    rw [List.cons_append, lex_cons, lex_cons, lex_app (a := a), List.length_cons, Nat.add_assoc, Nat.add_comm 1 a.length]
theorem flush_at {T : List Nat} {F : List Tok} {p : Nat} : flush T (F, p) p = F := by
  unfold flush
  rw [if_neg (Nat.lt_irrefl _)]
theorem lex_sp {T : List Nat} {st : List Tok × Nat} {p : Nat} : lexFrom T st p [32] = (flush T st p, p + 1) := by
  rw [lex_cons, lex_nil]
  unfold lexStep
  rw [if_neg (show (32 : Nat) ∉ runS.cps.toList by decide +kernel), if_pos rfl]
theorem lex_sps {T : List Nat} : ∀ {n : Nat} {st : List Tok × Nat} {p : Nat}, lexFrom T st p (List.replicate (n + 1) 32) = (flush T st p, p + (n + 1))
  | 0, st, p => lex_sp
  | n + 1, st, p => by
    rw [show List.replicate (n + 1 + 1) 32 = [32] ++ List.replicate (n + 1) 32 from rfl, lex_app, lex_sp, lex_sps, List.length_singleton, flush_at, Nat.add_assoc p, Nat.add_comm 1]
theorem lex_run {T : List Nat} : ∀ {w : List Nat} {st : List Tok × Nat} {p : Nat}, (∀ c ∈ w, c ∈ runS.cps.toList) → lexFrom T st p w = st
  | [], st, p, _ => lex_nil
  | c :: w, st, p, h => by
    rw [lex_cons]
    unfold lexStep
    rw [if_pos (h c (List.mem_cons_self ..)), lex_run fun x hx => h x (List.mem_cons_of_mem _ hx)]
def wX0 : Str := "X0"
/-- the program's words of one word of the law -/
def flat (t : Tok) : List Tok := if t.2 = wX0 then [(t.1, ("X" : Str)), (t.1 + 1, ("0" : Str))] else [t]
/-- what words there are -/
def WdT (w : Str) : Prop := (w.cps.toList ≠ [] ∧ ∀ c ∈ w.cps.toList, c ∈ runS.cps.toList) ∨ (∃ c, w = ⟨#[c]⟩ ∧ c ∉ runS.cps.toList ∧ c ≠ 32) ∨ w = wX0
theorem cut_at {A w B : List Nat} : cut (A ++ w ++ B) A.length (A.length + w.length) = ⟨w.toArray⟩ := by
  unfold cut
  rw [List.append_assoc, List.drop_left, Nat.add_sub_cancel_left, List.take_left]
theorem lex_word {A B : List Nat} {w : Str} {F : List Tok} (h : WdT w) :
    let T := A ++ w.cps.toList ++ B
    flush T (lexFrom T (F, A.length) A.length w.cps.toList) (A.length + w.cps.toList.length) = F ++ flat (A.length, w) := by
  dsimp only
  rcases h with ⟨h1, h2⟩ | ⟨c, rfl, h1, h2⟩ | rfl
  · rw [lex_run h2]
    unfold flush
    rw [if_pos (Nat.lt_add_of_pos_right (List.length_pos_iff.mpr h1)), cut_at]
    unfold flat
    have n : w ≠ wX0 := fun e => by
      subst e
      exact absurd (h2 88 (by decide +kernel)) (by decide +kernel)
    rw [if_neg n]
  · show flush (A ++ [c] ++ B) (lexFrom (A ++ [c] ++ B) (F, A.length) A.length [c]) (A.length + 1) = _
    rw [lex_cons, lex_nil]
    unfold lexStep
    rw [if_neg h1, if_neg h2, flush_at, flush_at]
    unfold flat
    have n : (⟨#[c]⟩ : Str) ≠ wX0 := fun e => by
      have h5 : (1 : Nat) = wX0.cps.size := congrArg (fun z : Str => z.cps.size) e
      exact absurd h5 (by decide +kernel)
    rw [if_neg n]
  · have e0 : wX0.cps.toList = [88, 48] := by decide +kernel
    rw [e0]
    rw [lex_cons, lex_cons, lex_nil]
    have s1 : lexStep (A ++ [88, 48] ++ B) (F, A.length) A.length 88 = (F ++ [(A.length, ⟨#[88]⟩)], A.length + 1) := by
      unfold lexStep
      rw [if_neg (show (88 : Nat) ∉ runS.cps.toList by decide +kernel), if_neg (by decide), flush_at]
    rw [s1]
    have s2 : lexStep (A ++ [88, 48] ++ B) (F ++ [(A.length, ⟨#[88]⟩)], A.length + 1) (A.length + 1) 48 = (F ++ [(A.length, ⟨#[88]⟩)], A.length + 1) := by
      unfold lexStep
      rw [if_pos (show (48 : Nat) ∈ runS.cps.toList by decide +kernel)]
    rw [s2]
    unfold flush flat
    rw [if_pos rfl, if_pos (show A.length + 1 < A.length + [88, 48].length from Nat.lt_succ_self _)]
    have c1 := cut_at (A := A ++ [88]) (w := [48]) (B := B)
    have e1 : A ++ [88] ++ [48] ++ B = A ++ [88, 48] ++ B := by simp
    rw [e1, List.length_append] at c1
    show F ++ [(A.length, ⟨#[88]⟩)] ++ [(A.length + 1, cut (A ++ [88, 48] ++ B) (A.length + [88].length) (A.length + [88].length + [48].length))] = _
    rw [c1, List.append_assoc]
    have x1 : ("X" : Str) = ⟨#[88]⟩ := by decide +kernel
    have x2 : ("0" : Str) = ⟨[48].toArray⟩ := by decide +kernel
    rw [x1, x2]
    rfl
/-- a text as the law makes it, and its words with their places -/
inductive Bt : List Nat → List Tok → Prop
  | nil : Bt [] []
  | snoc {T : List Nat} {P : List Tok} {w : Str} {n : Nat} : Bt T P → WdT w → Bt (T ++ List.replicate (n + 1) 32 ++ w.cps.toList) (P ++ [(T.length + (n + 1), w)])
theorem Bt.lex {T : List Nat} {P : List Tok} (h : Bt T P) : ∀ R, flush (T ++ R) (lexFrom (T ++ R) ([], 0) 0 T) T.length = P.flatMap flat := by
  induction h with
  | nil => intro R; rw [lex_nil]; rfl
  | @snoc T P w n h hw ih =>
    intro R
    rw [lex_app, lex_app, lex_sps]
    have e1 : T ++ List.replicate (n + 1) 32 ++ w.cps.toList ++ R = T ++ (List.replicate (n + 1) 32 ++ w.cps.toList ++ R) := by simp only [List.append_assoc]
    have e2 := ih (List.replicate (n + 1) 32 ++ w.cps.toList ++ R)
    rw [← e1] at e2
    rw [Nat.zero_add, e2]
    have l1 : (T ++ List.replicate (n + 1) 32).length = T.length + (n + 1) := by rw [List.length_append, List.length_replicate]
    have := lex_word (A := T ++ List.replicate (n + 1) 32) (B := R) (F := P.flatMap flat) hw
    dsimp only at this
    rw [l1] at this
    rw [Nat.zero_add, l1, List.length_append, l1, this, List.flatMap_append]
    rw [List.flatMap_cons, List.flatMap_nil, List.append_nil]
/-- and with one more space behind, or none -/
theorem Bt.all {T : List Nat} {P : List Tok} (h : Bt T P) (m : Nat) (hm : m < 2) : flush (T ++ List.replicate m 32) (lexFrom (T ++ List.replicate m 32) ([], 0) 0 (T ++ List.replicate m 32)) (T ++ List.replicate m 32).length = P.flatMap flat := by
  match m, hm with
  | 0, _ =>
    have := h.lex []
    rw [show List.replicate 0 32 = [] from rfl, List.append_nil] at *
    exact this
  | 1, _ =>
    have := h.lex [32]
    show flush (T ++ [32]) (lexFrom (T ++ [32]) ([], 0) 0 (T ++ [32])) (T ++ [32]).length = _
    rw [lex_app, lex_sp, Nat.zero_add, this, List.length_append]
    exact flush_at
/-! ### the law's words and the program's -/
/-- the words as the program has them -/
def toks (P : List Tok) (e : Nat) : List Tok := P.flatMap flat ++ [(e, wVoid)]
end Lt

set_option Elab.async false
set_option linter.all false
set_option maxRecDepth 100000
set_option maxHeartbeats 4000000
/-! enumerate over a str, in a for -/
namespace L2
open PySem PySem.Spec PyProof.Rows
end L2

set_option Elab.async false
set_option linter.all false
set_option maxRecDepth 100000
set_option maxHeartbeats 1000000
/-! placed_words -/
namespace Lt
open PySem PySem.Spec PyProof.Rows L2
/-- a placed word -/
def RTk (H : Hp) (v : V) (t : Tok) : Prop := ∃ a, v = .ref a ∧ H a = some (.tup [nI t.1, .str t.2])
theorem RTk.tm {H H' : Hp} {v : V} {t : Tok} (e : Tm H H') (h : RTk H v t) : RTk H' v t := let ⟨a, e1, h⟩ := h; ⟨a, e1, e.1 _ _ h⟩
theorem RTks.tm {H H' : Hp} (e : Tm H H') : ∀ {xs : List V} {ts : List Tok}, Paired (RTk H) xs ts → Paired (RTk H') xs ts
  | _, _, .nil => .nil
  | _, _, .cons r t => .cons (r.tm e) (RTks.tm e t)
section
variable {P : Program} {w : World} {K : PySem.W.Frag} {mg : Str → Option Value} {base : Heap}
end
end Lt

set_option Elab.async false
set_option linter.all false
set_option maxRecDepth 100000
set_option maxHeartbeats 1000000
/-! expected, tree_from -/
namespace Lt
open PySem PySem.Spec PyProof.Rows L2
section
variable {P : Program} {w : World} {K : PySem.W.Frag} {mg : Str → Option Value} {base : Heap} {CB : Addr}
end
end Lt

set_option Elab.async false
set_option linter.all false
set_option maxRecDepth 100000
set_option maxHeartbeats 1000000
/-! tree_from -/
namespace Lt
open PySem PySem.Spec PyProof.Rows L2
section
variable {P : Program} {w : World} {K : PySem.W.Frag} {mg : Str → Option Value} {base : Heap} {CB : Addr}
end
end Lt

set_option Elab.async false
set_option linter.all false
set_option maxRecDepth 100000
set_option maxHeartbeats 1000000
/-! check_inputs, formula_tree -/
namespace Lt
open PySem PySem.Spec PyProof.Rows L2
section
variable {P : Program} {w : World} {K : PySem.W.Frag} {mg : Str → Option Value} {base : Heap} {CB CN CS : Addr}
end
end Lt

set_option Elab.async false
set_option linter.all false
set_option maxRecDepth 100000
set_option maxHeartbeats 1000000
/-! tree_from of a formula that stands: the tree itself (for k04) -/
namespace Lt
open PySem PySem.Spec PyProof.Rows L2
section
variable {P : Program} {w : World} {K : PySem.W.Frag} {mg : Str → Option Value} {base : Heap} {CB : Addr}
end
end Lt

set_option Elab.async false
set_option linter.all false
set_option maxRecDepth 100000
set_option maxHeartbeats 1000000
/-! a comprehension over enumerate of a tuple -/
namespace Lt
open PySem PySem.Spec PyProof.Rows L2
end Lt

set_option Elab.async false
set_option linter.all false
set_option maxRecDepth 100000
set_option maxHeartbeats 1000000
/-! input_table, bits_of, worth_of -/
namespace Lt
open PySem PySem.Spec PyProof.Rows L2
def RI (_ : Hp) (v : V) (n : Int) : Prop := v = .int n
theorem RI.all {H : Hp} : ∀ {zs : List V} {t : List Int}, Paired (RI H) zs t → zs = t.map V.int
  | _, _, .nil => rfl
  | _, _, .cons r t => by rw [(show _ = V.int _ from r), RI.all t]; rfl
section
variable {P : Program} {w : World} {K : PySem.W.Frag} {mg : Str → Option Value} {base : Heap}
end
end Lt

set_option Elab.async false
set_option linter.all false
set_option maxRecDepth 100000
set_option maxHeartbeats 1000000
/-! worth_of, exactly (for k04) -/
namespace Lt
open PySem PySem.Spec PyProof.Rows L2
section
variable {P : Program} {w : World} {K : PySem.W.Frag} {mg : Str → Option Value} {base : Heap}
end
end Lt

set_option Elab.async false
set_option linter.all false
set_option maxRecDepth 100000
set_option maxHeartbeats 1000000
/-! the words of a text, without their places; what a formula comes to -/
namespace Lt
open PySem PySem.Spec PyProof.Rows L2
/-! ### what a formula comes to -/
end Lt

set_option Elab.async false
set_option linter.all false
set_option maxRecDepth 100000
set_option maxHeartbeats 1000000
/-! table_of -/
namespace Lt
open PySem PySem.Spec PyProof.Rows L2
section
variable {P : Program} {w : World} {K : PySem.W.Frag} {mg : Str → Option Value} {base : Heap} {CB : Addr}
end
end Lt

set_option Elab.async false
set_option linter.all false
set_option maxRecDepth 100000
set_option maxHeartbeats 1000000
/-! formula_tree and table_of, exactly -/
namespace Lt
open PySem PySem.Spec PyProof.Rows L2
section
variable {P : Program} {w : World} {K : PySem.W.Frag} {mg : Str → Option Value} {base : Heap} {CB CS : Addr}
end
end Lt

set_option Elab.async false
set_option linter.all false
set_option maxRecDepth 100000
set_option maxHeartbeats 1000000
/-! the law's formulas: _law_tree, _law_spelled -/
namespace Lt
open PySem PySem.Spec PyProof.Rows L2
/-- the law's name of an input -/
def xL (i : Nat) : Str := ("x" : Str) ++ Str.ofString (toString ((i : Nat) : Int))
section
variable {P : Program} {w : World} {K : PySem.W.Frag} {mg : Str → Option Value} {base : Heap}
end
end Lt

set_option Elab.async false
set_option linter.all false
set_option maxRecDepth 100000
set_option maxHeartbeats 1000000
/-! _law_first -/
namespace Lt
open PySem PySem.Spec PyProof.Rows L2
section
variable {P : Program} {w : World} {K : PySem.W.Frag} {mg : Str → Option Value} {base : Heap}
end
end Lt

set_option Elab.async false
set_option linter.all false
set_option maxRecDepth 100000
set_option maxHeartbeats 1000000
/-! the law's words -/
namespace Lt
open PySem PySem.Spec PyProof.Rows L2
end Lt

set_option Elab.async false
set_option linter.all false
set_option maxRecDepth 100000
set_option maxHeartbeats 2000000
/-! comprehensions whose parts draw from the row -/
namespace Lt
open PySem PySem.Spec PyProof.Rows L2
section
variable {K : PySem.W.Frag} {te : TE} {vs : List Nat} {σ : L2.St} {H1 : Hp} {D r sc : Addr} {ns : List Int} {Qd : Hp → Prop} {β : Type} {j : Nat}
end
end Lt

set_option Elab.async false
set_option linter.all false
set_option maxRecDepth 100000
set_option maxHeartbeats 1000000
/-! k04: the law's trees and texts -/
namespace Lt
open PySem PySem.Spec PyProof.Rows L2
section
variable {P : Program} {w : World} {K : PySem.W.Frag} {mg : Str → Option Value} {base : Heap}
/-! ### _law_text -/
end
end Lt

set_option Elab.async false
set_option linter.all false
set_option maxRecDepth 100000
set_option maxHeartbeats 1000000
/-! the law's rows of bits, what its trees come to -/
namespace Lt
open PySem PySem.Spec PyProof.Rows L2
section
variable {P : Program} {w : World} {K : PySem.W.Frag} {mg : Str → Option Value} {base : Heap}
theorem TKbs.tm {H H' : Hp} (e : Tm H H') : ∀ {xs : List V} {ts : List (List Nat)}, Paired (TK H) xs ts → Paired (TK H') xs ts
  | _, _, .nil => .nil
  | _, _, .cons r t => .cons (r.tm e) (TKbs.tm e t)
end
end Lt

set_option Elab.async false
set_option linter.all false
set_option maxRecDepth 100000
set_option maxHeartbeats 1000000
/-! what the law's tree comes to on a row of bits -/
namespace Lt
open PySem PySem.Spec PyProof.Rows L2
section
variable {X : Cx}
end
section
variable {P : Program} {w : World} {K : PySem.W.Frag} {mg : Str → Option Value} {base : Heap}
end
end Lt

set_option Elab.async false
set_option linter.all false
set_option maxRecDepth 100000
set_option maxHeartbeats 1000000
/-! a comprehension with a test, over whatever is walked -/
namespace Lt
open PySem PySem.Spec PyProof.Rows L2
def Cf {β : Type} (H1 : Hp) (D : Addr) (R : Hp → V → β → Prop) (ys : List β) (i : Nat) (H : Hp) : Prop := Same H1 H ∧ ∃ zs, H D = some (.lst zs) ∧ Paired (R H) zs ys ∧ zs.length ≤ i
theorem lc_genF {J : It} {g : TG} {tt : L2.TT} {te : TE} {vs : List Nat} {σ : L2.St} {H1 : Hp} {D : Addr} {Qd : Hp → Prop} {β : Type} {n : Nat} (R : Hp → V → β → Prop) (p : Nat → Bool) (f : Nat → β) (mono : ∀ H H' v b, Tm H H' → R H v b → R H' v b) (hz : n ≤ 100000) (hD : H1 D = none)
    (hgo : ∀ i H, i < n → Same H1 H → J.go i H) (hst : ∀ H, Same H1 H → J.stop n H)
    (hs : ∀ i H x H', i < n → Same H1 H → J.yld i H x H' → Same H H' ∧ ∃ σ2, (∀ Kk : L2.St → Hp → Prop, Kk σ2 H' → g x (wipe σ vs) H' Kk) ∧ wipe σ2 vs = wipe σ vs ∧ (∀ Q, (∀ H3, Same H' H3 → Q (p i) H3) → tt σ2 H' Q) ∧
      (p i = true → ∀ H3, Same H' H3 → ∀ Q : VK, (∀ v H4, Same H3 H4 → R H4 v (f i) → Q v H4) → te σ2 H3 Q))
    (hd : ∀ H zs, Same H1 H → H D = some (.lst zs) → Paired (R H) zs (((List.range n).filter p).map f) → Qd H) :
    ∃ W : Nat → Nat → Hp → Prop, (∃ m, W 0 m (upd H1 D (.lst []))) ∧ ∀ i m H, W i m H →
      (J.stop i H ∧ Qd H) ∨ (J.go i H ∧ ∃ Nx : Hp → Prop, (∀ H', Nx H' → ∃ m', m' < m ∧ W (i + 1) m' H') ∧ ∀ x H', J.yld i H x H' → g x (wipe σ vs) H' fun σ2 H2 => wipe σ2 vs = wipe σ vs ∧ tt σ2 H2 fun b H3 =>
        if b = true then te σ2 H3 fun y H4 => ∃ acc, H4 D = some (.lst acc) ∧ acc.length < sizeLine ∧ Nx (upd H4 D (.lst (acc ++ [y]))) else Nx H3) := by
  refine ⟨fun i m H => m = n - i ∧ i ≤ n ∧ Cf H1 D R (((List.range i).filter p).map f) i H, ⟨n, by simp, Nat.zero_le _, same_new hD, [], upd_same, .nil, Nat.le_refl _⟩, ?_⟩
  rintro i m H ⟨rfl, hi, c⟩
  obtain ⟨sm, zs, h1, pr, hl⟩ := c
  by_cases hlt : i < n
  · refine .inr ⟨hgo i H hlt sm, Cf H1 D R (((List.range (i + 1)).filter p).map f) (i + 1), fun H' p' => ⟨n - (i + 1), by omega, rfl, hlt, p'⟩, fun x H' y => ?_⟩
    obtain ⟨s', σ2, hg, hw, ht, he⟩ := hs i H x H' hlt sm y
    refine hg _ ⟨hw, ht _ fun H3 s3 => ?_⟩
    have s13 := s'.trans s3
    cases hp : p i with
    | false =>
      rw [if_neg (by decide)]
      refine ⟨sm.trans s13, zs, s13 _ _ h1, ?_, by omega⟩
      rw [List.range_succ, List.filter_append]
      show Paired (R H3) zs ((List.filter p (List.range i) ++ List.filter p [i]).map f)
      rw [List.filter_cons_of_neg (by rw [hp]; decide), List.filter_nil, List.append_nil]
      exact paired_mono (fun a b r => mono _ _ _ _ (Tm.of s13) r) pr
    | true =>
      rw [if_pos rfl]
      refine he hp H3 s3 _ fun v H4 s4 r => ?_
      have s14 := s13.trans s4
      have h4 := s14 _ _ h1
      have t4 : Tm H4 (upd H4 D (.lst (zs ++ [v]))) := Tm.lst h4
      refine ⟨zs, h4, Nat.lt_of_le_of_lt hl (Nat.lt_of_lt_of_le (Nat.lt_of_lt_of_le hlt hz) (by decide)), same_mut (sm.trans s14) hD, zs ++ [v], upd_same, ?_, by rw [List.length_append]; show zs.length + 1 ≤ i + 1; omega⟩
      rw [List.range_succ, List.filter_append]
      show Paired _ _ ((List.filter p (List.range i) ++ List.filter p [i]).map f)
      rw [List.filter_cons_of_pos hp, List.filter_nil, List.map_append]
      exact Paired.app (paired_mono (fun a b q => mono _ _ _ _ ((Tm.of s14).trans t4) q) pr) (Paired.one (mono _ _ _ _ t4 r))
  · have e : i = n := by omega
    subst e
    exact .inl ⟨hst H sm, hd H zs sm h1 pr⟩
end Lt

set_option Elab.async false
set_option linter.all false
set_option maxRecDepth 100000
set_option maxHeartbeats 1000000
/-! tasks.py: what is checked, the inputs and the parts of a table -/
namespace Lt
open PySem PySem.Spec PyProof.Rows L2
/-- the inputs of a place -/
def insOf (t : Nat) : List Nat := (List.range 6).filter fun i => t / 2 ^ i % 2 == 1
section
variable {P : Program} {w : World} {K : PySem.W.Frag} {mg : Str → Option Value} {base : Heap} {CN CT : Addr}
end
end Lt

set_option Elab.async false
set_option linter.all false
set_option maxRecDepth 100000
set_option maxHeartbeats 1000000
/-! rows.py: check_row, yes_where -/
namespace Lt
open PySem PySem.Spec PyProof.Rows L2
/-- the table that is yes where a turn is -/
def yesT (ts : List (List Nat)) (t : List Nat) : List Nat := ts.map fun x => if x = t then 1 else 0
section
variable {P : Program} {w : World} {K : PySem.W.Frag} {mg : Str → Option Value} {base : Heap} {CR : Addr}
end
end Lt

set_option Elab.async false
set_option linter.all false
set_option maxRecDepth 100000
set_option maxHeartbeats 4000000
/-! a dict by a comprehension, its keys tuples -/
namespace L2
open PySem PySem.Spec PyProof.Rows
section
variable {X : Cx} {pins : List (Addr × Obj)} {σ : St} {H : Hp} {s : Shared}
end
section
variable {X : Cx}
end
end L2

set_option Elab.async false
set_option linter.all false
set_option maxRecDepth 100000
set_option maxHeartbeats 4000000
/-! {k: v for ..} with tuple keys, as an expression -/
namespace L2
open PySem PySem.Spec PyProof.Rows
end L2

set_option Elab.async false
set_option linter.all false
set_option maxRecDepth 100000
set_option maxHeartbeats 1000000
/-! {k: v for ..}: as many pairs as are walked, their keys unlike -/
namespace Lt
open PySem PySem.Spec PyProof.Rows L2
end Lt

set_option Elab.async false
set_option linter.all false
set_option maxRecDepth 100000
set_option maxHeartbeats 1000000
/-! the still turn is the least -/
namespace Lt
open PySem PySem.Spec PyProof.Rows L2
end Lt

set_option Elab.async false
set_option linter.all false
set_option maxRecDepth 100000
set_option maxHeartbeats 1000000
/-! k06: the law's helpers -/
namespace Lt
open PySem PySem.Spec PyProof.Rows L2
/-- a step: an input, a turn for no, a turn for yes -/
abbrev StepT := Nat × List Nat × List Nat
section
variable {P : Program} {w : World} {K : PySem.W.Frag} {mg : Str → Option Value} {base : Heap}
end
end Lt

set_option Elab.async false
set_option linter.all false
set_option maxRecDepth 100000
set_option maxHeartbeats 2000000
/-! rows.py: products -/
namespace Lt
open PySem PySem.Spec PyProof.Rows L2
section
variable {P : Program} {w : World} {K : PySem.W.Frag} {mg : Str → Option Value} {base : Heap}
/-- a step whose turns may be keys -/
def StK (H : Hp) (v : V) (s : StepT) : Prop := ∃ p x y, v = .ref p ∧ H p = some (.tup [nI s.1, x, y]) ∧ TK H x s.2.1 ∧ TK H y s.2.2
theorem StK.tm {H H' : Hp} {v : V} {s : StepT} (e : Tm H H') (h : StK H v s) : StK H' v s := let ⟨p, x, y, h1, h2, h3, h4⟩ := h; ⟨p, x, y, h1, e.1 _ _ h2, h3.tm e, h4.tm e⟩
/-- what a row comes to at a place of a table -/
def valK (n : Nat) (ss : List StepT) (t : Nat) : List Nat := ss.foldl (fun c s => prod c (if t / 2 ^ s.1 % 2 = 1 then s.2.2 else s.2.1)) (List.range n)
theorem val_places {ts : List (List Nat)} {y : List Nat} (nd : ts.Nodup) (h : y ∈ ts) : valV ((List.range ts.length).map fun i => (keyN (ts.getD i []), nI i)) (keyN y) = some (nI (ts.idxOf y)) := by
  have hi : ts.idxOf y < ts.length := List.idxOf_lt_length_of_mem h
  have e : ((List.range ts.length).map fun i => (keyN (ts.getD i []), nI i)).find? (fun kv => decide (kv.1 = keyN y)) = some (keyN (ts.getD (ts.idxOf y) []), nI (ts.idxOf y)) := by
    refine List.find?_eq_some_iff_getElem.mpr ⟨?_, ts.idxOf y, by rw [List.length_map, List.length_range]; exact hi, by rw [List.getElem_map, List.getElem_range], fun j hj => ?_⟩
    · rw [List.getD_eq_getElem?_getD, List.getElem?_eq_getElem hi, Option.getD_some, List.getElem_idxOf hi]
      exact decide_eq_true rfl
    · rw [List.getElem_map, List.getElem_range]
      have hjl : j < ts.length := by omega
      have hne : ts[j] ≠ y := fun z => by
        have := nd.idxOf_getElem j hjl
        rw [z] at this
        omega
      have : ¬ keyN (ts.getD j []) = keyN y := fun z => by
        have z := keyN_inj z
        rw [List.getD_eq_getElem?_getD, List.getElem?_eq_getElem hjl, Option.getD_some] at z
        exact hne z
      show (!decide (keyN (ts.getD j []) = keyN y)) = true
      rw [decide_eq_false this]
      rfl
  unfold valV
  rw [e]
  rfl
end
end Lt

set_option Elab.async false
set_option linter.all false
set_option maxRecDepth 100000
set_option maxHeartbeats 4000000
/-! sorted of data that are alike, any length -/
namespace Lt
open PySem PySem.Spec PyProof.Rows L2
open PySem.W (EachIs AllAlike Sortable dataLe)
section
variable {X : Cx}
end
end Lt

set_option Elab.async false
set_option linter.all false
set_option maxRecDepth 100000
set_option maxHeartbeats 4000000
/-! sorted(xs, key=lambda x: (len(x[0]), x[0])), x[0] a tuple of numbers -/
namespace Lt
open PySem PySem.Spec PyProof.Rows L2 NdefX LamX LmX
open PySem.W (EachIs AllAlike Sortable dataLe KeyPure)
section
variable {X : Cx} {pins : List (Addr × Obj)} {σ : L2.St} {H : Hp} {s : Shared}
end
section
variable {X : Cx}
end
end Lt

set_option Elab.async false
set_option linter.all false
set_option maxRecDepth 100000
set_option maxHeartbeats 2000000
/-! zip of a list and a tuple; max(xs, default=None) -/
namespace Lt
open PySem PySem.Spec PyProof.Rows L2
/-! ### max(xs, default=None) -/
end Lt

set_option Elab.async false
set_option linter.all false
set_option maxRecDepth 100000
set_option maxHeartbeats 1000000
/-! the order of a polynomial's parts -/
namespace Lt
open PySem PySem.Spec PyProof.Rows L2 PySem.W
def kcL : List Nat := [0, 1, 2, 7, 3, 8, 12, 22, 4, 9, 13, 23, 16, 26, 32, 42, 5, 10, 14, 24, 17, 27, 33, 43, 19, 29, 35, 45, 38, 48, 52, 57, 6, 11, 15, 25, 18, 28, 34, 44, 20, 30, 36, 46, 39, 49, 53, 58, 21, 31, 37, 47, 40, 50, 54, 59, 41, 51, 55, 60, 56, 61, 62, 63]
def kc (t : Nat) : Nat := kcL.getD t 0
/-- the encodings of both sides -/
def encT (g : Nat → Int) (t : Nat) : PyData := .tuple [.int (insOf t).length, dT (insOf t), .int (g t)]
end Lt

set_option Elab.async false
set_option linter.all false
set_option maxRecDepth 100000
set_option maxHeartbeats 1000000
/-! the factors of a polynomial: differences, one input after the other, and sums over what lies within -/
namespace Lt
open PySem PySem.Spec PyProof.Rows L2
/-- the program's: after the first k inputs -/
def Gm (p : Int) (f : Nat → Int) : Nat → Nat → Int
  | 0, t => f t
  | k + 1, t => if t / 2 ^ k % 2 = 1 then (Gm p f k t - Gm p f k (t - 2 ^ k)) % p else Gm p f k t
/-! ### the law's sum -/
end Lt

set_option Elab.async false
set_option linter.all false
set_option maxRecDepth 100000
set_option maxHeartbeats 1000000
/-! tasks.py: inputs_of, part_of, factors_of -/
namespace Lt
open PySem PySem.Spec PyProof.Rows L2
/-- the numbers of a table, by place -/
def fT (bs : List Nat) (t : Nat) : Int := ((bs.getD t 0 : Nat) : Int)
section
variable {P : Program} {w : World} {K : PySem.W.Frag} {mg : Str → Option Value} {base : Heap}
end
end Lt

set_option Elab.async false
set_option linter.all false
set_option maxRecDepth 100000
set_option maxHeartbeats 2000000
/-! a tuple once: t * 1 -/
namespace Lt
open PySem PySem.Spec PyProof.Rows L2
end Lt

set_option Elab.async false
set_option linter.all false
set_option maxRecDepth 100000
set_option maxHeartbeats 2000000
/-! tasks.py: polynomial, degree, all_of -/
namespace Lt
open PySem PySem.Spec PyProof.Rows L2
/-- the factors of a table -/
def facG (p n : Nat) (bs : List Nat) (t : Nat) : Int := Gm p (fT bs) n t
/-- the places of a polynomial's parts, in its order -/
def polyL (p n : Nat) (bs : List Nat) : List Nat := ((List.range (2 ^ n)).mergeSort (PySem.W.dataLe false (encT (facG p n bs)))).filter fun t => facG p n bs t != 0
theorem filter_at : ∀ (l : List Nat) (q : Nat → Bool), (((List.range l.length).filter fun i => q (l.getD i 0)).map fun i => l.getD i 0) = l.filter q
  | [], q => rfl
  | a :: l, q => by
    rw [List.length_cons, List.range_succ_eq_map, List.filter_cons, List.filter_map]
    have h := filter_at l q
    have e : ((List.filter ((fun i => q ((a :: l).getD i 0)) ∘ Nat.succ) (List.range l.length)).map Nat.succ).map (fun i => (a :: l).getD i 0) = l.filter q := by
      rw [List.map_map, ← h]
      rfl
    rw [List.filter_cons]
    show (if q a = true then _ else _ : List Nat).map _ = _
    split
    · rw [List.map_cons, e]
      rfl
    · exact e
section
variable {P : Program} {w : World} {K : PySem.W.Frag} {mg : Str → Option Value} {base : Heap} {CN CT : Addr}
def primes : List Nat := [2, 3, 5, 7]
theorem prime_in {p : Nat} (h : p ∈ primes) : inV (nI p) ([2, 3, 5, 7].map V.int) = true ∧ 2 ≤ p ∧ p ≤ 7 := by
  unfold primes at h
  simp only [List.mem_cons, List.not_mem_nil, or_false] at h
  rcases h with rfl | rfl | rfl | rfl <;> exact ⟨rfl, by decide, by decide⟩
abbrev rLenS (K : PySem.W.Frag) : List V → Hp → VK → Prop := fun xs H Q => ∃ p ys, xs = [V.ref p] ∧ (SqL K H p ys ∨ SqT K H p ys) ∧ Q (.int ys.length) H
end
end Lt

set_option Elab.async false
set_option linter.all false
set_option maxRecDepth 100000
set_option maxHeartbeats 2000000
/-! rows.py: worths, written, writes -/
namespace Lt
open PySem PySem.Spec PyProof.Rows L2
def dS (s : StepT) : PyData := .tuple [dN s.1, dT s.2.1, dT s.2.2]
theorem StK.rp {H : Hp} {v : V} {s : StepT} (h : StK H v s) : Rp H v (dS s) := by
  obtain ⟨p, x, y, rfl, hp, hx, hy⟩ := h
  exact .tup (.inl hp) (.cons (.int _) (.cons hx.tn.rp (.cons hy.tn.rp .nil)))
theorem StKs.rp {H : Hp} : ∀ {xs : List V} {ss : List StepT}, Paired (StK H) xs ss → RpAll H xs (ss.map dS)
  | _, _, .nil => .nil
  | _, _, .cons r t => .cons r.rp (StKs.rp t)
theorem stepD_S (L : List (List Nat × List Nat)) (k : Nat) (s : StepT) : stepD L k (dS s) = (decide (s.1 < k) && decide (s.2.1 ∈ L.map (·.1)) && decide (s.2.2 ∈ L.map (·.1))) := by
  show (ownD k (.int (s.1 : Int)) && isTurnD L (dT s.2.1) && isTurnD L (dT s.2.2)) = _
  rw [isTurnD_dT, isTurnD_dT]
  congr 2
  show (decide ((0 : Int) ≤ (s.1 : Int)) && decide ((s.1 : Int) < (k : Int))) = _
  rw [decide_eq_true (Int.natCast_nonneg _), Bool.true_and]
  exact decide_eq_decide.mpr Int.ofNat_lt
/-- a row of a lock for so many inputs -/
structure RowOk (ls : List (List Nat)) (n k : Nat) (ss : List StepT) : Prop where
  ok : ∀ s ∈ ss, s.1 < k ∧ Mk ls n s.2.1 ∧ Mk ls n s.2.2
  len : ss.length ≤ 6000
theorem RowOk.step {ls : List (List Nat)} {n k : Nat} {ss : List StepT} {H : Hp} {v : V} (h : RowOk ls n k ss) (g : Good H v ls n) : ∀ e ∈ ss.map dS, stepD (LL ls n) k e = true := fun e he => by
  obtain ⟨s, hs, rfl⟩ := List.mem_map.mp he
  obtain ⟨h1, h2, h3⟩ := h.ok s hs
  rw [stepD_S, decide_eq_true h1, decide_eq_true ((g.mem _).mpr h2), decide_eq_true ((g.mem _).mpr h3)]
  rfl
section
variable {P : Program} {w : World} {K : PySem.W.Frag} {mg : Str → Option Value} {base : Heap} {CL CM CT CN CR CK : Addr}
/-- what a row comes to, by places of a table -/
abbrev valsK (n k : Nat) (ss : List StepT) : List (List Nat) := (List.range (2 ^ k)).map (valK n ss)
end
end Lt

set_option Elab.async false
set_option linter.all false
set_option maxRecDepth 100000
set_option maxHeartbeats 1000000
/-! k10: what a formula's row comes to -/
namespace Lt
open PySem PySem.Spec PyProof.Rows L2
def undoL (ss : List StepT) : List StepT := ss.reverse.map fun s => (s.1, inv s.2.1, inv s.2.2)
/-! ### what the rows come to -/
/-- closed turns -/
structure Cld (n : Nat) (M : List Nat → Prop) : Prop where
  isP : ∀ t, M t → IsP n t
  still : M (List.range n)
  prod : ∀ t u, M t → M u → M (prod t u)
  inv : ∀ t, M t → M (inv t)
def chs (p : Nat) (s : StepT) : List Nat := if p / 2 ^ s.1 % 2 = 1 then s.2.2 else s.2.1
theorem inv_still {n : Nat} : inv (List.range n) = List.range n := (inv_unique (.still n) (.still n) (prod_still_l (by rw [List.length_range]))).symm
section
variable {pr : PrF} {n m : Nat} {M O : List Nat → Prop}
end
end Lt

set_option Elab.async false
set_option linter.all false
set_option maxRecDepth 100000
set_option maxHeartbeats 1000000
/-! weights.py, what it comes to; the same with the places called otherwise -/
namespace Lt
open PySem PySem.Spec PyProof.Rows L2
abbrev LLN := List (List (List Nat))
def cdiv (w q : Nat) : Nat := (w + q - 1) / q
def powIn (n : Nat) (Ts : LLN) (w q : Nat) : List (List Nat) := (Ts.getD (min (cdiv w q) Ts.length - 1) []).map fun t => pw n t q
def mkrs (n p : Nat) (Ts : LLN) (w : Nat) : Nat → Nat → List (List Nat)
  | 0, _ => []
  | f + 1, q => if q < p * w then powIn n Ts w q ++ mkrs n p Ts w f (q * p) else []
/-- what makes the term of a weight -/
def wMk (n p : Nat) (Ts : LLN) (w : Nat) : List (List Nat) := mkrs n p Ts w 64 1
def wCnt (n p : Nat) (Ts : LLN) : Nat → Nat → Nat
  | 0, _ => 0
  | f + 1, w => if 1 < szS n (wMk n p Ts w) then wCnt n p Ts f (w + 1) + 1 else 0
def expo (p : Nat) : Nat → Nat → Nat
  | 0, _ => 0
  | f + 1, k => if 1 < k then expo p f (k / p) + 1 else 0
def toldN (n p : Nat) (Ts : LLN) : Nat := (p - 1) * ((List.range (wCnt n p Ts 64 1)).map fun i => expo p 64 (szS n (wMk n p Ts (i + 1)))).sum
abbrev Cz := List (List Nat) × List Nat
abbrev Kz := List (List Nat) × List Nat × Nat
abbrev Fz := List (List Nat) × Nat
def lfPow (n p : Nat) (Ts : LLN) (wt : Nat) : Nat → Nat → List Nat
  | 0, _ => []
  | f + 1, q => if 1 < szS n (wMk n p Ts (wt * q * p)) then (q * p) :: lfPow n p Ts wt f (q * p) else []
def lfPws (n p : Nat) (Ts : LLN) (wt : Nat) : List Nat := 1 :: lfPow n p Ts wt 64 1
def lfBase (n p : Nat) (Ts : LLN) (wt : Nat) (pws : List Nat) (i : Nat) (kept : List Kz) : List (List Nat) :=
  wMk n p Ts (wt * pws.getD i 1 + 1) ++ (pws.take i).flatMap (powIn n Ts (wt * pws.getD i 1)) ++ kept.map fun k => pw n k.2.1 (pws.getD i 1)
def lfIn (n q len : Nat) : List Cz → List (List Nat) → List Kz → List Kz
  | [], _, kept => kept
  | (gv, t) :: rest, ms, kept => if inS n ms (pw n t q) then lfIn n q len rest ms kept else lfIn n q len rest (ms ++ [pw n t q]) (kept ++ [(gv, t, len)])
def lfOut (n p : Nat) (Ts : LLN) (wt : Nat) (pws : List Nat) (level : List Cz) : Nat → List Kz → List Kz
  | 0, kept => kept
  | i + 1, kept => lfOut n p Ts wt pws level i (lfIn n (pws.getD i 1) (i + 1) level (lfBase n p Ts wt pws i kept) kept)
def lfM (n p : Nat) (Ts : LLN) (level : List Cz) : List Kz := let wt := (level.headD ([], [])).1.length; lfOut n p Ts wt (lfPws n p Ts wt) level (lfPws n p Ts wt).length []
def nxLev (ls : List (List Nat)) (kept : List Kz) : List Cz := kept.flatMap fun k => ls.map fun g => (k.1 ++ [g], cm k.2.1 g)
def chLev (n p : Nat) (Ts : LLN) (ls : List (List Nat)) : Nat → List Cz × List Fz
  | 0 => (ls.map fun g => ([g], g), [])
  | i + 1 => (nxLev ls (lfM n p Ts (chLev n p Ts ls i).1), (chLev n p Ts ls i).2 ++ (lfM n p Ts (chLev n p Ts ls i).1).map fun k => (k.1, k.2.2))
/-! ### a chain's row -/
def bsM (n : Nat) : List (List Nat × Nat) → List StepT → List Nat → List StepT × List Nat
  | [], ss, r => (ss, r)
  | (t, o) :: rest, ss, r => bsM n rest (ss ++ [(o, List.range n, t)] ++ undoL ss ++ [(o, List.range n, inv t)]) (cm r t)
def bsT (n : Nat) (turns : List (List Nat)) (owns : List Nat) : List StepT × List Nat := bsM n (turns.tail.zip owns.tail) [(owns.headD 0, List.range n, turns.headD [])] (turns.headD [])
abbrev CrX := List StepT × List Nat × Nat
def crOwn (k : Nat) (gv : List (List Nat)) (taken : Nat) : List Nat := (List.range gv.length).map fun i => min (taken + i) (k - 1)
def crStep (n k : Nat) (gv : List (List Nat)) (x : CrX) : CrX := if x.2.2 < k then (x.1 ++ (bsT n gv (crOwn k gv x.2.2)).1, prod x.2.1 (bsT n gv (crOwn k gv x.2.2)).2, x.2.2 + gv.length) else x
def crIt (n k : Nat) (gv : List (List Nat)) : Nat → CrX → CrX
  | 0, x => x
  | i + 1, x => crStep n k gv (crIt n k gv i x)
def crAll (n p k : Nat) : List Fz → CrX → CrX
  | [], x => x
  | (gv, len) :: r, x => crAll n p k r (crIt n k gv (p ^ len - 1) x)
def chRow (n p k : Nat) (fs : List Fz) : CrX := crAll n p k fs ([], List.range n, 0)
/-! ### called otherwise -/
def rnC (s : List Nat) (c : Cz) : Cz := (c.1.map (cj s), cj s c.2)
def rnK (s : List Nat) (c : Kz) : Kz := (c.1.map (cj s), cj s c.2.1, c.2.2)
def rnF (s : List Nat) (c : Fz) : Fz := (c.1.map (cj s), c.2)
def rnS (s : List Nat) (c : StepT) : StepT := (c.1, cj s c.2.1, cj s c.2.2)
def rnX (s : List Nat) (x : CrX) : CrX := (x.1.map (rnS s), cj s x.2.1, x.2.2)
theorem paired_getD {α β : Type} {R : α → β → Prop} {xs : List α} {ys : List β} {a : α} {b : β} (h : Paired R xs ys) (h0 : R a b) (i : Nat) : R (xs.getD i a) (ys.getD i b) := by
  rw [List.getD_eq_getElem?_getD, List.getD_eq_getElem?_getD]
  cases e : xs[i]? with
  | some x =>
    obtain ⟨y, hy, r⟩ := Paired.getL h e
    rw [hy]
    exact r
  | none =>
    have h1 := List.getElem?_eq_none_iff.mp e
    have h2 : ys[i]? = none := List.getElem?_eq_none (by rw [← Paired.length h]; exact h1)
    rw [h2]
    exact h0
section
variable {s : List Nat} {n p : Nat} {gs : List (List Nat)} {Ts' Ts : LLN}
theorem rn_powIn (hs : IsP n s) (h : Paired (Rn s n) Ts' Ts) (w q : Nat) : Rn s n (powIn n Ts' w q) (powIn n Ts w q) := by
  unfold powIn
  rw [Paired.length h]
  exact (paired_getD h Rn.nil _).map (fun x hx => pw_isP hx q) fun x hx => cj_pw hs hx q
theorem rn_mkrs (hs : IsP n s) (h : Paired (Rn s n) Ts' Ts) (w : Nat) : ∀ f q, Rn s n (mkrs n p Ts' w f q) (mkrs n p Ts w f q)
  | 0, _ => Rn.nil
  | f + 1, q => by
    unfold mkrs
    split
    · exact (rn_powIn hs h w q).app (rn_mkrs hs h w f (q * p))
    · exact Rn.nil
theorem rn_wMk (hs : IsP n s) (h : Paired (Rn s n) Ts' Ts) (w : Nat) : Rn s n (wMk n p Ts' w) (wMk n p Ts w) := rn_mkrs hs h w 64 1
/-- terms of turns of a lock -/
def InG (gs : List (List Nat)) (n : Nat) (Ts : LLN) : Prop := ∀ A ∈ Ts, ∀ t ∈ A, Mk gs n t
theorem in_getD (h : InG gs n Ts) (i : Nat) : ∀ t ∈ Ts.getD i [], Mk gs n t := fun t ht => by
  rw [List.getD_eq_getElem?_getD] at ht
  cases e : Ts[i]? with
  | none => rw [e] at ht; cases ht
  | some A =>
    rw [e] at ht
    exact h A (List.mem_of_getElem? e) t ht
theorem in_powIn (hg : ∀ g ∈ gs, IsP n g) (h : InG gs n Ts) (w q : Nat) : ∀ t ∈ powIn n Ts w q, Mk gs n t := fun t ht => by
  obtain ⟨u, hu, rfl⟩ := List.mem_map.mp ht
  exact (in_getD h _ u hu).pw hg q
theorem in_mkrs (hg : ∀ g ∈ gs, IsP n g) (h : InG gs n Ts) (w : Nat) : ∀ f q, ∀ t ∈ mkrs n p Ts w f q, Mk gs n t
  | 0, _, t, ht => by cases ht
  | f + 1, q, t, ht => by
    unfold mkrs at ht
    split at ht
    · rcases List.mem_append.mp ht with z | z
      · exact in_powIn hg h w q t z
      · exact in_mkrs hg h w f (q * p) t z
    · cases ht
theorem in_wMk (hg : ∀ g ∈ gs, IsP n g) (h : InG gs n Ts) (w : Nat) : ∀ t ∈ wMk n p Ts w, Mk gs n t := in_mkrs hg h w 64 1
theorem few_in (hg : ∀ g ∈ gs, IsP n g) (hf : Few gs n 60) {ms : List (List Nat)} (h : ∀ t ∈ ms, Mk gs n t) : Few ms n 63 := (hf.mono (by decide)).sub fun t ht => ht.mono hg h
theorem rn_sz (hs : IsP n s) (h : Paired (Rn s n) Ts' Ts) (hg : ∀ g ∈ gs, IsP n g) (hf : Few gs n 60) (hT : InG gs n Ts) (w : Nat) : szS n (wMk n p Ts' w) = szS n (wMk n p Ts w) := (rn_wMk hs h w).szS hs (few_in hg hf (in_wMk hg hT w))
theorem rn_wCnt (hs : IsP n s) (h : Paired (Rn s n) Ts' Ts) (hg : ∀ g ∈ gs, IsP n g) (hf : Few gs n 60) (hT : InG gs n Ts) : ∀ f w, wCnt n p Ts' f w = wCnt n p Ts f w
  | 0, _ => rfl
  | f + 1, w => by
    unfold wCnt
    rw [rn_sz hs h hg hf hT, rn_wCnt hs h hg hf hT f]
theorem rn_told (hs : IsP n s) (h : Paired (Rn s n) Ts' Ts) (hg : ∀ g ∈ gs, IsP n g) (hf : Few gs n 60) (hT : InG gs n Ts) : toldN n p Ts' = toldN n p Ts := by
  unfold toldN
  rw [rn_wCnt hs h hg hf hT]
  congr 2
  exact List.map_congr_left fun i _ => by rw [rn_sz hs h hg hf hT]
theorem rn_lfPow (hs : IsP n s) (h : Paired (Rn s n) Ts' Ts) (hg : ∀ g ∈ gs, IsP n g) (hf : Few gs n 60) (hT : InG gs n Ts) (wt : Nat) : ∀ f q, lfPow n p Ts' wt f q = lfPow n p Ts wt f q
  | 0, _ => rfl
  | f + 1, q => by
    unfold lfPow
    rw [rn_sz hs h hg hf hT, rn_lfPow hs h hg hf hT wt f]
theorem rn_lfPws (hs : IsP n s) (h : Paired (Rn s n) Ts' Ts) (hg : ∀ g ∈ gs, IsP n g) (hf : Few gs n 60) (hT : InG gs n Ts) (wt : Nat) : lfPws n p Ts' wt = lfPws n p Ts wt := by
  unfold lfPws
  rw [rn_lfPow hs h hg hf hT]
theorem rn_flat (hs : IsP n s) (h : Paired (Rn s n) Ts' Ts) (w : Nat) : ∀ qs : List Nat, Rn s n (qs.flatMap (powIn n Ts' w)) (qs.flatMap (powIn n Ts w))
  | [] => Rn.nil
  | q :: qs => by
    rw [List.flatMap_cons, List.flatMap_cons]
    exact (rn_powIn hs h w q).app (rn_flat hs h w qs)
/-- the kept are of a lock -/
def KeG (gs : List (List Nat)) (n : Nat) (ks : List Kz) : Prop := ∀ k ∈ ks, Mk gs n k.2.1 ∧ ∀ g ∈ k.1, g ∈ gs
def LvG (gs : List (List Nat)) (n : Nat) (cs : List Cz) : Prop := ∀ c ∈ cs, Mk gs n c.2 ∧ ∀ g ∈ c.1, g ∈ gs
theorem rn_base (hs : IsP n s) (h : Paired (Rn s n) Ts' Ts) (hg : ∀ g ∈ gs, IsP n g) (wt : Nat) (pws : List Nat) (i : Nat) {kept : List Kz} (hk : KeG gs n kept) : Rn s n (lfBase n p Ts' wt pws i (kept.map (rnK s))) (lfBase n p Ts wt pws i kept) := by
  unfold lfBase
  refine ((rn_wMk hs h _).app (rn_flat hs h _ _)).app ?_
  have e1 : (kept.map (rnK s)).map (fun k => pw n k.2.1 (pws.getD i 1)) = ((kept.map fun k => k.2.1).map (cj s)).map fun t => pw n t (pws.getD i 1) := by
    rw [List.map_map, List.map_map, List.map_map]
    rfl
  have e2 : kept.map (fun k => pw n k.2.1 (pws.getD i 1)) = (kept.map fun k => k.2.1).map fun t => pw n t (pws.getD i 1) := by
    rw [List.map_map]
    rfl
  rw [e1, e2]
  exact (Rn.of_map fun x hx => by
    obtain ⟨k, hk', rfl⟩ := List.mem_map.mp hx
    exact (hk k hk').1.isP hg).map (fun x hx => pw_isP hx _) fun x hx => cj_pw hs hx _
theorem in_base (hg : ∀ g ∈ gs, IsP n g) (hT : InG gs n Ts) (wt : Nat) (pws : List Nat) (i : Nat) {kept : List Kz} (hk : KeG gs n kept) : ∀ t ∈ lfBase n p Ts wt pws i kept, Mk gs n t := fun t ht => by
  unfold lfBase at ht
  rcases List.mem_append.mp ht with z | z
  · rcases List.mem_append.mp z with z | z
    · exact in_wMk hg hT _ t z
    · obtain ⟨q, _, hq⟩ := List.mem_flatMap.mp z
      exact in_powIn hg hT _ q t hq
  · obtain ⟨k, hk', rfl⟩ := List.mem_map.mp z
    exact (hk k hk').1.pw hg _
theorem in_lfIn (hg : ∀ g ∈ gs, IsP n g) (q len : Nat) : ∀ (lv : List Cz) (ms : List (List Nat)) (kept : List Kz), LvG gs n lv → KeG gs n kept → KeG gs n (lfIn n q len lv ms kept)
  | [], _, _, _, hk => hk
  | (gv, t) :: rest, ms, kept, hl, hk => by
    unfold lfIn
    have hl2 : LvG gs n rest := fun c hc => hl c (List.mem_cons_of_mem _ hc)
    split
    · exact in_lfIn hg q len rest ms kept hl2 hk
    · refine in_lfIn hg q len rest _ _ hl2 fun k hk' => ?_
      rcases List.mem_append.mp hk' with z | z
      · exact hk k z
      · rw [List.mem_singleton.mp z]
        exact hl (gv, t) List.mem_cons_self
theorem rn_lfIn (hs : IsP n s) (hg : ∀ g ∈ gs, IsP n g) (hf : Few gs n 60) (q len : Nat) : ∀ (lv : List Cz) (ms' ms : List (List Nat)) (kept : List Kz), LvG gs n lv → Rn s n ms' ms → (∀ t ∈ ms, Mk gs n t) → lfIn n q len (lv.map (rnC s)) ms' (kept.map (rnK s)) = (lfIn n q len lv ms kept).map (rnK s)
  | [], _, _, _, _, _, _ => rfl
  | (gv, t) :: rest, ms', ms, kept, hl, r, hm => by
    have hl2 : LvG gs n rest := fun c hc => hl c (List.mem_cons_of_mem _ hc)
    have mt : Mk gs n t := (hl (gv, t) List.mem_cons_self).1
    have tP := mt.isP hg
    have e : inS n ms' (pw n (cj s t) q) = inS n ms (pw n t q) := by
      rw [← cj_pw hs tP]
      exact r.inS hs (few_in hg hf hm) (pw_isP tP q)
    rw [List.map_cons]
    unfold lfIn
    show (if inS n ms' (pw n (cj s t) q) = true then _ else _) = _
    rw [e]
    split
    · exact rn_lfIn hs hg hf q len rest ms' ms kept hl2 r hm
    · have z := rn_lfIn hs hg hf q len rest (ms' ++ [pw n (cj s t) q]) (ms ++ [pw n t q]) (kept ++ [(gv, t, len)]) hl2 (r.app (by
        rw [← cj_pw hs tP]
        exact Rn.of_map (A := [pw n t q]) fun x hx => by rw [List.mem_singleton.mp hx]; exact pw_isP tP q)) (fun u hu => by
          rcases List.mem_append.mp hu with z | z
          · exact hm u z
          · rw [List.mem_singleton.mp z]
            exact mt.pw hg q)
      rw [List.map_append] at z
      exact z
theorem in_lfOut (hg : ∀ g ∈ gs, IsP n g) (wt : Nat) (pws : List Nat) {lv : List Cz} (hl : LvG gs n lv) : ∀ (i : Nat) (kept : List Kz), KeG gs n kept → KeG gs n (lfOut n p Ts wt pws lv i kept)
  | 0, _, hk => hk
  | i + 1, kept, hk => in_lfOut hg wt pws hl i _ (in_lfIn hg _ _ lv _ _ hl hk)
theorem rn_lfOut (hs : IsP n s) (h : Paired (Rn s n) Ts' Ts) (hg : ∀ g ∈ gs, IsP n g) (hf : Few gs n 60) (hT : InG gs n Ts) (wt : Nat) (pws : List Nat) {lv : List Cz} (hl : LvG gs n lv) : ∀ (i : Nat) (kept : List Kz), KeG gs n kept → lfOut n p Ts' wt pws (lv.map (rnC s)) i (kept.map (rnK s)) = (lfOut n p Ts wt pws lv i kept).map (rnK s)
  | 0, _, _ => rfl
  | i + 1, kept, hk => by
    unfold lfOut
    rw [rn_lfIn hs hg hf _ _ lv _ (lfBase n p Ts wt pws i kept) kept hl (rn_base hs h hg wt pws i hk) (in_base hg hT wt pws i hk)]
    exact rn_lfOut hs h hg hf hT wt pws hl i _ (in_lfIn hg _ _ lv _ _ hl hk)
theorem in_lfM (hg : ∀ g ∈ gs, IsP n g) {lv : List Cz} (hl : LvG gs n lv) : KeG gs n (lfM n p Ts lv) := in_lfOut hg _ _ hl _ _ fun k hk => by cases hk
theorem rn_lfM (hs : IsP n s) (h : Paired (Rn s n) Ts' Ts) (hg : ∀ g ∈ gs, IsP n g) (hf : Few gs n 60) (hT : InG gs n Ts) {lv : List Cz} (hl : LvG gs n lv) : lfM n p Ts' (lv.map (rnC s)) = (lfM n p Ts lv).map (rnK s) := by
  have e : ((lv.map (rnC s)).headD ([], [])).1.length = (lv.headD ([], [])).1.length := by
    cases lv with
    | nil => rfl
    | cons c r => exact List.length_map _
  unfold lfM
  dsimp only
  rw [e, rn_lfPws hs h hg hf hT]
  exact rn_lfOut hs h hg hf hT _ _ hl _ [] fun k hk => by cases hk
theorem in_nx (hg : ∀ g ∈ gs, IsP n g) (hf : Few gs n 60) {kept : List Kz} (hk : KeG gs n kept) : LvG gs n (nxLev gs kept) := fun c hc => by
  obtain ⟨k, hk', hc⟩ := List.mem_flatMap.mp hc
  obtain ⟨g, hg', rfl⟩ := List.mem_map.mp hc
  have h1 := (hk k hk').1
  have h2 := Mk.one hg hg'
  refine ⟨(h1.prod hg h2).prod hg ((h2.prod hg h1).inv hg hf), fun x hx => ?_⟩
  rcases List.mem_append.mp hx with z | z
  · exact (hk k hk').2 x z
  · rw [List.mem_singleton.mp z]
    exact hg'
theorem rn_nx (hs : IsP n s) (hg : ∀ g ∈ gs, IsP n g) : ∀ {kept : List Kz}, KeG gs n kept → nxLev (gs.map (cj s)) (kept.map (rnK s)) = (nxLev gs kept).map (rnC s)
  | [], _ => rfl
  | k :: ks, hk => by
    have ih := rn_nx hs hg (kept := ks) fun x hx => hk x (List.mem_cons_of_mem _ hx)
    unfold nxLev at ih ⊢
    rw [List.map_cons, List.flatMap_cons, List.flatMap_cons, List.map_append, ih]
    congr 1
    rw [List.map_map, List.map_map]
    refine List.map_congr_left fun g hg' => ?_
    have h1 := ((hk k List.mem_cons_self).1).isP hg
    show ((k.1.map (cj s)) ++ [cj s g], cm (cj s k.2.1) (cj s g)) = ((k.1 ++ [g]).map (cj s), cj s (cm k.2.1 g))
    rw [List.map_append, cj_cm hs h1 (hg g hg')]
    rfl
theorem in_chLev (hg : ∀ g ∈ gs, IsP n g) (hf : Few gs n 60) : ∀ i, LvG gs n (chLev n p Ts gs i).1 ∧ ∀ f ∈ (chLev n p Ts gs i).2, ∀ g ∈ f.1, g ∈ gs
  | 0 => ⟨fun c hc => by
      obtain ⟨g, hg', rfl⟩ := List.mem_map.mp hc
      exact ⟨.one hg hg', fun x hx => by rw [List.mem_singleton.mp hx]; exact hg'⟩, fun f hf' => by cases hf'⟩
  | i + 1 => by
    obtain ⟨h1, h2⟩ := in_chLev hg hf i
    have hk := in_lfM (p := p) (Ts := Ts) hg h1
    refine ⟨in_nx hg hf hk, fun f hf' => ?_⟩
    rcases List.mem_append.mp hf' with z | z
    · exact h2 f z
    · obtain ⟨k, hk', rfl⟩ := List.mem_map.mp z
      exact (hk k hk').2
theorem rn_chLev (hs : IsP n s) (h : Paired (Rn s n) Ts' Ts) (hg : ∀ g ∈ gs, IsP n g) (hf : Few gs n 60) (hT : InG gs n Ts) : ∀ i, chLev n p Ts' (gs.map (cj s)) i = ((chLev n p Ts gs i).1.map (rnC s), (chLev n p Ts gs i).2.map (rnF s))
  | 0 => by
    unfold chLev
    rw [List.map_map, List.map_map]
    rfl
  | i + 1 => by
    have h1 := (in_chLev (p := p) (Ts := Ts) hg hf i).1
    have hk := in_lfM (p := p) (Ts := Ts) hg h1
    unfold chLev
    rw [rn_chLev hs h hg hf hT i, rn_lfM hs h hg hf hT h1, rn_nx hs hg hk]
    dsimp only
    rw [List.map_append, List.map_map, List.map_map]
    rfl
end
end Lt

set_option Elab.async false
set_option linter.all false
set_option maxRecDepth 100000
set_option maxHeartbeats 1000000
/-! chains' rows, their places called otherwise; what rows come to -/
namespace Lt
open PySem PySem.Spec PyProof.Rows L2
def StP (n : Nat) (ss : List StepT) : Prop := ∀ x ∈ ss, IsP n x.2.1 ∧ IsP n x.2.2
theorem StP.app {n : Nat} {a b : List StepT} (h : StP n a) (k : StP n b) : StP n (a ++ b) := fun x hx => (List.mem_append.mp hx).elim (h x) (k x)
theorem StP.undo {n : Nat} {a : List StepT} (h : StP n a) : StP n (undoL a) := fun x hx => by
  obtain ⟨y, hy, rfl⟩ := List.mem_map.mp hx
  obtain ⟨h1, h2⟩ := h y (List.mem_reverse.mp hy)
  exact ⟨h1.inv, h2.inv⟩
theorem StP.one {n o : Nat} {t : List Nat} (h : IsP n t) : StP n [(o, List.range n, t)] := fun x hx => by
  rw [List.mem_singleton.mp hx]
  exact ⟨.still n, h⟩
section
variable {s : List Nat} {n : Nat}
theorem rn_undo (hs : IsP n s) {ss : List StepT} (h : StP n ss) : (undoL ss).map (rnS s) = undoL (ss.map (rnS s)) := by
  unfold undoL
  rw [List.map_map, ← List.map_reverse, List.map_map]
  refine List.map_congr_left fun x hx => ?_
  obtain ⟨h1, h2⟩ := h x (List.mem_reverse.mp hx)
  show (x.1, cj s (inv x.2.1), cj s (inv x.2.2)) = (x.1, inv (cj s x.2.1), inv (cj s x.2.2))
  rw [cj_inv hs h1, cj_inv hs h2]
theorem bs_P : ∀ (r : List (List Nat × Nat)) (ss : List StepT) (t : List Nat), (∀ x ∈ r, IsP n x.1) → StP n ss → IsP n t → StP n (bsM n r ss t).1 ∧ IsP n (bsM n r ss t).2
  | [], _, _, _, h, k => ⟨h, k⟩
  | (u, o) :: r, ss, t, hr, h, k => by
    have hu := hr (u, o) List.mem_cons_self
    exact bs_P r _ _ (fun x hx => hr x (List.mem_cons_of_mem _ hx)) (((h.app (StP.one hu)).app h.undo).app (StP.one hu.inv)) (k.cm hu)
theorem rn_bs (hs : IsP n s) : ∀ (r : List (List Nat × Nat)) (ss : List StepT) (t : List Nat), (∀ x ∈ r, IsP n x.1) → StP n ss → IsP n t →
    bsM n (r.map fun x => (cj s x.1, x.2)) (ss.map (rnS s)) (cj s t) = ((bsM n r ss t).1.map (rnS s), cj s (bsM n r ss t).2)
  | [], _, _, _, _, _ => rfl
  | (u, o) :: r, ss, t, hr, h, k => by
    have hu := hr (u, o) List.mem_cons_self
    have ih := rn_bs hs r (ss ++ [(o, List.range n, u)] ++ undoL ss ++ [(o, List.range n, inv u)]) (cm t u) (fun x hx => hr x (List.mem_cons_of_mem _ hx)) (((h.app (StP.one hu)).app h.undo).app (StP.one hu.inv)) (k.cm hu)
    rw [List.map_cons]
    unfold bsM
    rw [← ih]
    congr 1
    · rw [List.map_append, List.map_append, List.map_append, rn_undo hs h]
      congr 1
      · congr 1
        congr 1
        show [(o, List.range n, cj s u)] = [(o, cj s (List.range n), cj s u)]
        rw [cj_still hs]
      · show [(o, List.range n, inv (cj s u))] = [(o, cj s (List.range n), cj s (inv u))]
        rw [cj_still hs, cj_inv hs hu]
    · exact (cj_cm hs k hu).symm
theorem zip_P {gv : List (List Nat)} {os : List Nat} (h : ∀ g ∈ gv, IsP n g) : ∀ x ∈ gv.tail.zip os.tail, IsP n x.1 := fun x hx => h x.1 (List.mem_of_mem_tail (List.of_mem_zip hx).1)
theorem head_P {gv : List (List Nat)} (h : ∀ g ∈ gv, IsP n g) (h1 : gv ≠ []) : IsP n (gv.headD []) := by
  cases gv with
  | nil => exact absurd rfl h1
  | cons g r => exact h g List.mem_cons_self
theorem bsT_P {gv : List (List Nat)} {os : List Nat} (h : ∀ g ∈ gv, IsP n g) (h1 : gv ≠ []) : StP n (bsT n gv os).1 ∧ IsP n (bsT n gv os).2 := bs_P _ _ _ (zip_P h) (StP.one (head_P h h1)) (head_P h h1)
theorem rn_bsT (hs : IsP n s) {gv : List (List Nat)} {os : List Nat} (h : ∀ g ∈ gv, IsP n g) (h1 : gv ≠ []) : bsT n (gv.map (cj s)) os = ((bsT n gv os).1.map (rnS s), cj s (bsT n gv os).2) := by
  have z := rn_bs hs (gv.tail.zip os.tail) [(os.headD 0, List.range n, gv.headD [])] (gv.headD []) (zip_P h) (StP.one (head_P h h1)) (head_P h h1)
  unfold bsT
  rw [← z]
  cases gv with
  | nil => exact absurd rfl h1
  | cons g r =>
    show bsM n ((r.map (cj s)).zip os.tail) [(os.headD 0, List.range n, cj s g)] (cj s g) = bsM n ((r.zip os.tail).map _) [(os.headD 0, cj s (List.range n), cj s g)] (cj s g)
    rw [cj_still hs, List.zip_map_left]
    rfl
def XP (n : Nat) (x : CrX) : Prop := StP n x.1 ∧ IsP n x.2.1
theorem crStep_P {k : Nat} {gv : List (List Nat)} (h : ∀ g ∈ gv, IsP n g) (h1 : gv ≠ []) {x : CrX} (hx : XP n x) : XP n (crStep n k gv x) := by
  unfold crStep
  split
  · obtain ⟨a, b⟩ := bsT_P (os := crOwn k gv x.2.2) h h1
    exact ⟨hx.1.app a, hx.2.prod b⟩
  · exact hx
theorem rn_crStep (hs : IsP n s) {k : Nat} {gv : List (List Nat)} (h : ∀ g ∈ gv, IsP n g) (h1 : gv ≠ []) {x : CrX} (hx : XP n x) : crStep n k (gv.map (cj s)) (rnX s x) = rnX s (crStep n k gv x) := by
  have eo : crOwn k (gv.map (cj s)) x.2.2 = crOwn k gv x.2.2 := by unfold crOwn; rw [List.length_map]
  unfold crStep
  show (if x.2.2 < k then _ else _) = _
  split
  · obtain ⟨a, b⟩ := bsT_P (os := crOwn k gv x.2.2) h h1
    show (x.1.map (rnS s) ++ (bsT n (gv.map (cj s)) (crOwn k (gv.map (cj s)) x.2.2)).1, prod (cj s x.2.1) (bsT n (gv.map (cj s)) (crOwn k (gv.map (cj s)) x.2.2)).2, x.2.2 + (gv.map (cj s)).length) = rnX s _
    rw [eo, rn_bsT hs h h1, List.length_map]
    show _ = ((x.1 ++ _).map (rnS s), cj s (prod _ _), _)
    rw [List.map_append, cj_prod hs hx.2 b]
  · rfl
theorem crIt_P {k : Nat} {gv : List (List Nat)} (h : ∀ g ∈ gv, IsP n g) (h1 : gv ≠ []) {x : CrX} (hx : XP n x) : ∀ i, XP n (crIt n k gv i x)
  | 0 => hx
  | i + 1 => crStep_P h h1 (crIt_P h h1 hx i)
theorem rn_crIt (hs : IsP n s) {k : Nat} {gv : List (List Nat)} (h : ∀ g ∈ gv, IsP n g) (h1 : gv ≠ []) {x : CrX} (hx : XP n x) : ∀ i, crIt n k (gv.map (cj s)) i (rnX s x) = rnX s (crIt n k gv i x)
  | 0 => rfl
  | i + 1 => by
    unfold crIt
    rw [rn_crIt hs h h1 hx i, rn_crStep hs h h1 (crIt_P h h1 hx i)]
def FsP (n : Nat) (fs : List Fz) : Prop := ∀ f ∈ fs, (∀ g ∈ f.1, IsP n g) ∧ f.1 ≠ []
theorem crAll_P {p k : Nat} : ∀ (fs : List Fz) {x : CrX}, FsP n fs → XP n x → XP n (crAll n p k fs x)
  | [], _, _, hx => hx
  | (gv, len) :: r, x, h, hx => crAll_P r (fun f hf => h f (List.mem_cons_of_mem _ hf)) (crIt_P (h (gv, len) List.mem_cons_self).1 (h (gv, len) List.mem_cons_self).2 hx _)
theorem rn_crAll (hs : IsP n s) {p k : Nat} : ∀ (fs : List Fz) {x : CrX}, FsP n fs → XP n x → crAll n p k (fs.map (rnF s)) (rnX s x) = rnX s (crAll n p k fs x)
  | [], _, _, _ => rfl
  | (gv, len) :: r, x, h, hx => by
    obtain ⟨h1, h2⟩ := h (gv, len) List.mem_cons_self
    rw [List.map_cons]
    show crAll n p k (r.map (rnF s)) (crIt n k (gv.map (cj s)) (p ^ len - 1) (rnX s x)) = _
    rw [rn_crIt hs h1 h2 hx, rn_crAll hs r (fun f hf => h f (List.mem_cons_of_mem _ hf)) (crIt_P h1 h2 hx _)]
    rfl
theorem xp0 : XP n ([], List.range n, 0) := ⟨fun x hx => (by cases hx), IsP.still n⟩
theorem chRow_P {p k : Nat} {fs : List Fz} (h : FsP n fs) : XP n (chRow n p k fs) := crAll_P fs h xp0
theorem rn_chRow (hs : IsP n s) {p k : Nat} {fs : List Fz} (h : FsP n fs) : chRow n p k (fs.map (rnF s)) = rnX s (chRow n p k fs) := by
  have z := rn_crAll hs (p := p) (k := k) fs h (xp0 (n := n))
  unfold chRow
  rw [← z]
  show _ = crAll n p k _ ([], cj s (List.range n), 0)
  rw [cj_still hs]
theorem chsP {p : Nat} {x : StepT} (h1 : IsP n x.2.1) (h2 : IsP n x.2.2) : IsP n (chs p x) := by
  unfold chs
  split
  · exact h2
  · exact h1
/-- what a row comes to, its places called otherwise -/
theorem rn_valK (hs : IsP n s) {ss : List StepT} (h : StP n ss) (p : Nat) : valK n (ss.map (rnS s)) p = cj s (valK n ss p) := by
  have go : ∀ (ss : List StepT) (c : List Nat), StP n ss → IsP n c → (ss.map (rnS s)).foldl (fun c s => prod c (chs p s)) (cj s c) = cj s (ss.foldl (fun c s => prod c (chs p s)) c) ∧ IsP n (ss.foldl (fun c s => prod c (chs p s)) c) := by
    intro ss
    induction ss with
    | nil => intro c _ hc; exact ⟨rfl, hc⟩
    | cons x ss ih =>
      intro c h hc
      obtain ⟨h1, h2⟩ := h x List.mem_cons_self
      have hx : IsP n (chs p x) := chsP h1 h2
      have ex : chs p (rnS s x) = cj s (chs p x) := by
        unfold chs
        show (if p / 2 ^ x.1 % 2 = 1 then cj s x.2.2 else cj s x.2.1) = _
        split <;> rfl
      rw [List.map_cons, List.foldl_cons, List.foldl_cons, ex, ← cj_prod hs hc hx]
      exact ih _ (fun y hy => h y (List.mem_cons_of_mem _ hy)) (hc.prod hx)
  have z := (go ss (List.range n) h (.still n)).1
  rw [cj_still hs] at z
  exact z
theorem valK_P {ss : List StepT} (h : StP n ss) (p : Nat) : IsP n (valK n ss p) := by
  have go : ∀ (ss : List StepT) (c : List Nat), StP n ss → IsP n c → IsP n (ss.foldl (fun c s => prod c (chs p s)) c) := by
    intro ss
    induction ss with
    | nil => intro c _ hc; exact hc
    | cons x ss ih =>
      intro c h hc
      obtain ⟨h1, h2⟩ := h x List.mem_cons_self
      exact ih _ (fun y hy => h y (List.mem_cons_of_mem _ hy)) (hc.prod (chsP h1 h2))
  exact go ss _ h (.still n)
end
end Lt

set_option Elab.async false
set_option linter.all false
set_option maxRecDepth 100000
set_option maxHeartbeats 2000000
namespace Lt
open PySem PySem.Spec PyProof.Rows L2
theorem Tm1.self {ls : List (List Nat)} {n m : Nat} {T0 : List (List Nat)} (h : Tm1 ls ls n T0) (hls : ∀ g ∈ ls, IsP n g) (hf : Few ls n m) (hT : ∀ t, t ∈ T0 ↔ Mk ls n t) : Tm1 ls T0 n T0 :=
  ⟨h.sub, h.still, h.pr, fun t ht g hg => (hT _).mpr ((((hT t).mp ht).prod hls ((hT g).mp hg)).prod hls ((((hT g).mp hg).prod hls ((hT t).mp ht)).inv hls hf))⟩
end Lt

set_option Elab.async false
set_option linter.all false
set_option maxRecDepth 100000
set_option maxHeartbeats 2000000
namespace Lt
open PySem PySem.Spec PyProof.Rows L2
section
variable {P : Program} {w : World} {K : PySem.W.Frag} {mg : Str → Option Value} {base : Heap}
end
end Lt

set_option Elab.async false
set_option linter.all false
set_option maxRecDepth 100000
set_option maxHeartbeats 2000000
namespace Lt
open PySem PySem.Spec PyProof.Rows L2
section
variable {P : Program} {w : World} {K : PySem.W.Frag} {mg : Str → Option Value} {base : Heap} {CL CM : Addr}
end
end Lt

set_option Elab.async false
set_option linter.all false
set_option maxRecDepth 100000
set_option maxHeartbeats 2000000
namespace Lt
open PySem PySem.Spec PyProof.Rows L2
section
variable {P : Program} {w : World} {K : PySem.W.Frag} {mg : Str → Option Value} {base : Heap}
theorem dec_len (k : Nat) : decide (V.int (k : Int) = V.int 1) = decide (k = 1) := decide_eq_decide.mpr ⟨fun h => by injection h with h; omega, fun h => by rw [h]; rfl⟩
end
end Lt

set_option Elab.async false
set_option linter.all false
set_option maxRecDepth 100000
set_option maxHeartbeats 2000000
namespace Lt
open PySem PySem.Spec PyProof.Rows L2
section
variable {P : Program} {w : World} {K : PySem.W.Frag} {mg : Str → Option Value} {base : Heap}
end
end Lt

set_option Elab.async false
set_option linter.all false
set_option maxRecDepth 100000
set_option maxHeartbeats 2000000
namespace Lt
open PySem PySem.Spec PyProof.Rows L2
/-- k without its parts p -/
def strip (p : Nat) : Nat → Nat → Nat
  | 0, k => k
  | f + 1, k => if k % p = 0 ∧ 1 ≤ k ∧ 2 ≤ p then strip p f (k / p) else k
/-- the prime of whose power k is, from 1 on -/
def primeOf (k : Nat) : Option Nat := match (List.range' 2 (k - 1)).find? fun p => decide (k % p = 0) with
  | none => none
  | some p => if strip p 64 k = 1 then some p else none
theorem strip_id {p f k : Nat} (h : ¬ k % p = 0) : strip p f k = k := by
  cases f with
  | zero => rfl
  | succ f =>
    show (if k % p = 0 ∧ 1 ≤ k ∧ 2 ≤ p then _ else k) = k
    rw [if_neg fun z => h z.1]
theorem strip_div {p f k : Nat} (h : k % p = 0) (h1 : 1 ≤ k) (h2 : 2 ≤ p) : strip p (f + 1) k = strip p f (k / p) := if_pos ⟨h, h1, h2⟩
/-- enough turns are enough -/
theorem strip_more {p : Nat} (h2 : 2 ≤ p) : ∀ (f k : Nat), k ≤ f → ∀ f', k ≤ f' → 1 ≤ k → strip p f k = strip p f' k
  | 0, k, h, _, _, h1 => absurd h1 (by omega)
  | f + 1, k, h, 0, h', h1 => absurd h1 (by omega)
  | f + 1, k, h, f' + 1, h', h1 => by
    by_cases hk : k % p = 0
    · rw [strip_div hk h1 h2, strip_div hk h1 h2]
      have hd : k / p < k := Nat.div_lt_self (by omega) (by omega)
      have hp : 1 ≤ k / p := Nat.div_pos (Nat.le_of_dvd (by omega) (Nat.dvd_of_mod_eq_zero hk)) (by omega)
      exact strip_more h2 f (k / p) (by omega) f' (by omega) hp
    · rw [strip_id hk, strip_id hk]
section
variable {X : Cx}
theorem ip_fdivNN : PIp X .FloorDiv (fun x y H Q => ∃ n m : Nat, x = .int (n : Int) ∧ y = .int (m : Int) ∧ (1 ≤ m ∧ n < 1073741824 ∧ m < 1073741824) ∧ Q (.int ((n / m : Nat) : Int)) H) := by
  intro pins s σ H x y v u Q I r1 r2 h
  obtain ⟨n, m, rfl, rfl, hm, q⟩ := h
  obtain ⟨t, rfl⟩ := r1
  obtain ⟨t', rfl⟩ := r2
  have e : ((n : Int)).fdiv (m : Int) = ((n / m : Nat) : Int) := by
    rw [Int.fdiv_eq_ediv_of_nonneg _ (by omega), Int.natCast_ediv]
  refine ifloordiv_int (by omega) ?_ (.inl (PyProof.noPylong_small (by omega)))
  rw [e]
  exact ⟨.int _, H, I.tok _, ⟨_, rfl⟩, q⟩
theorem op_modNN : OpR X (binaryOp .Mod) (fun x y H Q => ∃ n m : Nat, x = .int (n : Int) ∧ y = .int (m : Int) ∧ 1 ≤ m ∧ Q (.int ((n % m : Nat) : Int)) H) := by
  intro pins s σ H x y v u Q I rx ry h
  obtain ⟨n, m, rfl, rfl, c, q⟩ := h
  refine op_modN pins s σ H _ _ v u Q I rx ry ⟨_, _, rfl, rfl, by omega, ?_⟩
  have e : Int.fmod (n : Int) (m : Int) = ((n % m : Nat) : Int) := by rw [Int.fmod_eq_emod_of_nonneg _ (by omega), Int.natCast_emod]
  show Q (.int (Int.fmod (n : Int) (m : Int))) H
  rw [e]
  exact q
end
section
variable {P : Program} {w : World} {K : PySem.W.Frag} {mg : Str → Option Value} {base : Heap} {CL CM : Addr}
theorem dec_zero (k : Nat) : decide (V.int (k : Int) = V.int 0) = decide (k = 0) := decide_eq_decide.mpr ⟨fun h => by injection h with h; omega, fun h => by rw [h]; rfl⟩
def ovN : Option Nat → V
  | none => .non
  | some p => nI p
def spPrime : Sp := fun vs H Q _ => ∃ (v : V) (ls : List (List Nat)) (n : Nat), vs = [v] ∧ Good H v ls n ∧ ∀ H' (T0 : List (List Nat)), Same H H' → T0.Nodup → (∀ t, t ∈ T0 ↔ Mk ls n t) → Q (ovN (primeOf T0.length)) H'
theorem sc_prime : FnScope ["lock", "many", "part"] ["lock"] (defScope s_prime) := ⟨rfl, rfl, rfl, by decide +kernel, rfl, by decide +kernel, by decide +kernel⟩
theorem has_prime (T : Top K mg "prime" s_prime ["lock"]) (B : Bi mg) (hA : Has P w K mg base (L2.CX P w) 6 "all_turns" ["lock"] (spAll CL CM)) : Has P w K mg base CX0 7 "prime" ["lock"] spPrime := by
  refine T.ok sc_prime (fun vs H Q E h => ?_) (fun f cdv A outer s H vs Q E hr h => ?_)
  · obtain ⟨v, ls, n, rfl, _⟩ := h
    rfl
  · obtain ⟨v, ls, n, rfl, g, q⟩ := h
    refine ⟨_, pss_cons (ps_set (i := 1) sc_prime.nd rfl (Or.inl rfl) (pe_callB call_len_seq (by rfl) B.len PySem.boot_len (pa_cons (pe_hasL hA hr (by rfl) (pa_cons (pv 0) pa_nil)) pa_nil)))
      (pss_cons (ps_for PassesOwn.never rfl (pi_range2 (by rfl) B.range (pa_cons pe_int (pa_cons (pe_op op_add (pv 1) pe_int) pa_nil))) (pg_name (i := 2) sc_prime.nd rfl (Or.inl rfl))
        (pss_one (ps_if (pt_cmpR op_eq (pe_op op_modNN (pv 1) (pv 2)) pe_int (nomark _))
          (pss_cons (ps_while PassesOwn.never (pt_cmpR op_eq (pe_op op_modNN (pv 1) (pv 2)) pe_int (nomark _)) (pss_one (ps_aug (i := 1) sc_prime.nd rfl (Or.inl rfl) (pv 2) ip_fdivNN)))
          (pss_one (ps_ret (pe_ifExp (pt_cmpR op_eq (pv 1) pe_int (nomark _)) (pv 2) pe_non)))) pss_nil)))
      (pss_one (ps_ret pe_non))), ?_⟩
    refine ⟨_, rfl, v, rfl, lockIn_good g.tt g.gl g.few (by omega) fun L hL h240 => ⟨?_, fun r0 H1 T0 s1 htt hperm hasc => ?_⟩⟩
    · obtain ⟨_, _, _, z⟩ := g.few.wd (by omega) hL
      omega
    have eL := g.wd hL
    subst eL
    have hnd : T0.Nodup := (List.Perm.nodup_iff hperm).mpr (by rw [LL_eq]; exact qq_nd ls n 300)
    have hmem : ∀ t, t ∈ T0 ↔ Mk ls n t := fun t => (hperm.mem_iff).trans (g.mem t)
    have h63 := g.few.le hnd fun t h => (hmem t).mp h
    have h1 : 1 ≤ T0.length := List.length_pos_of_mem ((hmem _).mpr .still)
    obtain ⟨ta, tx, rfl, hta, pt⟩ := htt
    have hl := Paired.length pt
    refine ⟨ta, tx, rfl, .inr (SqT.of hta), ?_⟩
    rw [hl]
    have Q' : ∀ H', Same H1 H' → Q (ovN (primeOf T0.length)) H' := fun H' s => q H' T0 (s1.trans s) hnd hmem
    generalize hk : T0.length = k at *
    refine ⟨_, rfl, (k : Int), 1, rfl, rfl, 2, (k : Int) + 1, rfl, ⟨by omega, by omega, by omega, by omega⟩, for_range (lo := 2) (n := ((k : Int) + 1 - 2).toNat)
      (fun i σ H' => ∃ x2, σ = [some v, some (nI k), x2] ∧ Same H1 H' ∧ ∀ j, j < i → ¬ k % (2 + j) = 0) ⟨none, rfl, .refl _, fun j hj => absurd hj (Nat.not_lt_zero j)⟩ ?_ ?_⟩
    · rintro i σ H' hi ⟨x2, rfl, st, hno⟩
      rw [show (2 + (i : Int)) = ((2 + i : Nat) : Int) by omega]
      have hi2 : i + 2 ≤ k := by omega
      refine ⟨_, rfl, _, rfl, k, 2 + i, rfl, rfl, by omega, rfl, decide (k % (2 + i) = 0), congrArg V.bl (dec_zero _), ?_⟩
      by_cases hd : k % (2 + i) = 0
      · rw [decide_eq_true hd]
        have hfind : primeOf k = if strip (2 + i) 64 k = 1 then some (2 + i) else none := by
          unfold primeOf
          have e : (List.range' 2 (k - 1)).find? (fun p => decide (k % p = 0)) = some (2 + i) := by
            rw [List.find?_range'_eq_some]
            refine ⟨decide_eq_true hd, ?_, fun j h1 h2 => ?_⟩
            · simp only [List.mem_range'_1]
              omega
            · obtain ⟨m, rfl⟩ : ∃ m, j = 2 + m := ⟨j - 2, by omega⟩
              simpa using hno m (by omega)
          rw [e]
        refine iteT ⟨fun m σ2 H2 => ∃ y, σ2 = [some v, some (nI y), some (nI (2 + i))] ∧ Same H1 H2 ∧ m = y ∧ 1 ≤ y ∧ y ≤ 63 ∧ strip (2 + i) 64 k = strip (2 + i) 64 y, ⟨k, k, rfl, st, rfl, h1, h63, rfl⟩, ?_⟩
        rintro m σ2 H2 ⟨y, rfl, st2, rfl, hy1, hy2, hs⟩
        refine ⟨_, rfl, _, rfl, m, 2 + i, rfl, rfl, by omega, rfl, decide (m % (2 + i) = 0), congrArg V.bl (dec_zero _), ?_⟩
        by_cases hm : m % (2 + i) = 0
        · rw [decide_eq_true hm]
          have hlt : m / (2 + i) < m := Nat.div_lt_self (by omega) (by omega)
          have hpos : 1 ≤ m / (2 + i) := Nat.div_pos (Nat.le_of_dvd (by omega) (Nat.dvd_of_mod_eq_zero hm)) (by omega)
          refine iteT ⟨fun σ3 H3 => σ3 = [some v, some (nI (m / (2 + i))), some (nI (2 + i))] ∧ Same H1 H3, fun σ3 H3 ⟨e1, e2⟩ => ⟨m / (2 + i), hlt, m / (2 + i), e1, e2, rfl, hpos, by omega, ?_⟩, ?_⟩
          · rw [hs, strip_div hm hy1 (by omega)]
            exact strip_more (by omega) 63 _ (by omega) 64 (by omega) hpos
          · exact ⟨_, rfl, _, rfl, m, 2 + i, rfl, rfl, ⟨by omega, by omega, by omega⟩, rfl, st2⟩
        · rw [decide_eq_false hm]
          rw [strip_id hm] at hs
          refine iteF ⟨_, rfl, rfl, decide (m = 1), congrArg V.bl (dec_len m), ?_⟩
          by_cases h1m : m = 1
          · rw [decide_eq_true h1m]
            rw [hs, if_pos h1m] at hfind
            have z := Q' H2 st2
            rw [hfind] at z
            exact iteT ⟨_, rfl, z⟩
          · rw [decide_eq_false h1m]
            rw [hs, if_neg h1m] at hfind
            have z := Q' H2 st2
            rw [hfind] at z
            exact iteF z
      · rw [decide_eq_false hd]
        refine iteF ⟨_, rfl, st, fun j hj => ?_⟩
        by_cases e : j = i
        · rw [e]
          exact hd
        · exact hno j (by omega)
    · rintro σ H' ⟨x2, rfl, st, hno⟩
      have z := Q' H' st
      have e : primeOf k = none := by
        unfold primeOf
        have e2 : (List.range' 2 (k - 1)).find? (fun p => decide (k % p = 0)) = none := by
          rw [List.find?_eq_none]
          intro p hp
          have hp2 : 2 ≤ p ∧ p < 2 + (k - 1) := List.mem_range'_1.mp hp
          obtain ⟨m, rfl⟩ : ∃ m, p = 2 + m := ⟨p - 2, by omega⟩
          simpa using hno m (by omega)
        rw [e2]
      rw [e] at z
      exact z
end
end Lt

set_option Elab.async false
set_option linter.all false
set_option maxRecDepth 100000
set_option maxHeartbeats 1000000
/-! the locks of a prime's power, one by one -/
namespace Lt
open PySem PySem.Spec PyProof.Rows L2
/-- the chains worked out, what the rest may lean on asked at each turn -/
def chGo (n p : Nat) (Ts : LLN) (gs : List (List Nat)) : Nat → Nat → List Cz → List Fz → Option (List Fz)
  | 0, _, lv, fd => if lv.isEmpty then some fd else none
  | f + 1, i, lv, fd =>
    if lv.isEmpty then some fd
    else if decide (lv.length ≤ 200) && decide ((lfPow n p Ts (i + 1) 64 1).length < 64) && (lfPws n p Ts (i + 1)).all (fun q => decide (q ≤ 64)) then
      (fun kept => chGo n p Ts gs f (i + 1) (nxLev gs kept) (fd ++ kept.map fun k => (k.1, k.2.2))) (lfM n p Ts lv)
    else none
def okW (gs : List (List Nat)) (n p : Nat) (Ts : LLN) (fs : List Fz) (told : Nat) : Bool :=
  decide (2 ≤ p) && decide (p ≤ 63) && decide (wCnt n p Ts 64 1 < 64) && decide (chGo n p Ts gs 8 0 (gs.map fun g => ([g], g)) [] = some fs) && (fs.all fun f => decide (p ^ f.2 ≤ 1000) && decide (f.1.length ≤ 9)) && decide (toldN n p Ts = told)
def okR (gs : List (List Nat)) (n p k : Nat) (fs : List Fz) : Bool :=
  decide ((chRow n p k fs).1.length ≤ 1000) && ((chRow n p k fs).1.all fun s => decide (s.1 < k) && decide (s.2.1 ∈ (LL gs n).map (·.1)) && decide (s.2.2 ∈ (LL gs n).map (·.1))) && decide ((chRow n p k fs).2.1 ∈ (LL gs n).map (·.1)) &&
  (List.range (2 ^ k)).all fun x => decide (decide (valK n (chRow n p k fs).1 x = (chRow n p k fs).2.1) = decide (x + 1 = 2 ^ k))
def serB (gs : List (List Nat)) (n : Nat) : LLN := serF gs n 64 ((LL gs n).map (·.1))
/-- a lock, its prime, its terms, chains and number as they come -/
structure Bas where
  gs : List (List Nat)
  n : Nat
  p : Nat
  Ts : LLN
  fs : List Fz
  told : Nat
def Bas.ok (b : Bas) : Bool := decide (primeOf (LL b.gs b.n).length = some b.p) && decide (serB b.gs b.n = b.Ts) && okW b.gs b.n b.p b.Ts b.fs b.told && (List.range 6).all fun i => decide (b.told ≤ i) || okR b.gs b.n b.p (i + 1) b.fs
end Lt

set_option Elab.async false
set_option linter.all false
set_option maxHeartbeats 1000000
namespace Lt
/-- there is one next term -/
theorem Nx.one {ms A B C : List (List Nat)} {n : Nat} (hn : n ≤ 9) (hP : ∀ b ∈ brk A ms, IsP n b) (h1 : Nx ms n A B) (h2 : Nx ms n A C) : B = C :=
  asc_one hn (fun t ht => ((h1.mem t).mp ht).isP hP) ((List.perm_ext_iff_of_nodup h1.nd h2.nd).mpr fun t => (h1.mem t).trans (h2.mem t).symm) h1.asc h2.asc
/-- the given turns or all turns: the same next term -/
theorem brk_whole {ls A T0 : List (List Nat)} {n m : Nat} (hls : ∀ g ∈ ls, IsP n g) (hf : Few ls n m) (hT : ∀ t, t ∈ T0 ↔ Mk ls n t) (At : Tm1 ls ls n A) (t : List Nat) : Mk (brk A ls) n t ↔ Mk (brk A T0) n t := by
  have hA : ∀ t ∈ A, IsP n t := fun t ht => (At.sub t ht).isP hls
  have hT0 : ∀ t ∈ T0, IsP n t := fun t ht => ((hT t).mp ht).isP hls
  have b1 : ∀ b ∈ brk A ls, IsP n b := fun b hb => by
    obtain ⟨x, h1, y, h2, rfl⟩ := brk_mem.mp hb
    exact (hA x h1).cm (hls y h2)
  have b2 : ∀ b ∈ brk A T0, IsP n b := fun b hb => by
    obtain ⟨x, h1, y, h2, rfl⟩ := brk_mem.mp hb
    exact (hA x h1).cm (hT0 y h2)
  have hfb : Few (brk A ls) n m := hf.sub fun t ht => ht.mono hls fun b hb => by
    obtain ⟨x, h1, y, h2, rfl⟩ := brk_mem.mp hb
    exact At.sub _ (At.cm x h1 y h2)
  refine ⟨fun h => h.mono b2 fun b hb => ?_, fun h => h.mono b1 fun b hb => ?_⟩
  · obtain ⟨x, h1, y, h2, rfl⟩ := brk_mem.mp hb
    exact .one b2 (brk_mem.mpr ⟨x, h1, y, (hT y).mpr (.one hls h2), rfl⟩)
  · obtain ⟨x, h1, y, h2, rfl⟩ := brk_mem.mp hb
    exact cm_all (N := fun t => t ∈ A) (gs := ls) (fun t ht => hA t ht) hls b1 hfb (fun t g ht hg => At.cm t ht g hg) (fun t g ht hg => brk_mem.mpr ⟨t, ht, g, hg, rfl⟩) ((hT y).mp h2) x h1
theorem Nx.whole {ls A B T0 : List (List Nat)} {n m : Nat} (hls : ∀ g ∈ ls, IsP n g) (hf : Few ls n m) (hT : ∀ t, t ∈ T0 ↔ Mk ls n t) (At : Tm1 ls ls n A) : Nx ls n A B ↔ Nx T0 n A B :=
  ⟨fun h => ⟨h.nd, h.asc, fun t => (h.mem t).trans (brk_whole hls hf hT At t)⟩, fun h => ⟨h.nd, h.asc, fun t => (h.mem t).trans (brk_whole hls hf hT At t).symm⟩⟩
/-- a next term that is less is at most half -/
theorem Nx.half {ls ms A B : List (List Nat)} {n m : Nat} (hls : ∀ g ∈ ls, IsP n g) (hms : ∀ g ∈ ms, IsP n g) (hf : Few ls n m) (At : Tm1 ls ms n A) (h : Nx ms n A B) (hne : B.length ≠ A.length) (hA : A.Nodup) : 2 * B.length ≤ A.length := by
  obtain ⟨Bt, Bs⟩ := At.next hls hms h
  have hAP : ∀ t ∈ A, IsP n t := fun t ht => (At.sub t ht).isP hls
  have bP : ∀ b ∈ brk A ms, IsP n b := fun b hb => by
    obtain ⟨x, h1, y, h2, rfl⟩ := brk_mem.mp hb
    exact (hAP x h1).cm (hms y h2)
  have hfb : Few (brk A ms) n m := hf.sub fun t ht => Bt.sub t ((h.mem t).mpr ht)
  obtain ⟨t, ht, hn⟩ : ∃ t ∈ A, t ∉ B := Classical.byContradiction fun z => by
    have l1 := nodup_len A B hA fun t ht => Classical.byContradiction fun y => z ⟨t, ht, y⟩
    have l2 := nodup_len B A h.nd Bs
    omega
  exact Lt.half hAP h.nd Bs At.pr (fun a ha b hb => (h.mem _).mpr ((((h.mem a).mp ha).inv bP hfb).prod bP ((h.mem b).mp hb))) ht hn
end Lt

set_option Elab.async false
set_option linter.all false
set_option maxRecDepth 100000
set_option maxHeartbeats 4000000
/-! set(xs) of a long list of tuples of ints, of which few are unlike -/
namespace L2
open PySem PySem.Spec PyProof.Rows
/-- few unlike ones among the items -/
def FewOf (ks : List (Addr × List Int)) : Prop := ∀ L : List (Addr × List Int), (L.map (·.2)).Nodup → (∀ p ∈ L, p ∈ ks) → L.length ≤ 62
/-- what is held when the first i items have been added -/
def Held (ks : List (Addr × List Int)) (i : Nat) (L : List (Addr × List Int)) : Prop := (∀ p ∈ L, p ∈ ks) ∧ ∀ j p, j < i → ks[j]? = some p → p.2 ∈ L.map (·.2)
theorem Held.zero (ks : List (Addr × List Int)) : Held ks 0 [] := ⟨fun p z => (nomatch z), fun j p z => absurd z (Nat.not_lt_zero j)⟩
theorem Held.add {ks L L' : List (Addr × List Int)} {i : Nat} {p : Addr × List Int} (g : Held ks i L) (h : ks[i]? = some p) (h1 : p.2 ∈ L.map (·.2) → L' = L) (h2 : p.2 ∉ L.map (·.2) → L'.Perm (p :: L)) : Held ks (i + 1) L' := by
  by_cases c : p.2 ∈ L.map (·.2)
  · rw [h1 c]
    refine ⟨g.1, fun j q hj e => ?_⟩
    by_cases ej : j = i
    · subst ej
      rw [h] at e
      rw [← Option.some.inj e]
      exact c
    · exact g.2 j q (by omega) e
  · have pm := h2 c
    refine ⟨fun q hq => ?_, fun j q hj e => ?_⟩
    · rcases List.mem_cons.mp (pm.mem_iff.mp hq) with z | z
      · rw [z]
        exact List.mem_of_getElem? h
      · exact g.1 q z
    · rw [(pm.map (·.2)).mem_iff, List.map_cons]
      by_cases ej : j = i
      · subst ej
        rw [h] at e
        rw [← Option.some.inj e]
        exact List.mem_cons_self
      · exact List.mem_cons_of_mem _ (g.2 j q (by omega) e)
section
variable {P : Program} {w : World} {A : Around} {E : Value → Shared → Prop} {s : Shared}
/-- a void set, just made -/
abbrev voidSet (w : World) : Obj := { cls := .type "set", dict := none, data := .set #[] 0 (.fresh 0 0 (!w.params.followText "set-order")) }
/-- the machine's loop that adds what is walked -/
theorem adds {I S : Addr} {fp wr : List Addr} {G : Array GenState → Array GenState → Prop} {n : Nat} {Pv : Nat → Value → Prop} {St : Nat → Shared → Prop} {R : Result → Shared → Prop} {ks : List (Addr × List Int)} {h0 : Heap}
    (W : WalksS P w A.in1 I fp wr G n Pv St) (out : S ∉ fp) (size : n = ks.length) (few : FewOf ks) (items : ∀ i v, Pv i v → ∃ p, ks[i]? = some p ∧ v = .ref p.1)
    (tups : ∀ p ∈ ks, IsT P w h0 p.2 p.1) (newS : h0.get? S = none) (newW : ∀ b ∈ wr, h0.get? b = none) (room : A.in1.units < cLine)
    (end_ : ∀ (s' : Shared) L es ep t, Moved (S :: wr) G s s' → SetTR P w s'.heap S L es ep t → Held ks n L → (∀ b o, h0.get? b = some o → s'.heap.get? b = some o) → R (.ok (.ret .none)) s') :
    ∀ (left i : Nat) (s1 : Shared), i + left = n → St i s1 → (∀ b o, h0.get? b = some o → s1.heap.get? b = some o) → Moved (S :: wr) G s s1 → (∃ L es ep t, SetTR P w s1.heap S L es ep t ∧ Held ks i L) →
      codeAny (model P w) A (.builtin "set.update.loop" ⟨[.ref S, .ref I], []⟩) R s1 := by
  have Sw : S ∉ wr := fun m => out (W.sub _ m)
  have wider : ∀ {s2 s3 : Shared}, Moved wr G s2 s3 → Moved (S :: wr) G s2 s3 := fun m => m.mono fun b hb => List.mem_cons_of_mem _ hb
  intro left
  induction left with
  | zero =>
    intro i s1 hi hst old mv ⟨L, es, ep, t, hS, g⟩
    obtain rfl : i = n := by omega
    refine codeAny_builtin F.entry_set_update_loop ?_
    rw [Around.under_plainId F.plain_set_update_loop _]
    show wpAny _ A.in1 (pyNext (.ref I) >>= _) _ _ s1
    refine wpAny_bind (W.done s1 _ _ hst fun s2 m => ?_)
    have old2 : ∀ b o, h0.get? b = some o → s2.heap.get? b = some o := fun b o e => m.heap b o (fun z => nomatch (newW b z).symm.trans e) (old b o e)
    show wpAny _ A.in1 (ret Value.none) _ _ s2
    exact wpAny_pure (end_ s2 L es ep t (Moved.trans W.gtrans mv (wider m)) (hS.keep (fun o e => m.heap S o Sw e) fun p hp => isT_keep (tups p (g.1 p hp)) old2) g old2)
  | succ left ih =>
    intro i s1 hi hst old mv ⟨L, es, ep, t, hS, g⟩
    refine codeAny_builtin F.entry_set_update_loop ?_
    rw [Around.under_plainId F.plain_set_update_loop _]
    show wpAny _ A.in1 (pyNext (.ref I) >>= _) _ _ s1
    refine wpAny_bind (W.item i s1 _ _ (by omega) hst fun v s2 hv hst2 m => ?_)
    obtain ⟨p, hp, rfl⟩ := items i v hv
    have old2 : ∀ b o, h0.get? b = some o → s2.heap.get? b = some o := fun b o e => m.heap b o (fun z => nomatch (newW b z).symm.trans e) (old b o e)
    have hS2 : SetTR P w s2.heap S L es ep t := hS.keep (fun o e => m.heap S o Sw e) fun q hq => isT_keep (tups q (g.1 q hq)) old2
    have hx : IsT P w s2.heap p.2 p.1 := isT_keep (tups p (List.mem_of_getElem? hp)) old2
    have short : L.length ≤ 62 := few L hS.nd g.1
    show wpAny _ A.in1 (holding [Value.ref p.1] (setAdd S (.ref p.1)) >>= _) _ _ s2
    refine wpAny_bind (wpAny_holding ?_)
    unfold setAdd
    refine wpAny_holding (wpAny_bind (wpAny_pyHash_tuple room hx ?_))
    refine add_at (s := { s2 with toks := s2.toks + (p.2.length + 1) }) hS2 hx room (by omega) fun b h3 L3 es3 ep3 t3 same hS3 c1 c2 => ?_
    have old3 : ∀ b o, h0.get? b = some o → h3.get? b = some o := fun b o e => (same.2 b (fun z => by subst z; exact nomatch newS.symm.trans e)).trans (old2 b o e)
    refine wpAny_pure ⟨plainId_quiet F.plain_set_update_loop _, ih (i + 1) _ (by omega) (W.frame _ s2 _ _ hst2 (Nat.le_add_right _ _) fun b hb o e => ?_) old3 (Moved.trans W.gtrans mv ((wider m).then_heap (Nat.le_add_right _ _) fun b o hb e => ?_)) ⟨L3, es3, ep3, t3, hS3, g.add hp c1 c2⟩⟩
    · exact (same.2 b (fun z => out (z ▸ hb))).trans e
    · exact (same.2 b (fun z => hb (z ▸ List.mem_cons_self))).trans e

set_option maxHeartbeats 3200000 in
/-- set(xs), xs a list of tuples of ints of which few are unlike -/
theorem made_set {l : Addr} {items : Array Value} {ks : List (Addr × List Int)} {Q : Value → Shared → Prop} (hh : A.handled = none) (hl : s.heap.IsList l items) (hit : items.toList = ks.map fun p => Value.ref p.1)
    (tups : ∀ p ∈ ks, IsT P w s.heap p.2 p.1) (few : FewOf ks) (room : A.units + 3 < cLine)
    (q : ∀ (h1 : Heap) (tk : Nat) L es ep t, SetTR P w h1 s.heap.objs.size L es ep t → Held ks ks.length L → (∀ b o, s.heap.get? b = some o → h1.get? b = some o) → Q (.ref s.heap.objs.size) { s with heap := h1, toks := tk }) :
    wpAny (model P w) A (call (.type "set") [.ref l]) Q E s := by
  have count : items.size = ks.length := by
    rw [← Array.length_toList, hit, List.length_map]
  have old : ∀ {b : Addr}, s.heap.objs.size ≤ b → s.heap.get? b = none := fun {b} hb => by
    cases e : s.heap.get? b with
    | none => rfl
    | some o => exact absurd (Nat.lt_of_lt_of_le (Heap.lt_size e) hb) (Nat.lt_irrefl _)
  obtain ⟨c, tl, hmro⟩ := F.called_set.mro
  have m1 := F.called_set.made
  have m2 := F.called_set.sub
  have m3 := F.called_set.notType
  have m4 := F.called_set.canCreate
  have m5 := F.typeCall_set_1 (.ref l)
  refine wpAny_call (codeAny_of_tree (show wpAny _ _ (callAny (.type "set") _) _ _ _ from wpAny_pure ⟨Code.quiet_builtin _ (by decide +kernel), codeAny_builtin F.entry_type_call ?_⟩))
  rw [Around.under_plain (weight_type_call_type "set" [.ref l] []) rfl]
  repeat any_goals first | assumption | wp_step
  refine codeAny_mono (code_set_led1 (.ref l) (E := E) (Q₁ := fun u s1 => u = .ref s.heap.objs.size ∧ s1 = { s with heap := s.heap.push (voidSet w) }) ⟨rfl, rfl⟩) fun r s1 hr => ?_
  cases r with
  | error e => exact hr
  | ok fl =>
  cases fl with
  | ret u =>
    obtain ⟨rfl, rfl⟩ := hr
    have hS : (s.heap.push (voidSet w)).get? s.heap.objs.size = some (voidSet w) := Heap.get?_push_size _ rfl
    have hT : Shared.TypeIs { s with heap := s.heap.push (voidSet w) } (.ref s.heap.objs.size) "set" := ⟨_, hS, rfl⟩
    have m6 := F.called_set.init.lookup
    have m7 := F.called_set.init.bind (.ref s.heap.objs.size)
    repeat any_goals first | assumption | wp_step
    refine codeAny_mono (codeAny_call_builtin (R := wants (fun r s2 => r = .none ∧ ∃ h1 tk L es ep t, s2 = { s with heap := h1, toks := tk } ∧ SetTR P w h1 s.heap.objs.size L es ep t ∧ Held ks ks.length L ∧ ∀ b o, s.heap.get? b = some o → h1.get? b = some o) E)
      F.called_set.init.plain F.entry_set_init (check_set_init_1 hT ?_)) fun r2 s2 hr2 => ?_
    · have hl1 : (s.heap.push (voidSet w)).IsList l items := hl.push _
      obtain ⟨⟨c1, d1, t1, z1⟩, g1, rfl, n1, rfl⟩ := id hl1
      have k1 := F.sub_list_set
      have k2 := F.sub_list_frozenset
      have k3 : (Value.type "list" == Value.type "dict") = false := by decide
      unfold Builtin.«set.__init__» noKeywords Builtin.Frozenset.updateFrom
      generalize eIt : pyIter = It
      wp_walk
      subst eIt
      refine wpAny_pyIter_list hl1 (wpAny_bind (wpAny_runValue ?_))
      have lS : l ≠ s.heap.objs.size := fun z => by
        obtain ⟨o, ho, _⟩ := hl
        exact absurd (z ▸ Heap.lt_size ho) (Nat.lt_irrefl _)
      have sz : (s.heap.push (voidSet w)).objs.size = s.heap.objs.size + 1 := Heap.size_push ..
      have lI : l ≠ (s.heap.push (voidSet w)).objs.size := fun z => by
        obtain ⟨o, ho, _⟩ := hl
        rw [sz] at z
        exact absurd (Nat.lt_succ_of_lt (z ▸ Heap.lt_size ho)) (Nat.lt_irrefl _)
      refine adds (S := s.heap.objs.size) (h0 := s.heap) ((Walks.list (by simp [hh]) _ l lI items).toS) (fun m => ?_) count few (fun i v hv => ?_) tups (old (Nat.le_refl _)) (fun b hb => old ?_) room (fun s3 L es ep t mv hS3 g keep => ?_) items.size 0 _ (Nat.zero_add _)
        ⟨⟨_, Heap.get?_push_size _ rfl, rfl, rfl⟩, hl1.push _⟩ (fun b o e => Heap.get?_push_of_some _ (Heap.get?_push_of_some _ e)) (Moved.refl fun _ => rfl) ⟨[], #[], 0, _, setTR_fresh (Heap.get?_push_of_some _ hS), Held.zero ks⟩
      · rw [sz] at m
        rcases List.mem_cons.mp m with z | m
        · exact absurd z (Nat.ne_of_lt (Nat.lt_succ_self _))
        · exact lS (List.mem_singleton.mp m).symm
      · have z : items.toList[i]? = some v := by rw [Array.getElem?_toList]; exact hv
        rw [hit, List.getElem?_map] at z
        obtain ⟨p, hp, e⟩ := Option.map_eq_some_iff.mp z
        exact ⟨p, hp, e.symm⟩
      · rw [List.mem_singleton.mp hb, sz]
        exact Nat.le_succ _
      · obtain ⟨h3, g3, d3, k3', o3⟩ := s3
        obtain rfl : g3 = s.gens := mv.gens
        obtain rfl : d3 = s.drawn := mv.drawn
        obtain rfl : o3 = s.os := mv.os
        show wpAny _ _ _ _ _ _
        refine wpAny_pure (show wpAny _ _ (ret Value.none) _ _ _ from wpAny_pure ⟨rfl, h3, k3', L, es, ep, t, rfl, hS3, ?_, keep⟩)
        rw [← count]
        exact g
    · cases r2 with
      | error e => exact hr2
      | ok fl2 =>
      cases fl2 with
      | ret u =>
        obtain ⟨rfl, h1, tk, L, es, ep, t, rfl, hS1, g, keep⟩ := hr2
        repeat any_goals first | assumption | wp_step
        exact q _ _ _ _ _ _ hS1 g keep
      | _ => exact hr2.elim
  | _ => exact hr.elim
end
section
variable {X : Cx}
/-- set(xs), xs a list of tuples of ints, of which few are unlike -/
def rSetFew (K : PySem.W.Frag) (P : Program) (w : World) : List V → Hp → VK → Prop := fun xs H Q => ∃ (l : Addr) (ks : List (Addr × List Int)), xs = [V.ref l] ∧ SqL K H l (ks.map fun p => V.ref p.1) ∧ (∀ p ∈ ks, SqT K H p.1 (p.2.map V.int)) ∧ FewOf ks ∧
  ∀ a L, H a = none → (∀ p ∈ L, p ∈ ks) → (∀ p ∈ ks, p.2 ∈ L.map (·.2)) → Q (.ref a) (upd H a (SetTO P w a L))
theorem cr_setFew (hc : X.calm = true) (hu : X.A.units + 64 < cLine) : CallR X (.type "set") (rSetFew X.K X.prog X.w) := by
  intro pins s σ H xs us Q I r h
  obtain ⟨l, ks, rfl, hl, hk, hf, q⟩ := h
  rw [Vals.ref1 r]
  obtain ⟨its, rv, pl, hz⟩ := I.list hl
  have hn : H s.heap.objs.size = none := I.hok.fresh (Nat.le_refl _)
  refine made_set (P := X.prog) (w := X.w) (ks := ks) (I.ok.hd hc) pl.isList (by simpa using refs_of_vals rv) (fun p hp => I.isT (hk p hp)) hf (by omega) fun h1 tk L es ep t R g k => ⟨.ref s.heap.objs.size, upd H s.heap.objs.size (SetTO X.prog X.w s.heap.objs.size L), ?_, rfl, ?_⟩
  · exact I.laid (t' := tk) k (Nat.le_refl _) (setTO_new R.t0)
  · refine q _ L hn g.1 fun p hp => ?_
    obtain ⟨j, hj, e⟩ := List.getElem_of_mem hp
    exact g.2 j p hj (by rw [List.getElem?_eq_getElem hj, e])
end
end L2

set_option Elab.async false
set_option linter.all false
set_option maxRecDepth 100000
set_option maxHeartbeats 4000000
namespace Lt
open PySem PySem.Spec PyProof.Rows L2
/-- a series of terms, the next one by commutators with M of the last -/
structure SerM (M : List (List Nat) → List (List Nat)) (n : Nat) (T0 : List (List Nat)) (Ts : List (List (List Nat))) : Prop where
  head : Ts[0]? = some T0
  step : ∀ i A B, Ts[i]? = some A → Ts[i + 1]? = some B → Nx (M A) n A B ∧ B.length ≠ A.length
  stop : ∀ i A, Ts[i]? = some A → Ts[i + 1]? = none → ∃ B, Nx (M A) n A B ∧ B.length = A.length
/-- what the terms are built with: all turns, or the term's -/
def Mb (b : Bool) (T0 A : List (List Nat)) : List (List Nat) := if b = true then T0 else A
/-- known turns in a list, known by name -/
def LV (H : Hp) (v : V) (ts : List (List Nat)) : Prop := ∃ a, v = .ref a ∧ LF H a ts
theorem LV.same {H H' : Hp} {v : V} {ts : List (List Nat)} (e : Same H H') (h : LV H v ts) : LV H' v ts := let ⟨a, e1, h1⟩ := h; ⟨a, e1, h1.same e⟩
theorem LVs.same {H H' : Hp} (e : Same H H') {xs : List V} {ts : List (List (List Nat))} (p : Paired (LV H) xs ts) : Paired (LV H') xs ts := paired_mono (fun _ _ r => r.same e) p
theorem tks_of {H : Hp} : ∀ {xs : List V} {ts : List (List Nat)}, Paired (TK H) xs ts → ∃ ks : List (Addr × List Int), xs = ks.map (fun p => V.ref p.1) ∧ ks.map (·.2) = ts.map iN ∧ ∀ p ∈ ks, ∃ t ∈ ts, p.2 = iN t ∧ TK H (.ref p.1) t
  | _, _, .nil => ⟨[], rfl, rfl, fun p h => by cases h⟩
  | _, _, .cons (a := x) (b := t) r s => by
    obtain ⟨ks, h1, h2, h3⟩ := tks_of s
    obtain ⟨a, e, ha⟩ := id r
    refine ⟨(a, iN t) :: ks, by rw [e, h1]; rfl, by rw [List.map_cons, h2]; rfl, fun p hp => ?_⟩
    rcases List.mem_cons.mp hp with z | hp
    · rw [z]
      exact ⟨t, List.mem_cons_self, rfl, a, rfl, ha⟩
    · obtain ⟨t', ht, z⟩ := h3 p hp
      exact ⟨t', List.mem_cons_of_mem _ ht, z⟩
theorem toN_iN (t : List Nat) : (iN t).map Int.toNat = t := by
  show (t.map Int.ofNat).map Int.toNat = t
  rw [List.map_map]
  exact (List.map_congr_left (g := id) fun _ _ => rfl).trans (List.map_id t)
/-- sorted(set(list of turns)) -/
theorem srt_set {P : Program} {w : World} {K : PySem.W.Frag} {H : Hp} {g n : Nat} {ga : Addr} {σ : L2.St} {xs : List V} {ts : List (List Nat)} {Q : List V → Hp → Prop} (hσ : σ[g]? = some (some (.ref ga))) (hga : H ga = some (.lst xs)) (p : Paired (TK H) xs ts) (hts : ∀ t ∈ ts, IsP n t) (h1 : 1 ≤ n) (h9 : n ≤ 9)
    (few : ∀ us : List (List Nat), us.Nodup → (∀ u ∈ us, u ∈ ts) → us.length ≤ 60) (q : ∀ sp H' us, Same H H' → LT H' sp us → us.Nodup → (∀ t, t ∈ us ↔ t ∈ ts) → us.length ≤ 60 → Q [.ref sp] H') :
    tCons (tCB (rSortedT K P w) (tCons (tCB (rSetFew K P w) (tCons (tVar g) tNil)) tNil)) tNil σ H Q := by
  obtain ⟨ks, e1, e2, e3⟩ := tks_of p
  have sq : ∀ p ∈ ks, SqT K H p.1 (p.2.map V.int) := fun p hp => by
    obtain ⟨t, _, e, a, ea, ha⟩ := e3 p hp
    cases ea
    rw [e, show (iN t).map V.int = nIs t from (nIs_int t).symm]
    exact SqT.of ha
  have hmk : ∀ p ∈ ks, p.2 = iN (p.2.map Int.toNat) ∧ p.2.map Int.toNat ∈ ts := fun p hp => by
    obtain ⟨t, ht, e, _⟩ := e3 p hp
    rw [e, toN_iN]
    exact ⟨rfl, ht⟩
  have ndm : ∀ L : List (Addr × List Int), (L.map (·.2)).Nodup → (∀ p ∈ L, p ∈ ks) → (L.map fun q => q.2.map Int.toNat).Nodup := fun L nd hL => by
    have e : (L.map fun q : Addr × List Int => q.2.map Int.toNat).map iN = L.map (·.2) := by
      rw [List.map_map]
      exact List.map_congr_left fun q hq => (hmk q (hL q hq)).1.symm
    rw [← e] at nd
    exact nodup_of_map nd
  refine ⟨_, hσ, ga, ks, rfl, SqL.of (by rw [hga, e1]), sq, fun L nd hL => ?_, fun a L ha hL1 hL2 => ?_⟩
  · have z := few _ (ndm L nd hL) fun u hu => by
      obtain ⟨q, hq, rfl⟩ := List.mem_map.mp hu
      exact (hmk q (hL q hq)).2
    rw [List.length_map] at z
    omega
  have s1 := same_new (o := SetTO P w a L) ha
  refine ⟨a, L, n, 9, rfl, upd_same, fun p hp => ?_, h1, fun p hp => ?_, fun L' sp pm nd h64 pw hsp => ?_⟩
  · rcases sq p (hL1 p hp) with (z | ⟨o, z⟩) | z
    · exact .inl (.inl (s1 _ _ z))
    · exact .inl (.inr ⟨o, s1 _ _ z⟩)
    · exact .inr z
  · obtain ⟨t, ht, e, _⟩ := e3 p (hL1 p hp)
    rw [e]
    exact ⟨by rw [iN_len, (hts t ht).len], bd_iN (hts t ht) h9⟩
  have s2 := same_new (o := .lst (L'.map fun q : Addr × List Int => V.ref q.1)) hsp
  have hL' : ∀ q ∈ L', q ∈ ks := fun q hq => hL1 q (pm.mem_iff.mp hq)
  refine q sp _ (L'.map fun q => q.2.map Int.toNat) (s1.trans s2) ⟨_, upd_same, ?_⟩ (ndm L' nd hL') (fun t => ⟨fun h => ?_, fun h => ?_⟩) ?_
  · refine paired_of_map fun q hq => ?_
    obtain ⟨t, _, e, z⟩ := e3 q (hL' q hq)
    rw [e, toN_iN]
    exact (z.tm (.of (s1.trans s2))).tn
  · obtain ⟨q, hq, rfl⟩ := List.mem_map.mp h
    exact (hmk q (hL' q hq)).2
  · have h1 : iN t ∈ ks.map (·.2) := by
      rw [e2]
      exact List.mem_map.mpr ⟨t, h, rfl⟩
    obtain ⟨p, hp, e⟩ := List.mem_map.mp h1
    obtain ⟨q, hq, e4⟩ := List.mem_map.mp (hL2 p hp)
    refine List.mem_map.mpr ⟨q, pm.mem_iff.mpr hq, ?_⟩
    rw [e4, e, toN_iN]
  · exact few _ (ndm L' nd hL') fun u hu => by
      obtain ⟨q, hq, rfl⟩ := List.mem_map.mp hu
      exact (hmk q (hL' q hq)).2
theorem cm_eq {n : Nat} {x y : List Nat} (hx : IsP n x) (hy : IsP n y) : prod (prod x y) (prod (inv x) (inv y)) = cm x y := by
  unfold cm
  rw [inv_prod hy hx]
end Lt

set_option Elab.async false
set_option linter.all false
set_option maxHeartbeats 1000000
/-! the number of turns of a lock divides that of all permutations; one series -/
namespace Lt
/-- all orders of the first k of l -/
def perms : Nat → List Nat → List (List Nat)
  | 0, _ => [[]]
  | k + 1, l => l.flatMap fun a => (perms k (l.erase a)).map (a :: ·)
def fac : Nat → Nat
  | 0 => 1
  | k + 1 => (k + 1) * fac k
theorem flat_len {α β : Type} {f : α → List β} {m : Nat} : ∀ (l : List α), (∀ a ∈ l, (f a).length = m) → (l.flatMap f).length = l.length * m
  | [], _ => by simp
  | a :: l, h => by
    rw [List.flatMap_cons, List.length_append, h a List.mem_cons_self, flat_len l fun b hb => h b (List.mem_cons_of_mem _ hb), List.length_cons, Nat.succ_mul, Nat.add_comm]
theorem perms_len : ∀ (k : Nat) (l : List Nat), l.length = k → (perms k l).length = fac k
  | 0, _, _ => rfl
  | k + 1, l, h => by
    show (l.flatMap _).length = _
    rw [flat_len (m := fac k) l fun a ha => by rw [List.length_map, perms_len k _ (by rw [List.length_erase_of_mem ha, h]; rfl)], h]
    rfl
theorem perms_mem : ∀ (k : Nat) (l t : List Nat), l.length = k → (t ∈ perms k l ↔ t.Perm l)
  | 0, l, t, h => by
    have e : l = [] := List.length_eq_zero_iff.mp h
    subst e
    show t ∈ [[]] ↔ _
    rw [List.mem_singleton]
    exact List.perm_nil.symm
  | k + 1, l, t, h => by
    show t ∈ l.flatMap _ ↔ _
    rw [List.mem_flatMap]
    constructor
    · rintro ⟨a, ha, ht⟩
      obtain ⟨u, hu, rfl⟩ := List.mem_map.mp ht
      have hu := (perms_mem k (l.erase a) u (by rw [List.length_erase_of_mem ha, h]; rfl)).mp hu
      exact (hu.cons a).trans (List.perm_cons_erase ha).symm
    · intro p
      cases t with
      | nil =>
        have z := p.length_eq
        rw [h] at z
        cases z
      | cons a u =>
        obtain ⟨ha, hu⟩ := List.cons_perm_iff_perm_erase.mp p
        exact ⟨a, ha, List.mem_map.mpr ⟨u, (perms_mem k (l.erase a) u (by rw [List.length_erase_of_mem ha, h]; rfl)).mpr hu, rfl⟩⟩
theorem perms_nd : ∀ (k : Nat) (l : List Nat), l.Nodup → (perms k l).Nodup
  | 0, _, _ => List.pairwise_singleton _ _
  | k + 1, l, h => by
    refine List.pairwise_flatMap.mpr ⟨fun a _ => List.pairwise_map.mpr ((perms_nd k _ (h.erase a)).imp fun hne e => hne (by injection e)), h.imp fun {a b} hne x hx y hy e => ?_⟩
    obtain ⟨u, _, rfl⟩ := List.mem_map.mp hx
    obtain ⟨v, _, rfl⟩ := List.mem_map.mp hy
    injection e with e1 e2
    exact hne e1
/-- a closed part divides what it acts on -/
theorem lag {n : Nat} {H : List (List Nat)} (nd : H.Nodup) (hP : ∀ h ∈ H, IsP n h) (hi : ∀ a ∈ H, ∀ b ∈ H, prod (inv a) b ∈ H) (hs : List.range n ∈ H) (hpr : ∀ a ∈ H, ∀ b ∈ H, prod a b ∈ H) :
    ∀ (m : Nat) (U : List (List Nat)), U.length = m → U.Nodup → (∀ u ∈ U, IsP n u) → (∀ h ∈ H, ∀ u ∈ U, prod h u ∈ U) → H.length ∣ U.length := by
  intro m
  induction m using Nat.strongRecOn with
  | _ m ih =>
    intro U hm ndU uP cl
    cases U with
    | nil => exact Nat.dvd_zero _
    | cons u V =>
      have hu : u ∈ u :: V := List.mem_cons_self
      have iu := uP u hu
      -- the coset
      have ndC : (H.map fun h => prod h u).Nodup := List.pairwise_map.mpr (List.Pairwise.imp_of_mem (fun {a b} ha hb hne e => hne (by
        have e2 : prod (prod a u) (inv u) = prod (prod b u) (inv u) := congrArg (fun x => prod x (inv u)) e
        rw [pas _ (hP a ha) iu, pas _ (hP b hb) iu, prod_inv_r iu, prod_still_r (hP a ha).lt, prod_still_r (hP b hb).lt] at e2
        exact e2)) nd)
      have subC : ∀ x ∈ H.map fun h => prod h u, x ∈ u :: V := fun x hx => by
        obtain ⟨h, hh, rfl⟩ := List.mem_map.mp hx
        exact cl h hh u hu
      generalize hC : (H.map fun h => prod h u) = C at ndC subC
      have lC : C.length = H.length := by rw [← hC, List.length_map]
      have pm : (u :: V).Perm (C ++ (u :: V).filter fun x => decide (x ∉ C)) := by
        refine (List.perm_ext_iff_of_nodup ndU (List.nodup_append.mpr ⟨ndC, ndU.filter _, fun a ha b hb e => ?_⟩)).mpr fun x => ⟨fun hx => ?_, fun hx => ?_⟩
        · subst e
          exact of_decide_eq_true (List.mem_filter.mp hb).2 ha
        · by_cases c : x ∈ C
          · exact List.mem_append.mpr (.inl c)
          · exact List.mem_append.mpr (.inr (List.mem_filter.mpr ⟨hx, decide_eq_true c⟩))
        · rcases List.mem_append.mp hx with z | z
          · exact subC x z
          · exact (List.mem_filter.mp z).1
      have pl := pm.length_eq
      rw [List.length_append, lC] at pl
      have h1 : 1 ≤ H.length := List.length_pos_of_mem hs
      have z := ih ((u :: V).filter fun x => decide (x ∉ C)).length (by omega) _ rfl (ndU.filter _) (fun x hx => uP x (List.mem_filter.mp hx).1) (fun h hh x hx => by
        obtain ⟨h3, h4⟩ := List.mem_filter.mp hx
        refine List.mem_filter.mpr ⟨cl h hh x h3, decide_eq_true fun hc => of_decide_eq_true h4 ?_⟩
        rw [← hC] at hc ⊢
        obtain ⟨g, hg, e⟩ := List.mem_map.mp hc
        refine List.mem_map.mpr ⟨prod (inv h) g, hi h hh g hg, ?_⟩
        have e : prod g u = prod h x := e
        show prod (prod (inv h) g) u = x
        rw [pas _ (hP h hh).inv (hP g hg), e, pc1 (hP h hh) (uP x h3)])
      rw [pl]
      exact Nat.dvd_add (Nat.dvd_refl _) z
theorem order_dvd {ls : List (List Nat)} {n m : Nat} {T0 : List (List Nat)} (hls : ∀ g ∈ ls, IsP n g) (hf : Few ls n m) (nd : T0.Nodup) (hT : ∀ t, t ∈ T0 ↔ Mk ls n t) : T0.length ∣ fac n := by
  have hl : (List.range n).length = n := List.length_range
  have z := lag (n := n) nd (fun h hh => ((hT h).mp hh).isP hls) (fun a ha b hb => (hT _).mpr ((((hT a).mp ha).inv hls hf).prod hls ((hT b).mp hb))) ((hT _).mpr .still) (fun a ha b hb => (hT _).mpr (((hT a).mp ha).prod hls ((hT b).mp hb)))
    _ (perms n (List.range n)) rfl (perms_nd n _ List.nodup_range) (fun u hu => (perms_mem n _ u hl).mp hu) (fun h hh u hu => (perms_mem n _ _ hl).mpr ((((hT h).mp hh).isP hls).prod ((perms_mem n _ u hl).mp hu)))
  rw [perms_len n _ hl] at z
  exact z
theorem fac_dvd {n : Nat} (h : n ≤ 9) : fac n ∣ 362880 := by
  have : n = 0 ∨ n = 1 ∨ n = 2 ∨ n = 3 ∨ n = 4 ∨ n = 5 ∨ n = 6 ∨ n = 7 ∨ n = 8 ∨ n = 9 := by omega
  rcases this with e | e | e | e | e | e | e | e | e | e <;> subst e <;> decide +kernel
/-! ### there is one series -/
section
variable {ls T0 : List (List Nat)} {n m : Nat} (hls : ∀ g ∈ ls, IsP n g) (hf : Few ls n m) (hT : ∀ t, t ∈ T0 ↔ Mk ls n t)
include hls hf hT
end
end Lt

set_option Elab.async false
set_option linter.all false
set_option maxRecDepth 100000
set_option maxHeartbeats 4000000
/-! the locks of a prime's power, one by one, and those of few places -/
namespace Lt
def basL : List Bas := [
  ⟨[[1, 0]], 2, 2, [[[0, 1], [1, 0]], [[0, 1]]], [([[1, 0]], 1)], 1⟩,
  ⟨[[0, 1], [1, 0]], 2, 2, [[[0, 1], [1, 0]], [[0, 1]]], [([[1, 0]], 1)], 1⟩,
  ⟨[[1, 0], [0, 1]], 2, 2, [[[0, 1], [1, 0]], [[0, 1]]], [([[1, 0]], 1)], 1⟩,
  ⟨[[1, 0], [1, 0]], 2, 2, [[[0, 1], [1, 0]], [[0, 1]]], [([[1, 0]], 1)], 1⟩,
  ⟨[[0, 2, 1]], 3, 2, [[[0, 1, 2], [0, 2, 1]], [[0, 1, 2]]], [([[0, 2, 1]], 1)], 1⟩,
  ⟨[[1, 2, 0]], 3, 3, [[[0, 1, 2], [1, 2, 0], [2, 0, 1]], [[0, 1, 2]]], [([[1, 2, 0]], 1)], 2⟩,
  ⟨[[0, 1, 2], [0, 2, 1]], 3, 2, [[[0, 1, 2], [0, 2, 1]], [[0, 1, 2]]], [([[0, 2, 1]], 1)], 1⟩,
  ⟨[[0, 1, 2], [1, 2, 0]], 3, 3, [[[0, 1, 2], [1, 2, 0], [2, 0, 1]], [[0, 1, 2]]], [([[1, 2, 0]], 1)], 2⟩,
  ⟨[[0, 2, 1], [0, 1, 2]], 3, 2, [[[0, 1, 2], [0, 2, 1]], [[0, 1, 2]]], [([[0, 2, 1]], 1)], 1⟩,
  ⟨[[0, 2, 1], [0, 2, 1]], 3, 2, [[[0, 1, 2], [0, 2, 1]], [[0, 1, 2]]], [([[0, 2, 1]], 1)], 1⟩,
  ⟨[[1, 2, 0], [0, 1, 2]], 3, 3, [[[0, 1, 2], [1, 2, 0], [2, 0, 1]], [[0, 1, 2]]], [([[1, 2, 0]], 1)], 2⟩,
  ⟨[[1, 2, 0], [1, 2, 0]], 3, 3, [[[0, 1, 2], [1, 2, 0], [2, 0, 1]], [[0, 1, 2]]], [([[1, 2, 0]], 1)], 2⟩,
  ⟨[[1, 2, 0], [2, 0, 1]], 3, 3, [[[0, 1, 2], [1, 2, 0], [2, 0, 1]], [[0, 1, 2]]], [([[1, 2, 0]], 1)], 2⟩,
  ⟨[[0, 1, 3, 2]], 4, 2, [[[0, 1, 2, 3], [0, 1, 3, 2]], [[0, 1, 2, 3]]], [([[0, 1, 3, 2]], 1)], 1⟩,
  ⟨[[0, 2, 3, 1]], 4, 3, [[[0, 1, 2, 3], [0, 2, 3, 1], [0, 3, 1, 2]], [[0, 1, 2, 3]]], [([[0, 2, 3, 1]], 1)], 2⟩,
  ⟨[[1, 0, 3, 2]], 4, 2, [[[0, 1, 2, 3], [1, 0, 3, 2]], [[0, 1, 2, 3]]], [([[1, 0, 3, 2]], 1)], 1⟩,
  ⟨[[1, 2, 3, 0]], 4, 2, [[[0, 1, 2, 3], [1, 2, 3, 0], [2, 3, 0, 1], [3, 0, 1, 2]], [[0, 1, 2, 3]]], [([[1, 2, 3, 0]], 2)], 3⟩,
  ⟨[[0, 1, 2, 3], [0, 1, 3, 2]], 4, 2, [[[0, 1, 2, 3], [0, 1, 3, 2]], [[0, 1, 2, 3]]], [([[0, 1, 3, 2]], 1)], 1⟩,
  ⟨[[0, 1, 2, 3], [0, 2, 3, 1]], 4, 3, [[[0, 1, 2, 3], [0, 2, 3, 1], [0, 3, 1, 2]], [[0, 1, 2, 3]]], [([[0, 2, 3, 1]], 1)], 2⟩,
  ⟨[[0, 1, 2, 3], [1, 0, 3, 2]], 4, 2, [[[0, 1, 2, 3], [1, 0, 3, 2]], [[0, 1, 2, 3]]], [([[1, 0, 3, 2]], 1)], 1⟩,
  ⟨[[0, 1, 2, 3], [1, 2, 3, 0]], 4, 2, [[[0, 1, 2, 3], [1, 2, 3, 0], [2, 3, 0, 1], [3, 0, 1, 2]], [[0, 1, 2, 3]]], [([[1, 2, 3, 0]], 2)], 3⟩,
  ⟨[[0, 1, 3, 2], [0, 1, 2, 3]], 4, 2, [[[0, 1, 2, 3], [0, 1, 3, 2]], [[0, 1, 2, 3]]], [([[0, 1, 3, 2]], 1)], 1⟩,
  ⟨[[0, 1, 3, 2], [0, 1, 3, 2]], 4, 2, [[[0, 1, 2, 3], [0, 1, 3, 2]], [[0, 1, 2, 3]]], [([[0, 1, 3, 2]], 1)], 1⟩,
  ⟨[[0, 1, 3, 2], [1, 0, 2, 3]], 4, 2, [[[0, 1, 2, 3], [0, 1, 3, 2], [1, 0, 2, 3], [1, 0, 3, 2]], [[0, 1, 2, 3]]], [([[0, 1, 3, 2]], 1), ([[1, 0, 2, 3]], 1)], 2⟩,
  ⟨[[0, 1, 3, 2], [1, 0, 3, 2]], 4, 2, [[[0, 1, 2, 3], [0, 1, 3, 2], [1, 0, 3, 2], [1, 0, 2, 3]], [[0, 1, 2, 3]]], [([[0, 1, 3, 2]], 1), ([[1, 0, 3, 2]], 1)], 2⟩,
  ⟨[[0, 1, 3, 2], [2, 3, 0, 1]], 4, 2, [[[0, 1, 2, 3], [0, 1, 3, 2], [2, 3, 0, 1], [2, 3, 1, 0], [3, 2, 0, 1], [3, 2, 1, 0], [1, 0, 2, 3], [1, 0, 3, 2]], [[0, 1, 2, 3], [1, 0, 3, 2]], [[0, 1, 2, 3]]], [([[0, 1, 3, 2]], 1), ([[2, 3, 0, 1]], 1), ([[0, 1, 3, 2], [2, 3, 0, 1]], 1)], 4⟩,
  ⟨[[0, 1, 3, 2], [2, 3, 1, 0]], 4, 2, [[[0, 1, 2, 3], [0, 1, 3, 2], [2, 3, 1, 0], [2, 3, 0, 1], [3, 2, 1, 0], [1, 0, 3, 2], [3, 2, 0, 1], [1, 0, 2, 3]], [[0, 1, 2, 3], [1, 0, 3, 2]], [[0, 1, 2, 3]]], [([[0, 1, 3, 2]], 1), ([[2, 3, 1, 0]], 1), ([[0, 1, 3, 2], [2, 3, 1, 0]], 1)], 4⟩,
  ⟨[[0, 2, 3, 1], [0, 1, 2, 3]], 4, 3, [[[0, 1, 2, 3], [0, 2, 3, 1], [0, 3, 1, 2]], [[0, 1, 2, 3]]], [([[0, 2, 3, 1]], 1)], 2⟩,
  ⟨[[0, 2, 3, 1], [0, 2, 3, 1]], 4, 3, [[[0, 1, 2, 3], [0, 2, 3, 1], [0, 3, 1, 2]], [[0, 1, 2, 3]]], [([[0, 2, 3, 1]], 1)], 2⟩,
  ⟨[[0, 2, 3, 1], [0, 3, 1, 2]], 4, 3, [[[0, 1, 2, 3], [0, 2, 3, 1], [0, 3, 1, 2]], [[0, 1, 2, 3]]], [([[0, 2, 3, 1]], 1)], 2⟩,
  ⟨[[1, 0, 3, 2], [0, 1, 2, 3]], 4, 2, [[[0, 1, 2, 3], [1, 0, 3, 2]], [[0, 1, 2, 3]]], [([[1, 0, 3, 2]], 1)], 1⟩,
  ⟨[[1, 0, 3, 2], [0, 1, 3, 2]], 4, 2, [[[0, 1, 2, 3], [1, 0, 3, 2], [0, 1, 3, 2], [1, 0, 2, 3]], [[0, 1, 2, 3]]], [([[1, 0, 3, 2]], 1), ([[0, 1, 3, 2]], 1)], 2⟩,
  ⟨[[1, 0, 3, 2], [0, 2, 1, 3]], 4, 2, [[[0, 1, 2, 3], [1, 0, 3, 2], [0, 2, 1, 3], [2, 0, 3, 1], [1, 3, 0, 2], [3, 1, 2, 0], [2, 3, 0, 1], [3, 2, 1, 0]], [[0, 1, 2, 3], [3, 2, 1, 0]], [[0, 1, 2, 3]]], [([[1, 0, 3, 2]], 1), ([[0, 2, 1, 3]], 1), ([[1, 0, 3, 2], [0, 2, 1, 3]], 1)], 4⟩,
  ⟨[[1, 0, 3, 2], [1, 0, 3, 2]], 4, 2, [[[0, 1, 2, 3], [1, 0, 3, 2]], [[0, 1, 2, 3]]], [([[1, 0, 3, 2]], 1)], 1⟩,
  ⟨[[1, 0, 3, 2], [1, 2, 3, 0]], 4, 2, [[[0, 1, 2, 3], [1, 0, 3, 2], [1, 2, 3, 0], [2, 1, 0, 3], [0, 3, 2, 1], [2, 3, 0, 1], [3, 0, 1, 2], [3, 2, 1, 0]], [[0, 1, 2, 3], [2, 3, 0, 1]], [[0, 1, 2, 3]]], [([[1, 0, 3, 2]], 1), ([[1, 2, 3, 0]], 1), ([[1, 0, 3, 2], [1, 2, 3, 0]], 1)], 4⟩,
  ⟨[[1, 0, 3, 2], [2, 3, 0, 1]], 4, 2, [[[0, 1, 2, 3], [1, 0, 3, 2], [2, 3, 0, 1], [3, 2, 1, 0]], [[0, 1, 2, 3]]], [([[1, 0, 3, 2]], 1), ([[2, 3, 0, 1]], 1)], 2⟩,
  ⟨[[1, 0, 3, 2], [2, 3, 1, 0]], 4, 2, [[[0, 1, 2, 3], [1, 0, 3, 2], [2, 3, 1, 0], [3, 2, 0, 1]], [[0, 1, 2, 3]]], [([[2, 3, 1, 0]], 2)], 3⟩,
  ⟨[[1, 2, 3, 0], [0, 1, 2, 3]], 4, 2, [[[0, 1, 2, 3], [1, 2, 3, 0], [2, 3, 0, 1], [3, 0, 1, 2]], [[0, 1, 2, 3]]], [([[1, 2, 3, 0]], 2)], 3⟩,
  ⟨[[1, 2, 3, 0], [0, 3, 2, 1]], 4, 2, [[[0, 1, 2, 3], [1, 2, 3, 0], [0, 3, 2, 1], [2, 3, 0, 1], [3, 2, 1, 0], [1, 0, 3, 2], [3, 0, 1, 2], [2, 1, 0, 3]], [[0, 1, 2, 3], [2, 3, 0, 1]], [[0, 1, 2, 3]]], [([[1, 2, 3, 0]], 1), ([[0, 3, 2, 1]], 1), ([[1, 2, 3, 0], [0, 3, 2, 1]], 1)], 4⟩,
  ⟨[[1, 2, 3, 0], [1, 0, 3, 2]], 4, 2, [[[0, 1, 2, 3], [1, 2, 3, 0], [1, 0, 3, 2], [2, 3, 0, 1], [0, 3, 2, 1], [2, 1, 0, 3], [3, 0, 1, 2], [3, 2, 1, 0]], [[0, 1, 2, 3], [2, 3, 0, 1]], [[0, 1, 2, 3]]], [([[1, 2, 3, 0]], 1), ([[1, 0, 3, 2]], 1), ([[1, 2, 3, 0], [1, 0, 3, 2]], 1)], 4⟩,
  ⟨[[1, 2, 3, 0], [1, 2, 3, 0]], 4, 2, [[[0, 1, 2, 3], [1, 2, 3, 0], [2, 3, 0, 1], [3, 0, 1, 2]], [[0, 1, 2, 3]]], [([[1, 2, 3, 0]], 2)], 3⟩,
  ⟨[[1, 2, 3, 0], [2, 3, 0, 1]], 4, 2, [[[0, 1, 2, 3], [1, 2, 3, 0], [2, 3, 0, 1], [3, 0, 1, 2]], [[0, 1, 2, 3]]], [([[1, 2, 3, 0]], 2)], 3⟩,
  ⟨[[1, 2, 3, 0], [3, 0, 1, 2]], 4, 2, [[[0, 1, 2, 3], [1, 2, 3, 0], [3, 0, 1, 2], [2, 3, 0, 1]], [[0, 1, 2, 3]]], [([[1, 2, 3, 0]], 2)], 3⟩,
  ⟨[[1, 0, 2, 3, 4, 5], [0, 1, 3, 2, 4, 5], [0, 1, 2, 3, 5, 4]], 6, 2, [[[0, 1, 2, 3, 4, 5], [1, 0, 2, 3, 4, 5], [0, 1, 3, 2, 4, 5], [0, 1, 2, 3, 5, 4], [1, 0, 3, 2, 4, 5], [1, 0, 2, 3, 5, 4], [0, 1, 3, 2, 5, 4], [1, 0, 3, 2, 5, 4]], [[0, 1, 2, 3, 4, 5]]], [([[1, 0, 2, 3, 4, 5]], 1), ([[0, 1, 3, 2, 4, 5]], 1), ([[0, 1, 2, 3, 5, 4]], 1)], 3⟩,
  ⟨[[1, 2, 3, 4, 5, 6, 7, 0]], 8, 2, [[[0, 1, 2, 3, 4, 5, 6, 7], [1, 2, 3, 4, 5, 6, 7, 0], [2, 3, 4, 5, 6, 7, 0, 1], [3, 4, 5, 6, 7, 0, 1, 2], [4, 5, 6, 7, 0, 1, 2, 3], [5, 6, 7, 0, 1, 2, 3, 4], [6, 7, 0, 1, 2, 3, 4, 5], [7, 0, 1, 2, 3, 4, 5, 6]], [[0, 1, 2, 3, 4, 5, 6, 7]]], [([[1, 2, 3, 4, 5, 6, 7, 0]], 3)], 7⟩,
  ⟨[[1, 2, 3, 4, 5, 6, 7, 8, 0]], 9, 3, [[[0, 1, 2, 3, 4, 5, 6, 7, 8], [1, 2, 3, 4, 5, 6, 7, 8, 0], [2, 3, 4, 5, 6, 7, 8, 0, 1], [3, 4, 5, 6, 7, 8, 0, 1, 2], [4, 5, 6, 7, 8, 0, 1, 2, 3], [5, 6, 7, 8, 0, 1, 2, 3, 4], [6, 7, 8, 0, 1, 2, 3, 4, 5], [7, 8, 0, 1, 2, 3, 4, 5, 6], [8, 0, 1, 2, 3, 4, 5, 6, 7]], [[0, 1, 2, 3, 4, 5, 6, 7, 8]]], [([[1, 2, 3, 4, 5, 6, 7, 8, 0]], 2)], 8⟩,
  ⟨[[1, 2, 3, 0, 5, 6, 7, 4], [4, 7, 6, 5, 2, 1, 0, 3]], 8, 2, [[[0, 1, 2, 3, 4, 5, 6, 7], [1, 2, 3, 0, 5, 6, 7, 4], [4, 7, 6, 5, 2, 1, 0, 3], [2, 3, 0, 1, 6, 7, 4, 5], [7, 6, 5, 4, 1, 0, 3, 2], [5, 4, 7, 6, 3, 2, 1, 0], [3, 0, 1, 2, 7, 4, 5, 6], [6, 5, 4, 7, 0, 3, 2, 1]], [[0, 1, 2, 3, 4, 5, 6, 7], [2, 3, 0, 1, 6, 7, 4, 5]], [[0, 1, 2, 3, 4, 5, 6, 7]]], [([[1, 2, 3, 0, 5, 6, 7, 4]], 1), ([[4, 7, 6, 5, 2, 1, 0, 3]], 1), ([[1, 2, 3, 0, 5, 6, 7, 4], [4, 7, 6, 5, 2, 1, 0, 3]], 1)], 4⟩,
  ⟨[[1, 2, 0, 3, 4, 5], [0, 1, 2, 4, 5, 3]], 6, 3, [[[0, 1, 2, 3, 4, 5], [1, 2, 0, 3, 4, 5], [0, 1, 2, 4, 5, 3], [2, 0, 1, 3, 4, 5], [1, 2, 0, 4, 5, 3], [0, 1, 2, 5, 3, 4], [2, 0, 1, 4, 5, 3], [1, 2, 0, 5, 3, 4], [2, 0, 1, 5, 3, 4]], [[0, 1, 2, 3, 4, 5]]], [([[1, 2, 0, 3, 4, 5]], 1), ([[0, 1, 2, 4, 5, 3]], 1)], 4⟩,
  ⟨[[3, 4, 5, 6, 7, 8, 0, 1, 2], [0, 1, 2, 4, 5, 3, 8, 6, 7]], 9, 3, [[[0, 1, 2, 3, 4, 5, 6, 7, 8], [3, 4, 5, 6, 7, 8, 0, 1, 2], [0, 1, 2, 4, 5, 3, 8, 6, 7], [6, 7, 8, 0, 1, 2, 3, 4, 5], [4, 5, 3, 8, 6, 7, 0, 1, 2], [3, 4, 5, 7, 8, 6, 2, 0, 1], [0, 1, 2, 5, 3, 4, 7, 8, 6], [8, 6, 7, 0, 1, 2, 4, 5, 3], [7, 8, 6, 2, 0, 1, 3, 4, 5], [5, 3, 4, 7, 8, 6, 0, 1, 2], [6, 7, 8, 1, 2, 0, 5, 3, 4], [4, 5, 3, 6, 7, 8, 2, 0, 1], [3, 4, 5, 8, 6, 7, 1, 2, 0], [2, 0, 1, 3, 4, 5, 7, 8, 6], [7, 8, 6, 0, 1, 2, 5, 3, 4], [1, 2, 0, 5, 3, 4, 6, 7, 8], [6, 7, 8, 2, 0, 1, 4, 5, 3], [8, 6, 7, 1, 2, 0, 3, 4, 5], [5, 3, 4, 8, 6, 7, 2, 0, 1], [4, 5, 3, 7, 8, 6, 1, 2, 0], [5, 3, 4, 6, 7, 8, 1, 2, 0], [2, 0, 1, 4, 5, 3, 6, 7, 8], [1, 2, 0, 3, 4, 5, 8, 6, 7], [8, 6, 7, 2, 0, 1, 5, 3, 4], [7, 8, 6, 1, 2, 0, 4, 5, 3], [2, 0, 1, 5, 3, 4, 8, 6, 7], [1, 2, 0, 4, 5, 3, 7, 8, 6]], [[0, 1, 2, 3, 4, 5, 6, 7, 8], [1, 2, 0, 4, 5, 3, 7, 8, 6], [2, 0, 1, 5, 3, 4, 8, 6, 7]], [[0, 1, 2, 3, 4, 5, 6, 7, 8]]], [([[3, 4, 5, 6, 7, 8, 0, 1, 2]], 1), ([[0, 1, 2, 4, 5, 3, 8, 6, 7]], 1), ([[3, 4, 5, 6, 7, 8, 0, 1, 2], [0, 1, 2, 4, 5, 3, 8, 6, 7]], 1)], 8⟩]
theorem basL_ok : basL.all Bas.ok = true := by decide +kernel
theorem basL_P : ∀ b ∈ basL, (∀ g ∈ b.gs, IsP b.n g) ∧ (qq b.gs b.n 60).length ≤ 60 ∧ b.gs ≠ [] := by decide +kernel
/-- the locks of few places, as they are but for the places' names -/
def reps : List (List (List Nat) × Nat) := [([[0, 1]], 2), ([[1, 0]], 2), ([[0, 1], [0, 1]], 2), ([[0, 1], [1, 0]], 2), ([[1, 0], [0, 1]], 2), ([[1, 0], [1, 0]], 2), ([[0, 1, 2]], 3), ([[0, 2, 1]], 3), ([[1, 2, 0]], 3), ([[0, 1, 2], [0, 1, 2]], 3), ([[0, 1, 2], [0, 2, 1]], 3), ([[0, 1, 2], [1, 2, 0]], 3), ([[0, 2, 1], [0, 1, 2]], 3), ([[0, 2, 1], [0, 2, 1]], 3), ([[0, 2, 1], [1, 0, 2]], 3), ([[0, 2, 1], [1, 2, 0]], 3), ([[1, 2, 0], [0, 1, 2]], 3), ([[1, 2, 0], [0, 2, 1]], 3), ([[1, 2, 0], [1, 2, 0]], 3), ([[1, 2, 0], [2, 0, 1]], 3), ([[0, 1, 2, 3]], 4), ([[0, 1, 3, 2]], 4), ([[0, 2, 3, 1]], 4), ([[1, 0, 3, 2]], 4), ([[1, 2, 3, 0]], 4), ([[0, 1, 2, 3], [0, 1, 2, 3]], 4), ([[0, 1, 2, 3], [0, 1, 3, 2]], 4), ([[0, 1, 2, 3], [0, 2, 3, 1]], 4), ([[0, 1, 2, 3], [1, 0, 3, 2]], 4), ([[0, 1, 2, 3], [1, 2, 3, 0]], 4), ([[0, 1, 3, 2], [0, 1, 2, 3]], 4), ([[0, 1, 3, 2], [0, 1, 3, 2]], 4), ([[0, 1, 3, 2], [0, 2, 1, 3]], 4), ([[0, 1, 3, 2], [0, 2, 3, 1]], 4), ([[0, 1, 3, 2], [1, 0, 2, 3]], 4), ([[0, 1, 3, 2], [1, 0, 3, 2]], 4), ([[0, 1, 3, 2], [1, 2, 0, 3]], 4), ([[0, 1, 3, 2], [1, 2, 3, 0]], 4), ([[0, 1, 3, 2], [2, 3, 0, 1]], 4), ([[0, 1, 3, 2], [2, 3, 1, 0]], 4), ([[0, 2, 3, 1], [0, 1, 2, 3]], 4), ([[0, 2, 3, 1], [0, 1, 3, 2]], 4), ([[0, 2, 3, 1], [0, 2, 3, 1]], 4), ([[0, 2, 3, 1], [0, 3, 1, 2]], 4), ([[0, 2, 3, 1], [1, 0, 2, 3]], 4), ([[0, 2, 3, 1], [1, 0, 3, 2]], 4), ([[0, 2, 3, 1], [1, 2, 0, 3]], 4), ([[0, 2, 3, 1], [1, 2, 3, 0]], 4), ([[0, 2, 3, 1], [1, 3, 0, 2]], 4), ([[0, 2, 3, 1], [1, 3, 2, 0]], 4), ([[1, 0, 3, 2], [0, 1, 2, 3]], 4), ([[1, 0, 3, 2], [0, 1, 3, 2]], 4), ([[1, 0, 3, 2], [0, 2, 1, 3]], 4), ([[1, 0, 3, 2], [0, 2, 3, 1]], 4), ([[1, 0, 3, 2], [1, 0, 3, 2]], 4), ([[1, 0, 3, 2], [1, 2, 3, 0]], 4), ([[1, 0, 3, 2], [2, 3, 0, 1]], 4), ([[1, 0, 3, 2], [2, 3, 1, 0]], 4), ([[1, 2, 3, 0], [0, 1, 2, 3]], 4), ([[1, 2, 3, 0], [0, 1, 3, 2]], 4), ([[1, 2, 3, 0], [0, 2, 3, 1]], 4), ([[1, 2, 3, 0], [0, 3, 1, 2]], 4), ([[1, 2, 3, 0], [0, 3, 2, 1]], 4), ([[1, 2, 3, 0], [1, 0, 3, 2]], 4), ([[1, 2, 3, 0], [1, 2, 3, 0]], 4), ([[1, 2, 3, 0], [1, 3, 0, 2]], 4), ([[1, 2, 3, 0], [2, 3, 0, 1]], 4), ([[1, 2, 3, 0], [3, 0, 1, 2]], 4)]
theorem reps_ok : (reps.all fun r => decide (primeOf (LL r.1 r.2).length = none) || basL.any fun b => decide (b.gs = r.1) && decide (b.n = r.2)) = true := by decide +kernel
theorem reps_P : ∀ r ∈ reps, ∀ g ∈ r.1, IsP r.2 g := by decide +kernel
def ct2 : List (Nat × List Nat) := [(0, [0, 1]), (1, [0, 1]), (2, [0, 1]), (3, [0, 1]), (4, [0, 1]), (5, [0, 1])]
def ct3 : List (Nat × List Nat) := [(6, [0, 1, 2]), (7, [0, 1, 2]), (7, [2, 0, 1]), (8, [0, 1, 2]), (8, [0, 2, 1]), (7, [1, 0, 2]), (9, [0, 1, 2]), (10, [0, 1, 2]), (10, [2, 0, 1]), (11, [0, 1, 2]), (11, [0, 2, 1]), (10, [1, 0, 2]), (12, [0, 1, 2]), (13, [0, 1, 2]), (14, [0, 1, 2]), (15, [0, 1, 2]), (15, [0, 2, 1]), (14, [0, 2, 1]), (12, [2, 0, 1]), (14, [2, 1, 0]), (13, [2, 0, 1]), (15, [2, 0, 1]), (15, [2, 1, 0]), (14, [2, 0, 1]), (16, [0, 1, 2]), (17, [0, 1, 2]), (17, [2, 0, 1]), (18, [0, 1, 2]), (19, [0, 1, 2]), (17, [1, 2, 0]), (16, [0, 2, 1]), (17, [0, 2, 1]), (17, [2, 1, 0]), (19, [0, 2, 1]), (18, [0, 2, 1]), (17, [1, 0, 2]), (12, [1, 0, 2]), (14, [1, 2, 0]), (14, [1, 0, 2]), (15, [1, 2, 0]), (15, [1, 0, 2]), (13, [1, 0, 2])]
def ct4 : List (Nat × List Nat) := [(20, [0, 1, 2, 3]), (21, [0, 1, 2, 3]), (21, [0, 3, 1, 2]), (22, [0, 1, 2, 3]), (22, [0, 1, 3, 2]), (21, [0, 2, 1, 3]), (21, [2, 3, 0, 1]), (23, [0, 1, 2, 3]), (22, [3, 0, 1, 2]), (24, [0, 1, 2, 3]), (24, [0, 1, 3, 2]), (22, [2, 0, 1, 3]), (22, [3, 0, 2, 1]), (24, [0, 2, 3, 1]), (21, [1, 3, 0, 2]), (22, [1, 0, 2, 3]), (23, [0, 2, 1, 3]), (24, [0, 2, 1, 3]), (24, [0, 3, 2, 1]), (22, [2, 0, 3, 1]), (22, [1, 0, 3, 2]), (21, [1, 2, 0, 3]), (24, [0, 3, 1, 2]), (23, [0, 3, 1, 2]), (25, [0, 1, 2, 3]), (26, [0, 1, 2, 3]), (26, [0, 3, 1, 2]), (27, [0, 1, 2, 3]), (27, [0, 1, 3, 2]), (26, [0, 2, 1, 3]), (26, [2, 3, 0, 1]), (28, [0, 1, 2, 3]), (27, [3, 0, 1, 2]), (29, [0, 1, 2, 3]), (29, [0, 1, 3, 2]), (27, [2, 0, 1, 3]), (27, [3, 0, 2, 1]), (29, [0, 2, 3, 1]), (26, [1, 3, 0, 2]), (27, [1, 0, 2, 3]), (28, [0, 2, 1, 3]), (29, [0, 2, 1, 3]), (29, [0, 3, 2, 1]), (27, [2, 0, 3, 1]), (27, [1, 0, 3, 2]), (26, [1, 2, 0, 3]), (29, [0, 3, 1, 2]), (28, [0, 3, 1, 2]), (30, [0, 1, 2, 3]), (31, [0, 1, 2, 3]), (32, [0, 1, 2, 3]), (33, [0, 1, 2, 3]), (33, [0, 1, 3, 2]), (32, [0, 1, 3, 2]), (34, [0, 1, 2, 3]), (35, [0, 1, 2, 3]), (36, [0, 1, 2, 3]), (37, [0, 1, 2, 3]), (37, [0, 1, 3, 2]), (36, [0, 1, 3, 2]), (36, [1, 0, 2, 3]), (37, [1, 0, 2, 3]), (32, [1, 0, 2, 3]), (33, [1, 0, 2, 3]), (38, [0, 1, 2, 3]), (39, [0, 1, 2, 3]), (37, [1, 0, 3, 2]), (36, [1, 0, 3, 2]), (33, [1, 0, 3, 2]), (32, [1, 0, 3, 2]), (39, [0, 1, 3, 2]), (38, [0, 1, 3, 2]), (30, [0, 3, 1, 2]), (32, [0, 3, 2, 1]), (31, [0, 3, 1, 2]), (33, [0, 3, 1, 2]), (33, [0, 3, 2, 1]), (32, [0, 3, 1, 2]), (32, [3, 0, 1, 2]), (38, [0, 3, 1, 2]), (33, [3, 0, 1, 2]), (37, [3, 0, 1, 2]), (39, [0, 3, 1, 2]), (36, [3, 0, 1, 2]), (33, [3, 0, 2, 1]), (39, [0, 3, 2, 1]), (32, [3, 0, 2, 1]), (36, [3, 0, 2, 1]), (38, [0, 3, 2, 1]), (37, [3, 0, 2, 1]), (37, [0, 3, 2, 1]), (36, [0, 3, 1, 2]), (36, [0, 3, 2, 1]), (34, [0, 3, 1, 2]), (37, [0, 3, 1, 2]), (35, [0, 3, 1, 2]), (40, [0, 1, 2, 3]), (41, [0, 1, 2, 3]), (41, [0, 3, 1, 2]), (42, [0, 1, 2, 3]), (43, [0, 1, 2, 3]), (41, [0, 2, 3, 1]), (44, [0, 1, 2, 3]), (45, [0, 1, 2, 3]), (46, [0, 1, 2, 3]), (47, [0, 1, 2, 3]), (48, [0, 1, 2, 3]), (49, [0, 1, 2, 3]), (49, [0, 2, 3, 1]), (47, [0, 2, 3, 1]), (44, [0, 2, 3, 1]), (46, [0, 2, 3, 1]), (45, [0, 2, 3, 1]), (48, [0, 2, 3, 1]), (48, [0, 3, 1, 2]), (46, [0, 3, 1, 2]), (49, [0, 3, 1, 2]), (44, [0, 3, 1, 2]), (47, [0, 3, 1, 2]), (45, [0, 3, 1, 2]), (40, [0, 1, 3, 2]), (41, [0, 1, 3, 2]), (41, [0, 3, 2, 1]), (43, [0, 1, 3, 2]), (42, [0, 1, 3, 2]), (41, [0, 2, 1, 3]), (44, [0, 1, 3, 2]), (45, [0, 1, 3, 2]), (49, [0, 1, 3, 2]), (48, [0, 1, 3, 2]), (47, [0, 1, 3, 2]), (46, [0, 1, 3, 2]), (46, [0, 2, 1, 3]), (48, [0, 2, 1, 3]), (44, [0, 2, 1, 3]), (49, [0, 2, 1, 3]), (45, [0, 2, 1, 3]), (47, [0, 2, 1, 3]), (47, [0, 3, 2, 1]), (49, [0, 3, 2, 1]), (46, [0, 3, 2, 1]), (44, [0, 3, 2, 1]), (48, [0, 3, 2, 1]), (45, [0, 3, 2, 1]), (30, [0, 2, 1, 3]), (32, [0, 2, 3, 1]), (32, [0, 2, 1, 3]), (33, [0, 2, 3, 1]), (33, [0, 2, 1, 3]), (31, [0, 2, 1, 3]), (32, [2, 0, 1, 3]), (38, [0, 2, 1, 3]), (36, [2, 0, 1, 3]), (39, [0, 2, 1, 3]), (37, [2, 0, 1, 3]), (33, [2, 0, 1, 3]), (36, [0, 2, 1, 3]), (37, [0, 2, 3, 1]), (34, [0, 2, 1, 3]), (36, [0, 2, 3, 1]), (35, [0, 2, 1, 3]), (37, [0, 2, 1, 3]), (39, [0, 2, 3, 1]), (33, [2, 0, 3, 1]), (36, [2, 0, 3, 1]), (32, [2, 0, 3, 1]), (37, [2, 0, 3, 1]), (38, [0, 2, 3, 1]), (30, [2, 3, 0, 1]), (34, [2, 3, 0, 1]), (32, [3, 2, 1, 0]), (36, [2, 3, 1, 0]), (36, [3, 2, 1, 0]), (32, [2, 3, 1, 0]), (31, [2, 3, 0, 1]), (35, [2, 3, 0, 1]), (33, [3, 2, 0, 1]), (37, [2, 3, 0, 1]), (37, [3, 2, 0, 1]), (33, [2, 3, 0, 1]), (33, [3, 2, 1, 0]), (37, [2, 3, 1, 0]), (32, [3, 2, 0, 1]), (36, [2, 3, 0, 1]), (38, [2, 3, 0, 1]), (39, [2, 3, 1, 0]), (37, [3, 2, 1, 0]), (33, [2, 3, 1, 0]), (36, [3, 2, 0, 1]), (32, [2, 3, 0, 1]), (39, [2, 3, 0, 1]), (38, [2, 3, 1, 0]), (50, [0, 1, 2, 3]), (51, [0, 1, 2, 3]), (52, [0, 1, 2, 3]), (53, [0, 1, 2, 3]), (53, [0, 1, 3, 2]), (52, [0, 1, 3, 2]), (51, [2, 3, 0, 1]), (54, [0, 1, 2, 3]), (53, [3, 2, 0, 1]), (55, [0, 1, 2, 3]), (55, [0, 1, 3, 2]), (53, [2, 3, 0, 1]), (53, [3, 2, 1, 0]), (55, [1, 0, 2, 3]), (52, [1, 0, 2, 3]), (53, [1, 0, 2, 3]), (56, [0, 1, 2, 3]), (57, [0, 1, 2, 3]), (55, [1, 0, 3, 2]), (53, [2, 3, 1, 0]), (53, [1, 0, 3, 2]), (52, [1, 0, 3, 2]), (57, [0, 1, 3, 2]), (56, [0, 1, 3, 2]), (40, [3, 0, 1, 2]), (44, [3, 2, 0, 1]), (41, [3, 0, 1, 2]), (46, [3, 1, 2, 0]), (49, [3, 2, 0, 1]), (44, [3, 1, 2, 0]), (41, [3, 2, 0, 1]), (45, [3, 2, 0, 1]), (42, [3, 0, 1, 2]), (47, [3, 0, 1, 2]), (47, [3, 2, 0, 1]), (46, [3, 0, 1, 2]), (43, [3, 0, 1, 2]), (48, [3, 1, 2, 0]), (41, [3, 1, 2, 0]), (49, [3, 0, 1, 2]), (45, [3, 1, 2, 0]), (48, [3, 0, 1, 2]), (48, [3, 2, 0, 1]), (49, [3, 1, 2, 0]), (46, [3, 2, 0, 1]), (44, [3, 0, 1, 2]), (47, [3, 1, 2, 0]), (45, [3, 0, 1, 2]), (58, [0, 1, 2, 3]), (59, [0, 1, 2, 3]), (59, [3, 0, 1, 2]), (60, [0, 1, 2, 3]), (61, [0, 1, 2, 3]), (62, [0, 1, 2, 3]), (59, [2, 3, 0, 1]), (63, [0, 1, 2, 3]), (60, [3, 0, 1, 2]), (64, [0, 1, 2, 3]), (65, [0, 1, 2, 3]), (60, [2, 3, 0, 1]), (61, [3, 0, 1, 2]), (65, [2, 3, 0, 1]), (62, [1, 2, 3, 0]), (60, [1, 2, 3, 0]), (66, [0, 1, 2, 3]), (65, [3, 0, 1, 2]), (67, [0, 1, 2, 3]), (61, [2, 3, 0, 1]), (61, [1, 2, 3, 0]), (59, [1, 2, 3, 0]), (65, [1, 2, 3, 0]), (63, [1, 2, 3, 0]), (58, [0, 1, 3, 2]), (59, [0, 1, 3, 2]), (62, [0, 1, 3, 2]), (61, [0, 1, 3, 2]), (60, [0, 1, 3, 2]), (59, [2, 0, 1, 3]), (59, [3, 2, 0, 1]), (63, [0, 1, 3, 2]), (60, [3, 2, 0, 1]), (65, [0, 1, 3, 2]), (64, [0, 1, 3, 2]), (60, [2, 0, 1, 3]), (61, [3, 2, 0, 1]), (67, [0, 1, 3, 2]), (59, [1, 3, 2, 0]), (61, [1, 3, 2, 0]), (63, [1, 3, 2, 0]), (65, [1, 3, 2, 0]), (65, [3, 2, 0, 1]), (61, [2, 0, 1, 3]), (60, [1, 3, 2, 0]), (62, [1, 3, 2, 0]), (65, [2, 0, 1, 3]), (66, [0, 1, 3, 2]), (40, [2, 0, 1, 3]), (44, [2, 3, 0, 1]), (44, [2, 1, 3, 0]), (49, [2, 3, 0, 1]), (46, [2, 1, 3, 0]), (41, [2, 0, 1, 3]), (41, [2, 3, 0, 1]), (45, [2, 3, 0, 1]), (46, [2, 0, 1, 3]), (47, [2, 3, 0, 1]), (47, [2, 0, 1, 3]), (42, [2, 0, 1, 3]), (49, [2, 1, 3, 0]), (48, [2, 3, 0, 1]), (44, [2, 0, 1, 3]), (46, [2, 3, 0, 1]), (45, [2, 0, 1, 3]), (47, [2, 1, 3, 0]), (48, [2, 1, 3, 0]), (43, [2, 0, 1, 3]), (49, [2, 0, 1, 3]), (41, [2, 1, 3, 0]), (48, [2, 0, 1, 3]), (45, [2, 1, 3, 0]), (40, [3, 0, 2, 1]), (44, [3, 2, 1, 0]), (41, [3, 0, 2, 1]), (49, [3, 1, 0, 2]), (46, [3, 2, 1, 0]), (44, [3, 1, 0, 2]), (41, [3, 2, 1, 0]), (45, [3, 2, 1, 0]), (43, [3, 0, 2, 1]), (48, [3, 0, 2, 1]), (48, [3, 2, 1, 0]), (49, [3, 0, 2, 1]), (42, [3, 0, 2, 1]), (47, [3, 1, 0, 2]), (41, [3, 1, 0, 2]), (46, [3, 0, 2, 1]), (45, [3, 1, 0, 2]), (47, [3, 0, 2, 1]), (47, [3, 2, 1, 0]), (46, [3, 1, 0, 2]), (49, [3, 2, 1, 0]), (44, [3, 0, 2, 1]), (48, [3, 1, 0, 2]), (45, [3, 0, 2, 1]), (58, [0, 2, 3, 1]), (59, [1, 0, 2, 3]), (62, [0, 2, 3, 1]), (60, [0, 2, 3, 1]), (61, [0, 2, 3, 1]), (59, [0, 2, 3, 1]), (59, [2, 3, 1, 0]), (63, [1, 0, 2, 3]), (61, [3, 1, 0, 2]), (65, [2, 3, 1, 0]), (67, [0, 2, 3, 1]), (61, [2, 3, 1, 0]), (60, [3, 1, 0, 2]), (64, [0, 2, 3, 1]), (59, [3, 1, 0, 2]), (60, [1, 0, 2, 3]), (63, [0, 2, 3, 1]), (65, [0, 2, 3, 1]), (65, [1, 0, 2, 3]), (60, [2, 3, 1, 0]), (61, [1, 0, 2, 3]), (62, [1, 0, 2, 3]), (65, [3, 1, 0, 2]), (66, [0, 2, 3, 1]), (30, [1, 3, 0, 2]), (32, [1, 3, 2, 0]), (32, [3, 1, 2, 0]), (36, [3, 1, 2, 0]), (36, [1, 3, 2, 0]), (34, [1, 3, 0, 2]), (32, [3, 1, 0, 2]), (38, [1, 3, 0, 2]), (33, [3, 1, 2, 0]), (39, [1, 3, 2, 0]), (37, [1, 3, 2, 0]), (36, [1, 3, 0, 2]), (33, [3, 1, 0, 2]), (37, [3, 1, 0, 2]), (31, [1, 3, 0, 2]), (33, [1, 3, 0, 2]), (35, [1, 3, 0, 2]), (37, [1, 3, 0, 2]), (39, [1, 3, 0, 2]), (36, [3, 1, 0, 2]), (33, [1, 3, 2, 0]), (32, [1, 3, 0, 2]), (37, [3, 1, 2, 0]), (38, [1, 3, 2, 0]), (40, [1, 0, 2, 3]), (41, [1, 0, 2, 3]), (44, [1, 2, 3, 0]), (46, [1, 2, 3, 0]), (49, [1, 3, 0, 2]), (44, [1, 3, 0, 2]), (44, [1, 0, 2, 3]), (45, [1, 0, 2, 3]), (49, [1, 2, 3, 0]), (47, [1, 2, 3, 0]), (48, [1, 3, 0, 2]), (46, [1, 3, 0, 2]), (46, [1, 0, 2, 3]), (47, [1, 0, 2, 3]), (41, [1, 3, 0, 2]), (42, [1, 0, 2, 3]), (45, [1, 3, 0, 2]), (47, [1, 3, 0, 2]), (48, [1, 0, 2, 3]), (49, [1, 0, 2, 3]), (43, [1, 0, 2, 3]), (41, [1, 2, 3, 0]), (48, [1, 2, 3, 0]), (45, [1, 2, 3, 0]), (50, [0, 2, 1, 3]), (52, [0, 2, 3, 1]), (52, [0, 2, 1, 3]), (53, [0, 2, 3, 1]), (53, [0, 2, 1, 3]), (51, [0, 2, 1, 3]), (52, [2, 0, 1, 3]), (56, [0, 2, 1, 3]), (53, [3, 1, 2, 0]), (57, [0, 2, 1, 3]), (55, [1, 3, 2, 0]), (53, [2, 0, 1, 3]), (53, [3, 1, 0, 2]), (55, [0, 2, 3, 1]), (51, [1, 3, 0, 2]), (53, [1, 3, 0, 2]), (54, [0, 2, 1, 3]), (55, [0, 2, 1, 3]), (57, [0, 2, 3, 1]), (53, [2, 0, 3, 1]), (53, [1, 3, 2, 0]), (52, [1, 3, 0, 2]), (55, [2, 0, 3, 1]), (56, [0, 2, 3, 1]), (58, [0, 2, 1, 3]), (62, [0, 2, 1, 3]), (59, [3, 0, 2, 1]), (61, [0, 2, 1, 3]), (60, [0, 2, 1, 3]), (59, [0, 2, 1, 3]), (62, [2, 1, 3, 0]), (66, [0, 2, 1, 3]), (61, [3, 0, 2, 1]), (65, [3, 0, 2, 1]), (65, [1, 3, 0, 2]), (60, [2, 1, 3, 0]), (60, [3, 0, 2, 1]), (65, [0, 2, 1, 3]), (59, [1, 3, 0, 2]), (60, [1, 3, 0, 2]), (63, [0, 2, 1, 3]), (64, [0, 2, 1, 3]), (65, [2, 1, 3, 0]), (61, [2, 1, 3, 0]), (61, [1, 3, 0, 2]), (59, [2, 1, 3, 0]), (67, [0, 2, 1, 3]), (63, [2, 1, 3, 0]), (58, [0, 3, 2, 1]), (59, [1, 0, 3, 2]), (59, [0, 3, 2, 1]), (61, [0, 3, 2, 1]), (60, [0, 3, 2, 1]), (62, [0, 3, 2, 1]), (59, [3, 2, 1, 0]), (63, [1, 0, 3, 2]), (61, [3, 2, 1, 0]), (67, [0, 3, 2, 1]), (65, [3, 2, 1, 0]), (61, [2, 1, 0, 3]), (60, [3, 2, 1, 0]), (65, [1, 0, 3, 2]), (62, [1, 0, 3, 2]), (61, [1, 0, 3, 2]), (66, [0, 3, 2, 1]), (65, [2, 1, 0, 3]), (64, [0, 3, 2, 1]), (60, [2, 1, 0, 3]), (60, [1, 0, 3, 2]), (59, [2, 1, 0, 3]), (65, [0, 3, 2, 1]), (63, [0, 3, 2, 1]), (40, [2, 0, 3, 1]), (44, [2, 3, 1, 0]), (44, [2, 1, 0, 3]), (46, [2, 3, 1, 0]), (49, [2, 1, 0, 3]), (41, [2, 0, 3, 1]), (41, [2, 3, 1, 0]), (45, [2, 3, 1, 0]), (49, [2, 0, 3, 1]), (48, [2, 3, 1, 0]), (48, [2, 0, 3, 1]), (43, [2, 0, 3, 1]), (46, [2, 1, 0, 3]), (47, [2, 3, 1, 0]), (44, [2, 0, 3, 1]), (49, [2, 3, 1, 0]), (45, [2, 0, 3, 1]), (48, [2, 1, 0, 3]), (47, [2, 1, 0, 3]), (42, [2, 0, 3, 1]), (46, [2, 0, 3, 1]), (41, [2, 1, 0, 3]), (47, [2, 0, 3, 1]), (45, [2, 1, 0, 3]), (40, [1, 0, 3, 2]), (41, [1, 0, 3, 2]), (44, [1, 2, 0, 3]), (49, [1, 2, 0, 3]), (46, [1, 3, 2, 0]), (44, [1, 3, 2, 0]), (44, [1, 0, 3, 2]), (45, [1, 0, 3, 2]), (46, [1, 2, 0, 3]), (48, [1, 2, 0, 3]), (47, [1, 3, 2, 0]), (49, [1, 3, 2, 0]), (49, [1, 0, 3, 2]), (48, [1, 0, 3, 2]), (41, [1, 3, 2, 0]), (43, [1, 0, 3, 2]), (45, [1, 3, 2, 0]), (48, [1, 3, 2, 0]), (47, [1, 0, 3, 2]), (46, [1, 0, 3, 2]), (42, [1, 0, 3, 2]), (41, [1, 2, 0, 3]), (47, [1, 2, 0, 3]), (45, [1, 2, 0, 3]), (30, [1, 2, 0, 3]), (32, [1, 2, 3, 0]), (34, [1, 2, 0, 3]), (36, [1, 2, 3, 0]), (36, [2, 1, 3, 0]), (32, [2, 1, 3, 0]), (32, [2, 1, 0, 3]), (38, [1, 2, 0, 3]), (36, [1, 2, 0, 3]), (37, [1, 2, 3, 0]), (39, [1, 2, 3, 0]), (33, [2, 1, 3, 0]), (36, [2, 1, 0, 3]), (39, [1, 2, 0, 3]), (32, [1, 2, 0, 3]), (33, [1, 2, 3, 0]), (38, [1, 2, 3, 0]), (37, [2, 1, 3, 0]), (37, [2, 1, 0, 3]), (33, [2, 1, 0, 3]), (33, [1, 2, 0, 3]), (31, [1, 2, 0, 3]), (37, [1, 2, 0, 3]), (35, [1, 2, 0, 3]), (58, [0, 3, 1, 2]), (62, [0, 3, 1, 2]), (59, [0, 3, 1, 2]), (60, [0, 3, 1, 2]), (61, [0, 3, 1, 2]), (59, [2, 0, 3, 1]), (62, [2, 0, 3, 1]), (66, [0, 3, 1, 2]), (60, [3, 1, 2, 0]), (65, [1, 2, 0, 3]), (65, [2, 0, 3, 1]), (61, [2, 0, 3, 1]), (61, [3, 1, 2, 0]), (65, [3, 1, 2, 0]), (59, [3, 1, 2, 0]), (61, [1, 2, 0, 3]), (63, [2, 0, 3, 1]), (67, [0, 3, 1, 2]), (65, [0, 3, 1, 2]), (60, [2, 0, 3, 1]), (60, [1, 2, 0, 3]), (59, [1, 2, 0, 3]), (64, [0, 3, 1, 2]), (63, [0, 3, 1, 2]), (50, [0, 3, 1, 2]), (52, [0, 3, 2, 1]), (51, [0, 3, 1, 2]), (53, [0, 3, 1, 2]), (53, [0, 3, 2, 1]), (52, [0, 3, 1, 2]), (52, [2, 1, 0, 3]), (56, [0, 3, 1, 2]), (53, [3, 0, 1, 2]), (55, [1, 2, 3, 0]), (57, [0, 3, 1, 2]), (53, [2, 1, 3, 0]), (53, [3, 0, 2, 1]), (57, [0, 3, 2, 1]), (52, [1, 2, 0, 3]), (53, [1, 2, 3, 0]), (56, [0, 3, 2, 1]), (55, [2, 1, 3, 0]), (55, [0, 3, 2, 1]), (53, [2, 1, 0, 3]), (53, [1, 2, 0, 3]), (51, [1, 2, 0, 3]), (55, [0, 3, 1, 2]), (54, [0, 3, 1, 2])]
def shortL (n : Nat) : List (List (List Nat)) := ((perms n (List.range n)).map fun a => [a]) ++ (perms n (List.range n)).flatMap fun a => (perms n (List.range n)).map fun b => [a, b]
def ctOk (n : Nat) (ct : List (Nat × List Nat)) : Bool := decide ((shortL n).length = ct.length) && ((shortL n).zip ct).all fun x => decide (x.1 = (reps.getD x.2.1 ([], 0)).1.map (cj x.2.2)) && decide ((reps.getD x.2.1 ([], 0)).2 = n) && decide (IsP n x.2.2) && decide (x.2.1 < reps.length)
theorem ct2_ok : ctOk 2 ct2 = true := by decide +kernel
theorem ct3_ok : ctOk 3 ct3 = true := by decide +kernel
theorem ct4_ok : ctOk 4 ct4 = true := by decide +kernel
theorem short_mem {n : Nat} {ls : List (List Nat)} (h1 : 1 ≤ ls.length) (h2 : ls.length ≤ 2) (hP : ∀ g ∈ ls, IsP n g) : ls ∈ shortL n := by
  have pm : ∀ g ∈ ls, g ∈ perms n (List.range n) := fun g hg => (perms_mem n _ _ List.length_range).mpr (hP g hg)
  unfold shortL
  match ls, h1, h2 with
  | [a], _, _ => exact List.mem_append_left _ (List.mem_map.mpr ⟨a, pm a List.mem_cons_self, rfl⟩)
  | [a, b], _, _ => exact List.mem_append_right _ (List.mem_flatMap.mpr ⟨a, pm a List.mem_cons_self, List.mem_map.mpr ⟨b, pm b (List.mem_cons_of_mem _ List.mem_cons_self), rfl⟩⟩)
theorem ct_of {n : Nat} {ct : List (Nat × List Nat)} (h : ctOk n ct = true) {ls : List (List Nat)} (hl : ls ∈ shortL n) : ∃ r s, r ∈ reps ∧ r.2 = n ∧ IsP n s ∧ ls = r.1.map (cj s) := by
  unfold ctOk at h
  rw [Bool.and_eq_true] at h
  have hlen := of_decide_eq_true h.1
  obtain ⟨k, hk⟩ := List.mem_iff_getElem?.mp hl
  have hkl := (List.getElem?_eq_some_iff.mp hk).1
  have hc : ct[k]? = some (ct[k]'(by omega)) := List.getElem?_eq_getElem _
  have hz : ((shortL n).zip ct)[k]? = some (ls, ct[k]'(by omega)) := List.getElem?_zip_eq_some.mpr ⟨hk, hc⟩
  have hx := List.all_eq_true.mp h.2 _ (List.mem_of_getElem? hz)
  simp only [Bool.and_eq_true, decide_eq_true_iff] at hx
  obtain ⟨⟨⟨a1, a2⟩, a3⟩, a4⟩ := hx
  refine ⟨_, _, ?_, a2, a3, a1⟩
  rw [List.getD_eq_getElem?_getD, List.getElem?_eq_getElem a4]
  exact List.getElem_mem _
theorem ct_all {n : Nat} {ls : List (List Nat)} (n2 : 2 ≤ n) (n4 : n ≤ 4) (h1 : 1 ≤ ls.length) (h2 : ls.length ≤ 2) (hP : ∀ g ∈ ls, IsP n g) : ∃ r s, r ∈ reps ∧ r.2 = n ∧ IsP n s ∧ ls = r.1.map (cj s) := by
  have hm := short_mem h1 h2 hP
  have : n = 2 ∨ n = 3 ∨ n = 4 := by omega
  rcases this with rfl | rfl | rfl
  · exact ct_of ct2_ok hm
  · exact ct_of ct3_ok hm
  · exact ct_of ct4_ok hm
/-- the kinds -/
def lenB (gs : List (List Nat)) : Nat := (gs.headD []).length
theorem tab_bas : (table.all fun x => (decide (x.2.length ≤ 2) && decide (lenB x.2 ≤ 4)) || decide (primeOf (LL x.2 (lenB x.2)).length = none) || basL.any fun b => decide (b.gs = x.2) && decide (b.n = lenB x.2)) = true := by decide +kernel
end Lt

set_option Elab.async false
set_option linter.all false
set_option maxRecDepth 100000
set_option maxHeartbeats 2000000
namespace L2
open PySem PySem.Spec PyProof.Rows Lt
section
variable {X : Cx} {o i : Expr} {td ty : TE} {pos : Pos}
end
end L2
namespace Lt
open PySem PySem.Spec PyProof.Rows L2
section
variable {P : Program} {w : World} {K : PySem.W.Frag} {mg : Str → Option Value} {base : Heap}
end
end Lt

set_option Elab.async false
set_option linter.all false
set_option maxRecDepth 100000
set_option maxHeartbeats 2000000
namespace Lt
open PySem PySem.Spec PyProof.Rows L2
section
variable {P : Program} {w : World} {K : PySem.W.Frag} {mg : Str → Option Value} {base : Heap} {CL CM : Addr}
def lcS : Expr → Scope
  | .ListComp _ _ s _ => s
  | _ => { kind := .function, names := [], isGenerator := false, isCoroutine := false, more := [] }
def relS (sc outer : Scope) : Scope := { sc with names := sc.names.map fun (n, k) => if (k == NameKind.free && outer.kind == .function && outer.names.lookup n == some .cell) then (n, NameKind.cell) else (n, k) }
end
end Lt

set_option Elab.async false
set_option linter.all false
set_option maxHeartbeats 1000000
/-! the upper central series; what fades, and what lasts -/
namespace Lt
section
variable {n : Nat}
end
section
variable {ls T0 : List (List Nat)} {n m : Nat} (hls : ∀ g ∈ ls, IsP n g) (hf : Few ls n m) (hT : ∀ t, t ∈ T0 ↔ Mk ls n t)
include hls hT
end
end Lt

set_option Elab.async false
set_option linter.all false
set_option maxRecDepth 100000
set_option maxHeartbeats 4000000
namespace Lt
open PySem PySem.Spec PyProof.Rows L2
section
variable {P : Program} {w : World} {K : PySem.W.Frag} {mg : Str → Option Value} {base : Heap}
theorem DKs.same {H H' : Hp} {d : Addr} {ks : List (List Nat)} (h : DKs H d ks) (e : Same H H') : DKs H' d ks := let ⟨kvs, h1, h2⟩ := h; ⟨kvs, e _ _ h1, h2⟩
end
end Lt

set_option Elab.async false
set_option linter.all false
namespace Lt
open PySem PySem.Spec PyProof.Rows L2
/-- a tuple of turns whose objects are known -/
def TTF (H : Hp) (v : V) (ts : List (List Nat)) : Prop := ∃ a xs, v = .ref a ∧ H a = some (.tup xs) ∧ Paired (TF H) xs ts
theorem TTF.tt {H : Hp} {v : V} {ts : List (List Nat)} (h : TTF H v ts) : TT H v ts := let ⟨a, xs, e, ha, p⟩ := h; ⟨a, xs, e, ha, paired_mono (fun _ _ r => TF.tn r) p⟩
theorem TTF.tm {H H' : Hp} {v : V} {ts : List (List Nat)} (e : Tm H H') (h : TTF H v ts) : TTF H' v ts := let ⟨a, xs, e1, ha, p⟩ := h; ⟨a, xs, e1, e.1 _ _ ha, TFs.tm e p⟩
end Lt

set_option Elab.async false
set_option linter.all false
set_option maxRecDepth 100000
set_option maxHeartbeats 4000000
namespace Lt
open PySem PySem.Spec PyProof.Rows L2
section
variable {P : Program} {w : World} {K : PySem.W.Frag} {mg : Str → Option Value} {base : Heap} {CL CM : Addr}
end
end Lt

set_option Elab.async false
set_option linter.all false
set_option maxRecDepth 100000
set_option maxHeartbeats 2000000
/-! the same, the turns as keys -/
namespace Lt
open PySem PySem.Spec PyProof.Rows L2
section
variable {P : Program} {w : World} {K : PySem.W.Frag} {mg : Str → Option Value} {base : Heap}
def spGroupK : Sp := fun vs H Q _ => ∃ (ml : Addr) (ms : List (List Nat)) (n : Nat), vs = [.ref ml, nI n] ∧ LK H ml ms ∧ (∀ g ∈ ms, IsP n g) ∧ 1 ≤ n ∧ n ≤ 9 ∧ Few ms n 63 ∧
  ∀ p fl tv few ts H', Same H H' → H' p = some (.tup [.ref fl, tv]) → H fl = none → LT H' fl few → TTK H' tv ts → (∀ g ∈ few, g ∈ ms) → few.length ≤ 63 → (∀ t, Mk few n t ↔ Mk ms n t) → ts.Nodup → (∀ t, t ∈ ts ↔ Mk ms n t) → Asc ts → Q (.ref p) H'
theorem has_group_ofK (T : Top K mg "group_of" s_group_of ["makers", "size"]) (B : Bi mg) (hS : Has P w K mg base CX0 1 "still_of" ["size"] spStill) (hW : Has P w K mg base CX0 2 "words_of" ["makers", "size"] spWordsL) : Has P w K mg base CX0 3 "group_of" ["makers", "size"] spGroupK := by
  refine T.ok sc_group_of (fun vs H Q E h => ?_) (fun f cdv A outer s H vs Q E hr h => ?_)
  · obtain ⟨ml, ms, n, rfl, _⟩ := h
    rfl
  · obtain ⟨ml, ms, n, rfl, ⟨mx, hml, pm⟩, hms, hn1, hn9, hf, q⟩ := h
    have hu := hu_of hr
    have hr1 : Room 1 _ := hr.mono (by decide)
    refine ⟨_, pss_cons (ps_set (i := 2) sc_group_of.nd rfl (Or.inl rfl) (pe_lst pa_nil))
      (pss_cons (ps_set (i := 3) sc_group_of.nd rfl (Or.inl rfl) (pe_lst (pa_cons (pe_has hS hr1 (by rfl) (pa_cons (pv 1) pa_nil)) pa_nil)))
      (pss_cons (ps_set (i := 4) sc_group_of.nd rfl (Or.inl rfl) (pe_dispT hu (pe_ix ix_list (pv 3) pe_int (fun _ _ => rfl)) pe_bl))
      (pss_cons (ps_for PassesOwn.never rfl (pi_list (pv 0)) (pg_name (i := 5) sc_group_of.nd rfl (Or.inl rfl))
        (pss_one (ps_if (pt_cmp (pc_dnotin hu (pv 5) (pv 4)))
          (pss_cons (ps_expr (pe_bm PySem.F.plainAttrs_list PySem.F.slot_list_append PySem.F.type_list_append mt_append (pv 2) (pa_cons (pv 5) pa_nil)))
          (pss_cons (ps_set (i := 4) sc_group_of.nd rfl (Or.inl rfl) (pe_has hW hr (by rfl) (pa_cons (pv 2) (pa_cons (pv 1) pa_nil))))
          (pss_one (ps_set (i := 3) sc_group_of.nd rfl (Or.inl rfl) (pe_callB (cr_sortDT (d := n) (B := 9) rfl hn1) (by rfl) B.sorted PyProof.Rows.boot_sorted (pa_cons (pv 4) pa_nil)))))) pss_nil)))
      (pss_one (ps_ret (pe_tup (pa_cons (pv 2) (pa_cons (pe_tupleOf (by rfl) B.tuple (pv 3)) pa_nil)))))))), ?_⟩
    refine ⟨Nat.zero_le _, fun fl hfl => ?_⟩
    have s1 := same_new (o := .lst []) hfl
    refine ⟨_, rfl, n, rfl, by omega, fun sv H1 s2 hsv => ?_⟩
    refine ⟨Nat.le_of_ble_eq_true rfl, fun tl htl => ?_⟩
    have s3 := same_new (o := .lst [sv]) htl
    obtain ⟨b, rfl, hb⟩ := hsv.key
    refine fun d hd => ?_
    have s4 := same_new (o := .dT []) hd
    have fl0 : H fl = none := hfl
    have hml1 := s2 _ _ (s1 _ _ hml)
    have fl1 := s2 _ _ (upd_same (H := H) (a := fl) (o := .lst []))
    have tl0 : H tl = none := (s1.trans s2).free htl
    have d0 : H d = none := ((s1.trans s2).trans s3).free hd
    have htd : tl ≠ d := fun z => by rw [← z, upd_same] at hd; cases hd
    have hfd : fl ≠ d := ne_of_none (s3 _ _ fl1) hd
    refine ⟨_, rfl, tl, [V.ref b], 0, .ref b, rfl, rfl, SqL.of (s4 _ _ upd_same), rfl, b, keyN (List.range n), rfl, upd_same, s4 _ _ (s3 _ _ hb), ?_⟩
    have sD : Same H (upd (upd (upd H1 tl (.lst [V.ref b])) d (.dT [])) d (.dT [(keyN (List.range n), V.bl true)])) := same_mut (((s1.trans s2).trans s3).trans s4) d0
    have tD : Tm H1 (upd (upd (upd H1 tl (.lst [V.ref b])) d (.dT [])) d (.dT [(keyN (List.range n), V.bl true)])) := (Tm.of (s3.trans s4)).trans (Tm.dT upd_same)
    refine ⟨_, rfl, ml, rfl, ⟨_, SqL.of (sD _ _ hml)⟩, for_list (K := K) (a := ml) (xs := mx)
      (fun i σ H' => ∃ x5 dl tl few ks ts, σ = [some (.ref ml), some (nI n), some (.ref fl), some (.ref tl), some (.ref dl), x5] ∧ Same H H' ∧ LT H' fl few ∧ DKs H' dl ks ∧ LK H' tl ts ∧ few.Nodup ∧ (∀ g ∈ few, g ∈ ms) ∧ (∀ g ∈ ms.take i, Mk few n g) ∧ (∀ t, t ∈ ks ↔ Mk few n t) ∧ ts.Nodup ∧ (∀ t, t ∈ ts ↔ Mk few n t) ∧ Asc ts)
      ⟨none, d, tl, [], [List.range n], [List.range n], rfl, sD, ⟨[], ?_, .nil⟩, ⟨[(keyN (List.range n), V.bl true)], upd_same, rfl⟩, ⟨[.ref b], ?_, .cons (TK.tm tD hsv) .nil⟩, List.nodup_nil, (fun g h => by cases h), (fun g h => by rw [List.take_zero] at h; cases h), fun t => ?_, List.nodup_cons.mpr ⟨List.not_mem_nil, List.nodup_nil⟩, fun t => ?_, List.pairwise_singleton ..⟩
      (fun i σ H' _ ⟨_, _, _, _, _, _, _, st, _⟩ => SqL.of (st _ _ hml)) ?_ ?_⟩
    · rw [upd_ne hfd, upd_ne hfd, s3 _ _ fl1]
    · rw [upd_ne htd, upd_ne htd, upd_same]
    · rw [List.mem_singleton]
      exact ⟨fun z => by rw [z]; exact .still, Mk.nil⟩
    · rw [List.mem_singleton]
      exact ⟨fun z => by rw [z]; exact .still, Mk.nil⟩
    · rintro i x σ H' hi ⟨x5, dl, tl, few, ks, ts, rfl, st, ⟨fx, hfx, pf⟩, ⟨kvs, hk, ek⟩, lts, fnd, fms, ftk, hks, tnd, hts, asc⟩
      obtain ⟨g, hg, hgk⟩ := Paired.getL pm hi
      have gms := List.mem_of_getElem? hg
      have hgk' := TK.tm (.of st) hgk
      obtain ⟨gb, rfl, hgb⟩ := hgk'.key
      refine ⟨_, rfl, _, rfl, dl, _, rfl, DGet.t hk hgb, _, rfl, ?_⟩
      rw [dks_isSome ek]
      have ftake : ∀ (few' : List (List Nat)), (∀ x ∈ few', IsP n x) → (∀ x ∈ few, x ∈ few') → Mk few' n g → ∀ g ∈ ms.take (i + 1), Mk few' n g := fun few' h1 h2 h3 g' hg' => by
        rw [List.take_add_one, hg] at hg'
        rcases List.mem_append.mp hg' with z | z
        · exact (ftk g' z).mono h1 fun y hy => .one h1 (h2 y hy)
        · rw [List.mem_singleton.mp z]
          exact h3
      have fP : ∀ x ∈ few, IsP n x := fun x hx => hms x (fms x hx)
      by_cases hin : g ∈ ks
      · rw [decide_eq_true hin]
        exact iteF ⟨_, _, _, few, ks, ts, rfl, st, ⟨fx, hfx, pf⟩, ⟨kvs, hk, ek⟩, lts, fnd, fms, ftake few fP (fun _ h => h) ((hks g).mp hin), hks, tnd, hts, asc⟩
      · rw [decide_eq_false hin]
        refine iteT ?_
        have flen : few.length ≤ 63 := hf.le fnd fun t h => .one hms (fms t h)
        refine ⟨_, rfl, .inl ⟨rfl, _, SqL.of hfx⟩, _, rfl, fl, fx, .ref gb, rfl, rfl, hfx, by rw [sizeLine_eq, Paired.length pf]; omega, ?_⟩
        have tA := Tm.lst (o := .lst (fx ++ [V.ref gb])) hfx
        have stA : Same H (upd H' fl (.lst (fx ++ [V.ref gb]))) := same_mut st hfl
        have ltA : LT (upd H' fl (.lst (fx ++ [V.ref gb]))) fl (few ++ [g]) := ⟨_, upd_same, Paired.app (TNs.tm tA pf) (Paired.one (TK.tn (TK.tm tA hgk')))⟩
        have fms' : ∀ y ∈ few ++ [g], y ∈ ms := fun y hy => (List.mem_append.mp hy).elim (fms y) fun z => by rw [List.mem_singleton.mp z]; exact gms
        have fP' : ∀ y ∈ few ++ [g], IsP n y := fun y hy => hms y (fms' y hy)
        have sub : ∀ t, Mk (few ++ [g]) n t → Mk ms n t := fun t h => h.mono hms fun y hy => .one hms (fms' y hy)
        refine ⟨_, rfl, _, rfl, fl, few ++ [g], n, rfl, ltA, fP', by omega, by rw [List.length_append]; show few.length + 1 ≤ 1000; omega, fun d2 H2 L s5 hd2 dw hW => ?_⟩
        obtain ⟨aa, eL, eLl, l63⟩ := (hf.sub sub).wd (by omega) hW
        have hP2 := wd_isP fP' hW
        obtain ⟨kv2, hk2, pk2⟩ := dw
        refine ⟨_, rfl, d2, kv2, numL L, rfl, .inl hk2, keysI pk2, by rw [List.length_map]; omega, fun k hk => ?_, fun bs ks' p pmm so pr hp => ?_⟩
        · obtain ⟨y, hy, rfl⟩ := List.mem_map.mp hk
          exact ⟨by rw [List.length_map, (hP2 y hy).len], bd_iN (hP2 y hy) hn9⟩
        · obtain ⟨ts2, rfl⟩ := turns_back (L := L) fun k hk => pmm.mem_iff.mp hk
          have pm2 : ts2.Perm (L.map (·.1)) := perm_iN (by
            rw [List.map_map]
            exact pmm)
          have s6 := same_new (o := .lst (bs.map V.ref)) hp
          have full : ∀ t, t ∈ L.map (·.1) ↔ Mk (few ++ [g]) n t := fun t => by
            rw [eL]
            exact qq_full (Nat.le_of_eq (by rw [← eL]; exact eLl)) t
          have hgn : g ∉ few := fun z => hin ((hks g).mpr (.one fP z))
          exact ⟨_, d2, p, few ++ [g], L.map (·.1), ts2, rfl, (stA.trans s5).trans s6, LT.same (s5.trans s6) ltA, (DW.same ⟨kv2, hk2, pk2⟩ s6).dks, ⟨_, upd_same, TKs.tm (.of s6) (tns_of pr)⟩, nodup_snoc fnd hgn, fms',
            ftake (few ++ [g]) fP' (fun y hy => List.mem_append.mpr (.inl hy)) (.one fP' (List.mem_append.mpr (.inr List.mem_cons_self))), full, (List.Perm.nodup_iff pm2).mpr (by rw [eL]; exact qq_nd _ n aa), fun t => (pm2.mem_iff).trans (full t), (List.pairwise_map (f := iN) (R := fun x y => TS.code 9 x ≤ TS.code 9 y)).mp so⟩
    · rintro σ H' ⟨x5, dl, tl, few, ks, ts, rfl, st, ltf, _, ⟨tx, htx, ptx⟩, fnd, fms, ftk, hks, tnd, hts, asc⟩
      rw [Paired.length pm, List.take_length] at ftk
      have fP : ∀ x ∈ few, IsP n x := fun x hx => hms x (fms x hx)
      have eq : ∀ t, Mk few n t ↔ Mk ms n t := fun t => ⟨fun h => h.mono hms fun y hy => .one hms (fms y hy), fun h => h.mono fP ftk⟩
      refine ⟨_, rfl, _, rfl, .inl ⟨tl, tx, rfl, SqL.of htx, fun tp htp => ?_⟩⟩
      have s7 := same_new (o := .tup tx) htp
      refine ⟨Nat.le_of_ble_eq_true rfl, fun p hp => ?_⟩
      have s8 := same_new (o := .tup [V.ref fl, V.ref tp]) hp
      exact q p fl (.ref tp) few ts _ ((st.trans s7).trans s8) upd_same fl0 (LT.same (s7.trans s8) ltf) ⟨tp, tx, rfl, s8 _ _ upd_same, TKs.tm (.of (s7.trans s8)) ptx⟩ fms (hf.le fnd fun t h => .one hms (fms t h)) eq tnd (fun t => (hts t).trans (eq t)) asc
end
end Lt

set_option Elab.async false
set_option linter.all false
set_option maxRecDepth 100000
set_option maxHeartbeats 2000000
/-! the same, the turns as keys -/
namespace Lt
open PySem PySem.Spec PyProof.Rows L2
section
variable {P : Program} {w : World} {K : PySem.W.Frag} {mg : Str → Option Value} {base : Heap}
def spBracketsTK : Sp := fun vs H Q _ => ∃ (tv mv : V) (ts ms : List (List Nat)) (n : Nat), vs = [tv, mv] ∧ TT H tv ts ∧ TT H mv ms ∧ (∀ g ∈ ts, IsP n g) ∧ (∀ g ∈ ms, IsP n g) ∧ 1 ≤ ts.length ∧ ts.length ≤ 63 ∧ ms.length ≤ 63 ∧ 1 ≤ n ∧ n ≤ 9 ∧ Few (brk ts ms) n 63 ∧
  ∀ p fl tv few us H', Same H H' → H' p = some (.tup [.ref fl, tv]) → H fl = none → LT H' fl few → TTK H' tv us → (∀ g ∈ few, g ∈ brk ts ms) → few.length ≤ 63 → (∀ t, Mk few n t ↔ Mk (brk ts ms) n t) → us.Nodup → (∀ t, t ∈ us ↔ Mk (brk ts ms) n t) → Asc us → Q (.ref p) H'
theorem has_brackets_madeTK (T : Top K mg "brackets_made" s_brackets_made ["term", "makers"]) (B : Bi mg) (hB : Has P w K mg base CX0 2 "bracket_of" ["one", "other"] spBracket) (hG : Has P w K mg base CX0 3 "group_of" ["makers", "size"] spGroupK) : Has P w K mg base CX0 4 "brackets_made" ["term", "makers"] spBracketsTK := by
  refine T.ok sc_brackets_made (fun vs H Q E h => ?_) (fun f cdv A outer s H vs Q E hr h => ?_)
  · obtain ⟨tv, mv, ts, ms, n, rfl, _⟩ := h
    rfl
  · obtain ⟨tv, mv, ts, ms, n, rfl, ⟨ta, tx, rfl, hta, pt⟩, ⟨ma, mx, rfl, hma, pm⟩, hts, hms, ht1, ht2, hm2, hn1, hn9, hf, q⟩ := h
    have hr2 : Room 2 _ := hr.mono (by decide)
    refine ⟨_, pss_cons (ps_setLc2 (i := 2) (own := [("turn", 3), ("maker", 4)]) (vs1 := [4]) (wi1 := iTup K (tVar 1)) (g := gName 3) (g1 := gName 4) (te := tCall spBracket [] E0 (tCons (tVar 3) (tCons (tVar 4) tNil))) (by rfl) sc_brackets_made.nd rfl rfl (sw_true rfl rfl rfl (by decide +kernel)) (pi_tup (pv 0))
        (blkOk_by (own := [("turn", 3), ("maker", 4)]) (N := ["term", "makers", "brackets", "turn", "maker"]) (sc := defScope s_brackets_made) (by decide +kernel)) (by decide)
        (fun _ _ _ _ _ => pg_name (i := 3) sc_brackets_made.nd rfl (Or.inl rfl)) (fun _ _ _ _ _ => pts_nil) (fun _ _ _ _ _ => by exact (pi_tup (pv 1))) (fun _ _ _ _ _ => pg_name (i := 4) sc_brackets_made.nd rfl (Or.inl rfl)) (fun _ _ _ _ _ => pts_nil)
        (fun _ _ _ _ _ => pe_has hB hr2 (by rfl) (pa_cons (pv 3) (pa_cons (pv 4) pa_nil))))
      (pss_one (ps_ret (pe_has hG hr (by rfl) (pa_cons (pv 2) (pa_cons (pe_callB call_len_seq (by rfl) B.len PySem.boot_len (pa_cons (pe_ix ix_tup (pv 0) pe_int (fun _ _ => rfl)) pa_nil)) pa_nil))))), ?_⟩
    refine ⟨_, rfl, ta, rfl, ⟨_, SqT.of hta⟩, fun D hD => ?_⟩
    have Dr : H D = none := hD
    let Pv : Nat → Hp → Prop := fun i H' => Same H H' ∧ ∃ zs, H' D = some (.lst zs) ∧ Paired (TK H') zs (brk (ts.take i) ms)
    have htl : tx.length = ts.length := Paired.length pt
    have hml : mx.length = ms.length := Paired.length pm
    refine ⟨fun i m H' => m = tx.length - i ∧ i ≤ tx.length ∧ Pv i H', ⟨tx.length, rfl, Nat.zero_le _, same_new hD, [], upd_same, .nil⟩, ?_⟩
    rintro i m H1 ⟨rfl, hi, st, zs, hz, pz⟩
    by_cases hlt : i < tx.length
    · refine .inr ⟨⟨tx, tx[i], SqT.of (st _ _ hta), by simp [hlt]⟩, Pv (i + 1), fun H' p' => ⟨tx.length - (i + 1), by omega, rfl, hlt, p'⟩, fun x H' y => ?_⟩
      obtain ⟨e, y⟩ := y
      subst e
      have hx := y tx (SqT.of (st _ _ hta))
      obtain ⟨t, ht, htn⟩ := Paired.getL pt hx
      have tP := hts t (List.mem_of_getElem? ht)
      refine ⟨rfl, iteT (B := Pv (i + 1) H') ?_⟩
      let Pw : Nat → Hp → Prop := fun j H' => Same H H' ∧ ∃ zs, H' D = some (.lst zs) ∧ Paired (TK H') zs (brk (ts.take i) ms ++ (ms.take j).map (cm t))
      refine ⟨_, rfl, ma, rfl, ⟨_, SqT.of (st _ _ hma)⟩, fun j k H' => k = mx.length - j ∧ j ≤ mx.length ∧ Pw j H', ⟨mx.length, rfl, Nat.zero_le _, st, zs, hz, by rw [List.take_zero, List.map_nil, List.append_nil]; exact pz⟩, ?_⟩
      rintro j k H2 ⟨rfl, hj, st2, zs2, hz2, pz2⟩
      by_cases hlj : j < mx.length
      · refine .inr ⟨⟨mx, mx[j], SqT.of (st2 _ _ hma), by simp [hlj]⟩, Pw (j + 1), fun H' p' => ⟨mx.length - (j + 1), by omega, rfl, hlj, p'⟩, fun x2 H'' y2 => ?_⟩
        obtain ⟨e, y2⟩ := y2
        subst e
        have hx2 := y2 mx (SqT.of (st2 _ _ hma))
        obtain ⟨g, hg, hgn⟩ := Paired.getL pm hx2
        have gP := hms g (List.mem_of_getElem? hg)
        refine ⟨rfl, iteT (B := Pw (j + 1) H'') ?_⟩
        refine ⟨_, rfl, _, rfl, x, x2, t, g, n, rfl, htn.tm (.of st2), hgn.tm (.of st2), tP, gP, by omega, fun v H3 s3 hv => ?_⟩
        have h3 := s3 _ _ hz2
        have t3 : Tm H3 (upd H3 D (.lst (zs2 ++ [v]))) := Tm.lst h3
        have lz : zs2.length ≤ 8000 := by
          have l1 := Paired.length pz2
          rw [List.length_append, List.length_map, brk_len, List.length_take, List.length_take] at l1
          have l2 : min i ts.length * ms.length ≤ 63 * 63 := Nat.mul_le_mul (by omega) hm2
          omega
        refine ⟨zs2, h3, by rw [sizeLine_eq]; omega, same_mut (st2.trans s3) Dr, zs2 ++ [v], upd_same, ?_⟩
        rw [List.take_add_one, hg, List.map_append, ← List.append_assoc]
        exact Paired.app (TKs.tm ((Tm.of s3).trans t3) pz2) (Paired.one (TK.tm t3 hv))
      · have e : j = mx.length := by omega
        subst e
        rw [hml, List.take_length] at pz2
        refine .inl ⟨⟨mx, SqT.of (st2 _ _ hma), Nat.le_refl _⟩, st2, zs2, hz2, ?_⟩
        rw [brk_next ht]
        exact pz2
    · have e : i = tx.length := by omega
      subst e
      rw [htl, List.take_length] at pz
      obtain ⟨t0, tb, b, ht0, hb0, rfl, hbt⟩ : ∃ t0 tb b, ts[0]? = some t0 ∧ tx[0]? = some tb ∧ tb = .ref b ∧ RT H b (nIs t0) := by
        obtain ⟨tb, h1, h2⟩ := Paired.getR pt (List.getElem?_eq_getElem (by omega : 0 < ts.length))
        obtain ⟨b, rfl, hb⟩ := h2
        exact ⟨_, _, b, List.getElem?_eq_getElem (by omega), h1, rfl, hb⟩
      have t0P := hts t0 (List.mem_of_getElem? ht0)
      refine .inl ⟨⟨tx, SqT.of (st _ _ hta), Nat.le_refl _⟩, ?_⟩
      refine ⟨_, rfl, _, rfl, ta, tx, 0, .ref b, rfl, rfl, SqT.of (st _ _ hta), by exact atI_nat (j := 0) hb0, b, nIs t0, rfl, .inr (hbt.sm st).sq, D, brk ts ms, n, by rw [nIs_len, t0P.len]; rfl, ⟨zs, hz, pz⟩, fun g hg => ?_, hn1, hn9, hf, fun p fl tv few us H' s6 hp hfn => q p fl tv few us H' (st.trans s6) hp (st.free hfn)⟩
      obtain ⟨t, h1, g', h2, rfl⟩ := brk_mem.mp hg
      exact (hts t h1).cm (hms g' h2)
end
end Lt

set_option Elab.async false
set_option linter.all false
set_option maxRecDepth 100000
set_option maxHeartbeats 2000000
/-! the same, the turns as keys -/
namespace Lt
open PySem PySem.Spec PyProof.Rows L2
section
variable {P : Program} {w : World} {K : PySem.W.Frag} {mg : Str → Option Value} {base : Heap}
end
end Lt

set_option Elab.async false
set_option linter.all false
set_option maxRecDepth 100000
set_option maxHeartbeats 2000000
/-! the same, the turns as keys -/
namespace Lt
open PySem PySem.Spec PyProof.Rows L2
section
variable {P : Program} {w : World} {K : PySem.W.Frag} {mg : Str → Option Value} {base : Heap}
end
end Lt

set_option Elab.async false
set_option linter.all false
set_option maxRecDepth 100000
set_option maxHeartbeats 2000000
/-! the same, the turns as keys -/
namespace Lt
open PySem PySem.Spec PyProof.Rows L2
def TTTK (H : Hp) (v : V) (Ts : List (List (List Nat))) : Prop := ∃ a xs, v = .ref a ∧ H a = some (.tup xs) ∧ Paired (TTK H) xs Ts
theorem TTK.tm2 {H H' : Hp} {v : V} {ts : List (List Nat)} (e : Tm H H') (h : TTK H v ts) : TTK H' v ts := let ⟨a, xs, ev, ha, p⟩ := h; ⟨a, xs, ev, e.1 _ _ ha, TKs.tm e p⟩
theorem TTKs.tm {H H' : Hp} (e : Tm H H') {xs : List V} {Ts : List (List (List Nat))} (p : Paired (TTK H) xs Ts) : Paired (TTK H') xs Ts := paired_mono (fun _ _ r => TTK.tm2 e r) p
section
variable {P : Program} {w : World} {K : PySem.W.Frag} {mg : Str → Option Value} {base : Heap} {CL CM : Addr}
end
end Lt

set_option Elab.async false
set_option linter.all false
set_option maxRecDepth 100000
set_option maxHeartbeats 2000000
/-! lower, the turns as keys -/
namespace Lt
open PySem PySem.Spec PyProof.Rows L2
section
variable {P : Program} {w : World} {K : PySem.W.Frag} {mg : Str → Option Value} {base : Heap} {CL CM : Addr}
def spLowerK : Sp := fun vs H Q _ => ∃ (v : V) (ls : List (List Nat)) (n : Nat), vs = [v] ∧ Good H v ls n ∧ ∀ r H' T0 Ts, Same H H' → TTTK H' r Ts → T0.Nodup → Asc T0 → (∀ t, t ∈ T0 ↔ Mk ls n t) → Ser ls n T0 Ts → Q r H'
theorem has_lowerK (T : Top K mg "lower" s_lower ["lock"]) (B : Bi mg) (hA : Has P w K mg base (L2.CX P w) 6 "all_turns" ["lock"] (spAllK CL CM)) (hM : Has P w K mg base CX0 4 "brackets_made" ["term", "makers"] spBracketsTK) : Has P w K mg base CX0 7 "lower" ["lock"] spLowerK := by
  refine T.ok sc_lower (fun vs H Q E h => ?_) (fun f cdv A outer s H vs Q E hr h => ?_)
  · obtain ⟨v, ls, n, rfl, _⟩ := h
    rfl
  · obtain ⟨v, ls, n, rfl, g, q⟩ := h
    have hr4 : Room 4 _ := hr.mono (by decide)
    have hls := g.gl.2.2.2.2
    have n9 := g.gl.2.2.2.1
    have n2 := g.gl.2.2.1
    have l4 := g.gl.2.1
    refine ⟨_, pss_cons (ps_set (i := 1) sc_lower.nd rfl (Or.inl rfl) (pe_lst (pa_cons (pe_hasL hA hr (by rfl) (pa_cons (pv 0) pa_nil)) pa_nil)))
      (pss_one (ps_while PassesOwn.never (pt_val pe_bl)
        (pss_cons (ps_asg (pe_has hM hr4 (by rfl) (pa_cons (pe_ix ix_list (pv 1) (pe_un un_neg pe_int) (fun _ _ => rfl)) (pa_cons (pv 0) pa_nil))) (pg_tup (by rfl) (pgs_cons (pg_name (i := 2) sc_lower.nd rfl (Or.inl rfl)) (pgs_cons (pg_name (i := 3) sc_lower.nd rfl (Or.inl rfl)) pgs_nil))))
        (pss_cons (ps_if (pt_cmpR op_eq (pe_callB call_len_seq (by rfl) B.len PySem.boot_len (pa_cons (pv 3) pa_nil)) (pe_callB call_len_seq (by rfl) B.len PySem.boot_len (pa_cons (pe_ix ix_list (pv 1) (pe_un un_neg pe_int) (fun _ _ => rfl)) pa_nil)) (nomark _))
          (pss_one (ps_ret (pe_tupleOf (by rfl) B.tuple (pv 1)))) pss_nil)
        (pss_one (ps_expr (pe_bm PySem.F.plainAttrs_list PySem.F.slot_list_append PySem.F.type_list_append mt_append (pv 1) (pa_cons (pv 3) pa_nil)))))))), ?_⟩
    refine ⟨_, rfl, v, rfl, lockIn_good g.tt g.gl g.few (by omega) fun L hL h240 => ⟨?_, fun r0 H1 T0 s1 htt hperm hasc => ?_⟩⟩
    · obtain ⟨_, _, _, z⟩ := g.few.wd (by omega) hL
      omega
    have eL := g.wd hL
    subst eL
    have hnd : T0.Nodup := (List.Perm.nodup_iff hperm).mpr (by rw [LL_eq]; exact qq_nd ls n 300)
    have hmem : ∀ t, t ∈ T0 ↔ Mk ls n t := fun t => (hperm.mem_iff).trans (g.mem t)
    have w0 := Tm1.whole hls g.few hmem
    refine ⟨Nat.le_of_ble_eq_true rfl, fun tl htl => ?_⟩
    have s2 := same_new (o := .lst [r0]) htl
    have tl0 : H tl = none := s1.free htl
    refine ⟨fun m σ H' => ∃ x2 x3 pre A, σ = [some v, some (.ref tl), x2, x3] ∧ Same H H' ∧ (∃ xs a, H' tl = some (.lst (xs ++ [a])) ∧ Paired (TTK H') xs pre ∧ TTK H' a A) ∧ m = A.length ∧ A.Nodup ∧ Tm1 ls ls n A ∧ (pre ++ [A])[0]? = some T0 ∧ pre.length + A.length ≤ 64 ∧
      (∀ i X Y, (pre ++ [A])[i]? = some X → (pre ++ [A])[i + 1]? = some Y → Nx ls n X Y ∧ Y.length ≠ X.length),
      ⟨T0.length, none, none, [], T0, rfl, s1.trans s2, ⟨[], r0, upd_same, .nil, TTK.tm2 (.of s2) htt⟩, rfl, hnd, w0, rfl, ?_, fun i X Y h1 h2 => ?_⟩, ?_⟩
    · have := g.few.le hnd fun t h => (hmem t).mp h
      show 0 + T0.length ≤ 64
      omega
    · have := (List.getElem?_eq_some_iff.mp h2).1
      simp at this
    rintro m σ H' ⟨x2, x3, pre, A, rfl, st, ⟨xs, a, htl', pxs, ha⟩, rfl, And, At, hd, hsz, hst⟩
    have hAl : 1 ≤ A.length := List.length_pos_of_mem At.still
    have hA63 : A.length ≤ 63 := g.few.le And At.sub
    have hAP : ∀ t ∈ A, IsP n t := fun t ht => (At.sub t ht).isP hls
    have hbk : ∀ t, Mk (brk A ls) n t → Mk ls n t := fun t ht => ht.mono hls fun b hb => by
      obtain ⟨x, h1, y, h2, rfl⟩ := brk_mem.mp hb
      exact At.sub _ (At.cm x h1 y h2)
    refine ⟨true, rfl, iteT ⟨fun σ2 H2 => ∃ x2 x3 B b, σ2 = [some v, some (.ref tl), x2, x3] ∧ Same H H2 ∧ H2 tl = some (.lst ((xs ++ [a]) ++ [b])) ∧ Paired (TTK H2) (xs ++ [a]) (pre ++ [A]) ∧ TTK H2 b B ∧ Nx ls n A B ∧ B.length ≠ A.length, fun σ2 H2 ⟨x2, x3, B, b, e1, e2, e3, e4, e5, e6, e7⟩ => ?_, ?_⟩⟩
    · obtain ⟨Bt, Bs⟩ := At.next hls hls e6
      have hBl : B.length ≤ A.length := nodup_len B A e6.nd Bs
      refine ⟨B.length, by omega, x2, x3, pre ++ [A], B, e1, e2, ⟨xs ++ [a], b, e3, e4, e5⟩, rfl, e6.nd, Bt, ?_, by rw [List.length_append]; show pre.length + 1 + B.length ≤ 64; omega, fun i X Y h1 h2 => ?_⟩
      · rw [List.getElem?_append_left (by rw [List.length_append]; show 0 < pre.length + 1; omega)]
        exact hd
      · by_cases hi : i + 1 < (pre ++ [A]).length
        · rw [List.getElem?_append_left hi] at h2
          rw [List.getElem?_append_left (by omega)] at h1
          exact hst i X Y h1 h2
        · have l2 := (List.getElem?_eq_some_iff.mp h2).1
          rw [List.length_append] at l2
          have ei : i + 1 = (pre ++ [A]).length := by
            have : ([B] : List (List (List Nat))).length = 1 := rfl
            omega
          have ei2 : i = pre.length := by
            rw [List.length_append] at ei
            have : ([A] : List (List (List Nat))).length = 1 := rfl
            omega
          rw [ei, List.getElem?_concat_length] at h2
          rw [List.getElem?_append_left (by omega), ei2, List.getElem?_concat_length] at h1
          rw [← Option.some.inj h1, ← Option.some.inj h2]
          exact ⟨e6, e7⟩
    · refine ⟨_, rfl, 1, rfl, tl, xs ++ [a], -1, a, rfl, rfl, SqL.of htl', atI_last xs a, _, rfl, a, v, A, ls, n, rfl, ha.tt, g.tt.tm (.of st), hAP, hls, hAl, hA63, by omega, by omega, n9, g.few.sub hbk, fun p fl tv few us H2 s5 hp _ _ httv _ _ _ und umem uasc => ?_⟩
      refine ⟨p, _, rfl, SqT.of hp, rfl, .ref fl, _, rfl, tv, _, rfl, rfl, ?_⟩
      obtain ⟨ua, ux, rfl, hua, pu⟩ := httv
      obtain ⟨aa, ax, rfl, haa, pax⟩ := ha
      have htl2 := s5 _ _ htl'
      have nxu : Nx ls n A us := ⟨und, uasc, umem⟩
      have ltT : Paired (TTK H2) xs pre := TTKs.tm (.of s5) pxs
      have aT : TTK H2 (.ref aa) A := ⟨aa, ax, rfl, s5 _ _ haa, TKs.tm (.of s5) pax⟩
      refine ⟨_, rfl, ua, ux, rfl, .inr (SqT.of hua), _, rfl, 1, rfl, tl, xs ++ [.ref aa], -1, .ref aa, rfl, rfl, SqL.of htl2, atI_last xs (.ref aa), aa, ax, rfl, .inr (SqT.of (s5 _ _ haa)), rfl, _, rfl, ite2 (fun hq => ?_) (fun hq => ?_)⟩
      · have hq : V.int (ux.length : Int) = V.int (ax.length : Int) := of_decide_eq_true hq
        injection hq with hq
        have hl : us.length = A.length := by rw [← Paired.length pu, ← Paired.length pax]; omega
        refine ⟨_, rfl, .inl ⟨tl, xs ++ [.ref aa], rfl, SqL.of htl2, fun r hr' => ?_⟩⟩
        have s6 := same_new (o := .tup (xs ++ [V.ref aa])) hr'
        refine q (.ref r) _ T0 (pre ++ [A]) ((st.trans s5).trans s6) ⟨r, _, rfl, upd_same, TTKs.tm (.of s6) (Paired.app ltT (Paired.one aT))⟩ hnd hasc hmem ⟨hd, hst, fun i X h1 h2 => ?_⟩
        have l1 := (List.getElem?_eq_some_iff.mp h1).1
        have l2 := List.getElem?_eq_none_iff.mp h2
        have e0 : ([A] : List (List (List Nat))).length = 1 := rfl
        rw [List.length_append] at l1 l2
        have ei : i = pre.length := by omega
        rw [ei, List.getElem?_concat_length] at h1
        rw [← Option.some.inj h1]
        exact ⟨us, nxu, hl⟩
      · have hne : us.length ≠ A.length := fun z => hq (decide_eq_true (by rw [Paired.length pu, Paired.length pax, z]))
        refine ⟨_, rfl, .inl ⟨rfl, _, SqL.of htl2⟩, _, rfl, tl, _, .ref ua, rfl, rfl, htl2, ?_, ?_⟩
        · rw [sizeLine_eq, List.length_append, Paired.length pxs]
          show pre.length + 1 < 16777216
          omega
        have t7 := Tm.lst (o := .lst ((xs ++ [V.ref aa]) ++ [V.ref ua])) htl2
        exact ⟨_, _, us, .ref ua, rfl, same_mut (st.trans s5) tl0, upd_same, TTKs.tm t7 (Paired.app ltT (Paired.one aT)), TTK.tm2 t7 ⟨ua, ux, rfl, hua, pu⟩, nxu, hne⟩
end
end Lt

set_option Elab.async false
set_option linter.all false
set_option maxRecDepth 100000
set_option maxHeartbeats 2000000
/-! weights.py: power_of, exponent_of, most_times, powers_in, weighed_makers, made_by, weighed_term -/
namespace Lt
open PySem PySem.Spec PyProof.Rows L2
theorem ip_mulN {X : Cx} : PIp X .Mult (fun x y H Q => ∃ n m : Nat, x = .int (n : Int) ∧ y = .int (m : Int) ∧ n ≤ 4294967296 ∧ Q (.int ((n * m : Nat) : Int)) H) := by
  intro pins s σ H x y v u Q I r1 r2 h
  obtain ⟨n, m, rfl, rfl, c, q⟩ := h
  obtain ⟨t, rfl⟩ := r1
  obtain ⟨t', rfl⟩ := r2
  rw [Int.natCast_mul] at q
  exact imul_int ⟨.int _, H, I.tok _, ⟨_, rfl⟩, q⟩ (show CMul (n : Int) (m : Int) from Or.inl ⟨by omega, by omega⟩).ok
/-- the terms as they are asked -/
structure TsOk (ls : List (List Nat)) (n : Nat) (Ts : LLN) : Prop where
  hls : ∀ g ∈ ls, IsP n g
  few : Few ls n 63
  n1 : 1 ≤ n
  n9 : n ≤ 9
  l1 : 1 ≤ Ts.length
  l64 : Ts.length ≤ 64
  inG : InG ls n Ts
  a63 : ∀ A ∈ Ts, A.length ≤ 63
  pos : ∀ A ∈ Ts, List.range n ∈ A
theorem few_in63 {ls ms : List (List Nat)} {n : Nat} (hg : ∀ g ∈ ls, IsP n g) (hf : Few ls n 63) (h : ∀ t ∈ ms, Mk ls n t) : Few ms n 63 := hf.sub fun t ht => ht.mono hg h
theorem TsOk.few' {ls ms : List (List Nat)} {n : Nat} {Ts : LLN} (h : TsOk ls n Ts) (k : ∀ t ∈ ms, Mk ls n t) : Few ms n 63 := few_in63 h.hls h.few k
theorem powIn_len {ls : List (List Nat)} {n : Nat} {Ts : LLN} (h : TsOk ls n Ts) (w q : Nat) : (powIn n Ts w q).length ≤ 63 := by
  unfold powIn
  rw [List.length_map, List.getD_eq_getElem?_getD]
  cases e : Ts[min (cdiv w q) Ts.length - 1]? with
  | none => exact Nat.zero_le _
  | some A => exact h.a63 A (List.mem_of_getElem? e)
section
variable {P : Program} {w : World} {K : PySem.W.Frag} {mg : Str → Option Value} {base : Heap}
def spPower : Sp := fun vs H Q _ => ∃ (v : V) (t : List Nat) (n k : Nat), vs = [v, nI k] ∧ TK H v t ∧ IsP n t ∧ n ≤ 9 ∧ 1 ≤ k ∧ k ≤ 10000000 ∧ ∀ r H', Same H H' → TK H' r (pw n t k) → Q r H'
theorem sc_power_of : FnScope ["turn", "many", "reached", "_"] ["turn", "many"] (defScope s_power_of) := ⟨rfl, rfl, rfl, by decide +kernel, rfl, by decide +kernel, by decide +kernel⟩
theorem has_power_of (T : Top K mg "power_of" s_power_of ["turn", "many"]) (B : Bi mg) (hP : Has P w K mg base CX0 1 "product_of" ["one", "other"] spProd) : Has P w K mg base CX0 2 "power_of" ["turn", "many"] spPower := by
  refine T.ok sc_power_of (fun vs H Q E h => ?_) (fun f cdv A outer s H vs Q E hr h => ?_)
  · obtain ⟨v, t, n, k, rfl, _⟩ := h
    rfl
  · obtain ⟨v, t, n, k, rfl, ht, hP', n9, k1, km, q⟩ := h
    have hr1 : Room 1 _ := hr.mono (by decide)
    refine ⟨_, pss_cons (ps_set (i := 2) sc_power_of.nd rfl (Or.inl rfl) (pv 0))
      (pss_cons (ps_for PassesOwn.never rfl (pi_range1 (by rfl) B.range (pa_cons (pe_op op_sub (pv 1) pe_int) pa_nil)) (pg_name (i := 3) sc_power_of.nd rfl (Or.inl rfl))
        (pss_one (ps_set (i := 2) sc_power_of.nd rfl (Or.inl rfl) (pe_has hP hr1 (by rfl) (pa_cons (pv 2) (pa_cons (pv 0) pa_nil))))))
      (pss_one (ps_ret (pv 2)))), ?_⟩
    refine ⟨_, rfl, _, rfl, (k : Int), 1, rfl, rfl, _, rfl, by omega, by omega, for_range (lo := 0) (n := ((k : Int) - 1).toNat) (fun i σ H' => ∃ r y3, σ = [some v, some (nI k), some r, y3] ∧ Same H H' ∧ TK H' r (pw n t (i + 1))) ⟨v, none, rfl, Same.refl _, by rw [pw_one hP']; exact ht⟩ ?_ ?_⟩
    · rintro i σ H' hi ⟨r, y3, rfl, sm, hr'⟩
      exact ⟨_, rfl, _, rfl, pr_call hr'.tn (ht.tm (.of sm)).tn (pw_isP hP' _) hP' (by omega) fun r2 H5 s5 hr2 => ⟨r2, _, rfl, sm.trans s5, hr2⟩⟩
    · rintro σ H' ⟨r, y3, rfl, sm, hr'⟩
      have e : ((k : Int) - 1).toNat + 1 = k := by omega
      rw [e] at hr'
      exact ⟨_, rfl, q r H' sm hr'⟩
def spExpo : Sp := fun vs H Q _ => ∃ p k : Nat, vs = [nI p, nI k] ∧ 2 ≤ p ∧ p ≤ 1000 ∧ k ≤ 64 ∧ Q (nI (expo p 64 k)) H
theorem sc_exponent_of : FnScope ["base", "many", "exponent"] ["base", "many"] (defScope s_exponent_of) := ⟨rfl, rfl, rfl, by decide +kernel, rfl, by decide +kernel, by decide +kernel⟩
theorem expo_one {p f k : Nat} (h : ¬ 1 < k) : expo p f k = 0 := by
  cases f with
  | zero => rfl
  | succ f =>
    unfold expo
    rw [if_neg h]
theorem has_exponent_of (T : Top K mg "exponent_of" s_exponent_of ["base", "many"]) : Has P w K mg base CX0 1 "exponent_of" ["base", "many"] spExpo := by
  refine T.ok sc_exponent_of (fun vs H Q E h => ?_) (fun f cdv A outer s H vs Q E hr h => ?_)
  · obtain ⟨p, k, rfl, _⟩ := h
    rfl
  · obtain ⟨p, k, rfl, p2, pm, k64, q⟩ := h
    refine ⟨_, pss_cons (ps_set (i := 2) sc_exponent_of.nd rfl (Or.inl rfl) pe_int)
      (pss_cons (ps_while PassesOwn.never (pt_cmpR op_gt (pv 1) pe_int (nomark _)) (pss_cons (ps_aug (i := 1) sc_exponent_of.nd rfl (Or.inl rfl) (pv 0) ip_fdivNN) (pss_one (ps_aug (i := 2) sc_exponent_of.nd rfl (Or.inl rfl) pe_int ip_add))))
      (pss_one (ps_ret (pv 2)))), ?_⟩
    refine ⟨fun m σ H' => ∃ y e f : Nat, σ = [some (nI p), some (nI y), some (nI e)] ∧ H' = H ∧ m = y ∧ y ≤ f ∧ y ≤ 64 ∧ expo p 64 k = expo p f y + e, ⟨k, k, 0, 64, rfl, rfl, rfl, k64, k64, rfl⟩, ?_⟩
    rintro m σ H' ⟨y, e, f, rfl, rfl, rfl, hf, h64, he⟩
    refine ⟨_, rfl, (m : Int), 1, rfl, rfl, decide (1 < m), congrArg V.bl (decide_eq_decide.mpr (by omega)), ?_⟩
    by_cases h1 : 1 < m
    · rw [decide_eq_true h1]
      have hlt : m / p < m := Nat.div_lt_self (by omega) p2
      refine iteT ⟨fun σ3 H3 => σ3 = [some (nI p), some (nI (m / p)), some (nI (e + 1))] ∧ H3 = H', fun σ3 H3 ⟨e1, e2⟩ => ⟨m / p, hlt, m / p, e + 1, f - 1, e1, e2, rfl, by omega, by omega, ?_⟩, ?_⟩
      · rw [he]
        obtain ⟨g, rfl⟩ : ∃ g, f = g + 1 := ⟨f - 1, by omega⟩
        show expo p (g + 1) m + e = expo p g (m / p) + (e + 1)
        have : expo p (g + 1) m = expo p g (m / p) + 1 := by
          show (if 1 < m then _ else _) = _
          rw [if_pos h1]
        omega
      · exact ⟨_, rfl, _, rfl, m, p, rfl, rfl, ⟨by omega, by omega, by omega⟩, _, rfl, _, _, rfl, rfl, rfl, rfl⟩
    · rw [decide_eq_false h1]
      refine iteF ⟨_, rfl, ?_⟩
      rw [he, expo_one h1, Nat.zero_add] at q
      exact q
def spPowIn : Sp := fun vs H Q _ => ∃ (v : V) (ls : List (List Nat)) (n k q : Nat) (Ts : LLN), vs = [v, nI k, nI q] ∧ TTTK H v Ts ∧ TsOk ls n Ts ∧ 1 ≤ k ∧ k ≤ 100000 ∧ 1 ≤ q ∧ q ≤ 10000000 ∧ ∀ a H', Same H H' → H a = none → LK H' a (powIn n Ts k q) → Q (.ref a) H'
abbrev piN : List Str := ["terms", "weight", "power", "place", "turn"]
theorem sc_powers_in : FnScope piN ["terms", "weight", "power"] (defScope s_powers_in) := ⟨rfl, rfl, rfl, by decide +kernel, rfl, by decide +kernel, by decide +kernel⟩
theorem has_powers_in (T : Top K mg "powers_in" s_powers_in ["terms", "weight", "power"]) (B : Bi mg) (bmin : mg "min" = none) (hP : Has P w K mg base CX0 2 "power_of" ["turn", "many"] spPower) : Has P w K mg base CX0 3 "powers_in" ["terms", "weight", "power"] spPowIn := by
  refine T.ok sc_powers_in (fun vs H Q E h => ?_) (fun f cdv A outer s H vs Q E hr h => ?_)
  · obtain ⟨v, ls, n, k, q, Ts, rfl, _⟩ := h
    rfl
  · obtain ⟨v, ls, n, k, q, Ts, rfl, ⟨ta, xs, rfl, hta, px⟩, ok, k1, km, q1, qm, q0⟩ := h
    have hr2 : Room 2 _ := hr.mono (by decide)
    refine ⟨_, pss_cons (ps_set (i := 3) sc_powers_in.nd rfl (Or.inl rfl) (pe_op op_fdivNN (pe_op op_sub (pe_op op_add (pv 1) (pv 2)) pe_int) (pv 2)))
      (pss_one (ps_ret (pe_lc (own := [("turn", 4)]) (g := gName 4) (te := tCall spPower [] E0 (tCons (tVar 4) (tCons (tVar 2) tNil))) (by rfl) sc_powers_in.nd
        (pi_tup (pe_ix ix_tup (pv 0) (pe_op op_sub (pe_callB (call_min2 (by rfl)) (by rfl) bmin PyProof.Rows.boot_min (pa_cons (pv 3) (pa_cons (pe_callB call_len_seq (by rfl) B.len PySem.boot_len (pa_cons (pv 0) pa_nil)) pa_nil))) pe_int) (fun _ _ => rfl)))
        (blkOk_by (own := [("turn", 4)]) (N := piN) (sc := defScope s_powers_in) (by decide +kernel))
        (fun _ _ _ _ _ => pg_name (i := 4) sc_powers_in.nd rfl (Or.inl rfl)) (fun _ _ _ _ _ => pts_nil) (fun _ _ _ _ _ => pe_has hP hr2 (by rfl) (pa_cons (pv 4) (pa_cons (pv 2) pa_nil)))))), ?_⟩
    have lx := Paired.length px
    refine ⟨_, rfl, _, rfl, (k : Int), (q : Int), rfl, rfl, (k : Int) + (q : Int), 1, rfl, rfl, _, rfl, k + q - 1, q, ?_, rfl, ⟨q1, by omega⟩, ?_⟩
    · show V.int ((k : Int) + (q : Int) - 1) = V.int ((k + q - 1 : Nat) : Int)
      rw [show ((k + q - 1 : Nat) : Int) = (k : Int) + (q : Int) - 1 by omega]
    have hc1 : 1 ≤ (k + q - 1) / q := (Nat.le_div_iff_mul_le (by omega)).mpr (by omega)
    show _
    refine ⟨_, rfl, _, rfl, _, rfl, ta, xs, rfl, .inr (SqT.of hta), ((k + q - 1) / q : Nat), (xs.length : Int), rfl, _, 1, rfl, rfl, ?_⟩
    have em : ((if (xs.length : Int) < (((k + q - 1) / q : Nat) : Int) then (xs.length : Int) else (((k + q - 1) / q : Nat) : Int)) - 1) = ((min (cdiv k q) Ts.length - 1 : Nat) : Int) := by
      unfold cdiv
      have h1 := ok.l1
      split <;> omega
    dsimp only
    rw [em]
    have hlt : min (cdiv k q) Ts.length - 1 < Ts.length := by have := ok.l1; omega
    have hA : Ts[min (cdiv k q) Ts.length - 1]? = some Ts[min (cdiv k q) Ts.length - 1] := List.getElem?_eq_getElem hlt
    have ep : powIn n Ts k q = Ts[min (cdiv k q) Ts.length - 1].map fun t => pw n t q := by
      unfold powIn
      rw [List.getD_eq_getElem?_getD, hA]
      rfl
    rw [ep] at q0
    have hx : xs[min (cdiv k q) Ts.length - 1]? = some (xs[min (cdiv k q) Ts.length - 1]'(by omega)) := List.getElem?_eq_getElem _
    generalize (xs[min (cdiv k q) Ts.length - 1]'(by omega)) = x at hx
    obtain ⟨A, hA2, a, ax, rfl, hax, pa⟩ := Paired.getL px hx
    rw [hA] at hA2
    have hA2 := Option.some.inj hA2
    generalize Ts[min (cdiv k q) Ts.length - 1] = A0 at *
    subst hA2
    have mA := List.mem_of_getElem? hA
    have la := Paired.length pa
    have l63 := ok.a63 _ mA
    refine ⟨ta, xs, _, .ref a, rfl, rfl, SqT.of hta, atI_nat hx, a, rfl, ⟨ax, SqT.of hax⟩, fun D hD => lc_tupM (xs := ax) TK (A0.map fun t => pw n t q) (fun _ _ _ _ e r => TK.tm e r) (SqT.of hax) (fun H' sm => SqT.of (sm _ _ hax)) (by omega) (by rw [List.length_map, la]) hD (fun x => rfl) (fun i x b hi hb H' sm Q' q' => ?_) (fun H' zs sm hz pr => ?_)⟩
    · obtain ⟨t, ht, tk⟩ := Paired.getL pa hi
      rw [List.getElem?_map, ht] at hb
      have hb := (Option.some.inj hb).symm
      subst hb
      have tP := (ok.inG _ mA t (List.mem_of_getElem? ht)).isP ok.hls
      exact ⟨_, rfl, _, rfl, x, t, n, q, rfl, tk.tm (.of sm), tP, ok.n9, q1, by omega, fun r H2 s2 k2 => q' r H2 s2 k2⟩
    · exact q0 D H' sm hD ⟨zs, hz, pr⟩
end
end Lt

set_option Elab.async false
set_option linter.all false
set_option maxRecDepth 100000
set_option maxHeartbeats 2000000
/-! weights.py: weighed_makers, made_by, weighed_term, own_prime, weighed -/
namespace Lt
open PySem PySem.Spec PyProof.Rows L2
/-- all that these make, ascending -/
structure SpU (n : Nat) (ms us : List (List Nat)) : Prop where
  nd : us.Nodup
  asc : Asc us
  mem : ∀ t, t ∈ us ↔ Mk ms n t
theorem SpU.len {n : Nat} {ms us : List (List Nat)} (h : SpU n ms us) (hf : Few ms n 63) : us.length = szS n ms := szS_of hf h.nd h.mem
theorem TsOk.wP {ls : List (List Nat)} {n p : Nat} {Ts : LLN} (h : TsOk ls n Ts) (k : Nat) : ∀ t ∈ wMk n p Ts k, Mk ls n t := in_wMk h.hls h.inG k
theorem mkrs_step {n p k f q : Nat} {Ts : LLN} (h : q < p * k) : mkrs n p Ts k (f + 1) q = powIn n Ts k q ++ mkrs n p Ts k f (q * p) := if_pos h
theorem mkrs_stop {n p k f q : Nat} {Ts : LLN} (h : ¬ q < p * k) : mkrs n p Ts k f q = [] := by
  cases f with
  | zero => rfl
  | succ f => exact if_neg h
section
variable {P : Program} {w : World} {K : PySem.W.Frag} {mg : Str → Option Value} {base : Heap} {CP : Addr}
def spWMk : Sp := fun vs H Q _ => ∃ (v : V) (ls : List (List Nat)) (n p k : Nat) (Ts : LLN), vs = [nI p, v, nI k] ∧ TTTK H v Ts ∧ TsOk ls n Ts ∧ 2 ≤ p ∧ p ≤ 63 ∧ 1 ≤ k ∧ k ≤ 100000 ∧ ∀ a H', Same H H' → H a = none → LK H' a (wMk n p Ts k) → (wMk n p Ts k).length ≤ 5000 → Q (.ref a) H'
abbrev wmN : List Str := ["base", "terms", "weight", "makers", "power"]
theorem sc_weighed_makers : FnScope wmN ["base", "terms", "weight"] (defScope s_weighed_makers) := ⟨rfl, rfl, rfl, by decide +kernel, rfl, by decide +kernel, by decide +kernel⟩
theorem TTTK.tm {H H' : Hp} {v : V} {Ts : LLN} (e : Tm H H') (h : TTTK H v Ts) : TTTK H' v Ts := let ⟨a, xs, e1, h1, h2⟩ := h; ⟨a, xs, e1, e.1 _ _ h1, TTKs.tm e h2⟩
theorem has_weighed_makers (T : Top K mg "weighed_makers" s_weighed_makers ["base", "terms", "weight"]) (hP : Has P w K mg base CX0 3 "powers_in" ["terms", "weight", "power"] spPowIn) : Has P w K mg base CX0 4 "weighed_makers" ["base", "terms", "weight"] spWMk := by
  refine T.ok sc_weighed_makers (fun vs H Q E h => ?_) (fun f cdv A outer s H vs Q E hr h => ?_)
  · obtain ⟨v, ls, n, p, k, Ts, rfl, _⟩ := h
    rfl
  · obtain ⟨v, ls, n, p, k, Ts, rfl, tt, ok, p2, pm, k1, km, q0⟩ := h
    refine ⟨_, pss_cons (ps_set (i := 3) sc_weighed_makers.nd rfl (Or.inl rfl) (pe_lst pa_nil))
      (pss_cons (ps_set (i := 4) sc_weighed_makers.nd rfl (Or.inl rfl) pe_int)
      (pss_cons (ps_while PassesOwn.never (pt_cmpR op_lt (pv 4) (pe_op op_mulN (pv 0) (pv 2)) (nomark _))
        (pss_cons (ps_expr (pe_bm PySem.F.plainAttrs_list PySem.F.slot_list_extend PySem.F.type_list_extend mt_extend (pv 3) (pa_cons (pe_has hP hr (by rfl) (pa_cons (pv 1) (pa_cons (pv 2) (pa_cons (pv 4) pa_nil)))) pa_nil)))
        (pss_one (ps_aug (i := 4) sc_weighed_makers.nd rfl (Or.inl rfl) (pv 0) ip_mulN))))
      (pss_one (ps_ret (pv 3))))), ?_⟩
    refine ⟨Nat.zero_le _, fun ml hml => ?_⟩
    have s0 := same_new (o := .lst []) hml
    have pk : p * k ≤ 6300000 := Nat.le_trans (Nat.mul_le_mul pm km) (by decide)
    refine ⟨fun m σ H' => ∃ (q f : Nat) (ms : List (List Nat)), σ = [some (nI p), some v, some (nI k), some (.ref ml), some (nI q)] ∧ Same H H' ∧ LK H' ml ms ∧ ms ++ mkrs n p Ts k f q = wMk n p Ts k ∧ 2 ^ (64 - f) ≤ q ∧ f ≤ 64 ∧ 1 ≤ q ∧ q ≤ 400000000 ∧ ms.length ≤ (64 - f) * 63 ∧ m = p * k - q,
      ⟨p * k - 1, 1, 64, [], rfl, s0, ⟨[], upd_same, .nil⟩, rfl, by decide, by decide, by decide, by decide, by decide, rfl⟩, ?_⟩
    rintro m σ H' ⟨q, f, ms, rfl, sm, ⟨xs, hx, px⟩, hms, hq, hf, q1, qm, hl, rfl⟩
    refine ⟨_, rfl, _, rfl, _, rfl, p, k, rfl, rfl, by omega, (q : Int), ((p * k : Nat) : Int), rfl, rfl, decide (q < p * k), congrArg V.bl (decide_eq_decide.mpr (by omega)), ?_⟩
    by_cases h1 : q < p * k
    · rw [decide_eq_true h1]
      obtain ⟨g, rfl⟩ : ∃ g, f = g + 1 := by
        refine ⟨f - 1, ?_⟩
        by_cases z : f = 0
        · rw [z] at hq
          have : (2 : Nat) ^ (64 - 0) = 18446744073709551616 := by decide
          omega
        · omega
      have hqp : q < q * p := by
        have := Nat.mul_le_mul_left q p2
        omega
      have hqb : q * p ≤ 400000000 := Nat.le_trans (Nat.mul_le_mul (show q ≤ 6300000 by omega) pm) (by decide)
      rw [mkrs_step h1, ← List.append_assoc] at hms
      refine iteT ⟨fun σ3 H3 => σ3 = [some (nI p), some v, some (nI k), some (.ref ml), some (nI (q * p))] ∧ Same H H3 ∧ LK H3 ml (ms ++ powIn n Ts k q), fun σ3 H3 ⟨e1, e2, e3⟩ => ⟨p * k - q * p, by omega, q * p, g, _, e1, e2, e3, hms, ?_, by omega, by omega, hqb, ?_, rfl⟩, ?_⟩
      · have e : 64 - g = (64 - (g + 1)) + 1 := by omega
        rw [e, Nat.pow_succ]
        exact Nat.mul_le_mul hq p2
      · have := powIn_len ok k q
        rw [List.length_append]
        have e : 64 - g = (64 - (g + 1)) + 1 := by omega
        rw [e, Nat.add_mul]
        omega
      · refine ⟨_, rfl, .inl ⟨rfl, xs, SqL.of hx⟩, _, rfl, _, rfl, _, rfl, v, ls, n, k, q, Ts, rfl, tt.tm (.of sm), ok, k1, by omega, q1, by omega, fun a H3 s3 ha ⟨zs, hz, pz⟩ => ?_⟩
        have hx3 := s3 _ _ hx
        have lx := Paired.length px
        have lz := Paired.length pz
        have := powIn_len ok k q
        have h64 : (64 - (g + 1)) * 63 ≤ 64 * 63 := Nat.mul_le_mul_right _ (by omega)
        refine ⟨ml, a, xs, zs, rfl, rfl, hx3, hz, by rw [sizeLine_eq]; omega, ?_⟩
        have tL := Tm.lst (o := .lst (xs ++ zs)) hx3
        exact ⟨_, rfl, _, rfl, q, p, rfl, rfl, by omega, rfl, same_mut (sm.trans s3) hml, _, upd_same, Paired.app (TKs.tm ((Tm.of s3).trans tL) px) (TKs.tm tL pz)⟩
    · rw [decide_eq_false h1]
      rw [mkrs_stop h1, List.append_nil] at hms
      subst hms
      have h64 : (64 - f) * 63 ≤ 64 * 63 := Nat.mul_le_mul_right _ (by omega)
      exact iteF ⟨_, rfl, q0 ml H' sm hml ⟨xs, hx, px⟩ (by omega)⟩
def spMadeBy : Sp := fun vs H Q _ => ∃ (ml : Addr) (ms : List (List Nat)) (n : Nat), vs = [.ref ml] ∧ LK H ml ms ∧ (∀ g ∈ ms, IsP n g) ∧ 1 ≤ ms.length ∧ 1 ≤ n ∧ n ≤ 9 ∧ Few ms n 63 ∧
  ∀ p fl tv few ts H', Same H H' → H' p = some (.tup [.ref fl, tv]) → H fl = none → LK H' fl few → TTK H' tv ts → few.length ≤ 63 → (∀ t, Mk few n t ↔ Mk ms n t) → (∀ g ∈ few, g ∈ ms) → SpU n ms ts → Q (.ref p) H'
end
end Lt

set_option Elab.async false
set_option linter.all false
set_option maxRecDepth 100000
set_option maxHeartbeats 2000000
/-! group_of, the makers too as keys -/
namespace Lt
open PySem PySem.Spec PyProof.Rows L2
theorem LK.lt {H : Hp} {a : Addr} {ts : List (List Nat)} (h : LK H a ts) : LT H a ts := let ⟨xs, h1, h2⟩ := h; ⟨xs, h1, paired_mono (fun _ _ r => r.tn) h2⟩
theorem LK.same {H H' : Hp} {a : Addr} {ts : List (List Nat)} (s : Same H H') (h : LK H a ts) : LK H' a ts := let ⟨xs, h1, h2⟩ := h; ⟨xs, s _ _ h1, TKs.tm (.of s) h2⟩
section
variable {P : Program} {w : World} {K : PySem.W.Frag} {mg : Str → Option Value} {base : Heap} {CP : Addr}
def spGroupKK : Sp := fun vs H Q _ => ∃ (ml : Addr) (ms : List (List Nat)) (n : Nat), vs = [.ref ml, nI n] ∧ LK H ml ms ∧ (∀ g ∈ ms, IsP n g) ∧ 1 ≤ n ∧ n ≤ 9 ∧ Few ms n 63 ∧
  ∀ p fl tv few ts H', Same H H' → H' p = some (.tup [.ref fl, tv]) → H fl = none → LK H' fl few → TTK H' tv ts → (∀ g ∈ few, g ∈ ms) → few.length ≤ 63 → (∀ t, Mk few n t ↔ Mk ms n t) → ts.Nodup → (∀ t, t ∈ ts ↔ Mk ms n t) → Asc ts → Q (.ref p) H'
theorem has_group_ofKK (T : Top K mg "group_of" s_group_of ["makers", "size"]) (B : Bi mg) (hS : Has P w K mg base CX0 1 "still_of" ["size"] spStill) (hW : Has P w K mg base CX0 2 "words_of" ["makers", "size"] spWordsL) : Has P w K mg base CX0 3 "group_of" ["makers", "size"] spGroupKK := by
  refine T.ok sc_group_of (fun vs H Q E h => ?_) (fun f cdv A outer s H vs Q E hr h => ?_)
  · obtain ⟨ml, ms, n, rfl, _⟩ := h
    rfl
  · obtain ⟨ml, ms, n, rfl, ⟨mx, hml, pm⟩, hms, hn1, hn9, hf, q⟩ := h
    have hu := hu_of hr
    have hr1 : Room 1 _ := hr.mono (by decide)
    refine ⟨_, pss_cons (ps_set (i := 2) sc_group_of.nd rfl (Or.inl rfl) (pe_lst pa_nil))
      (pss_cons (ps_set (i := 3) sc_group_of.nd rfl (Or.inl rfl) (pe_lst (pa_cons (pe_has hS hr1 (by rfl) (pa_cons (pv 1) pa_nil)) pa_nil)))
      (pss_cons (ps_set (i := 4) sc_group_of.nd rfl (Or.inl rfl) (pe_dispT hu (pe_ix ix_list (pv 3) pe_int (fun _ _ => rfl)) pe_bl))
      (pss_cons (ps_for PassesOwn.never rfl (pi_list (pv 0)) (pg_name (i := 5) sc_group_of.nd rfl (Or.inl rfl))
        (pss_one (ps_if (pt_cmp (pc_dnotin hu (pv 5) (pv 4)))
          (pss_cons (ps_expr (pe_bm PySem.F.plainAttrs_list PySem.F.slot_list_append PySem.F.type_list_append mt_append (pv 2) (pa_cons (pv 5) pa_nil)))
          (pss_cons (ps_set (i := 4) sc_group_of.nd rfl (Or.inl rfl) (pe_has hW hr (by rfl) (pa_cons (pv 2) (pa_cons (pv 1) pa_nil))))
          (pss_one (ps_set (i := 3) sc_group_of.nd rfl (Or.inl rfl) (pe_callB (cr_sortDT (d := n) (B := 9) rfl hn1) (by rfl) B.sorted PyProof.Rows.boot_sorted (pa_cons (pv 4) pa_nil)))))) pss_nil)))
      (pss_one (ps_ret (pe_tup (pa_cons (pv 2) (pa_cons (pe_tupleOf (by rfl) B.tuple (pv 3)) pa_nil)))))))), ?_⟩
    refine ⟨Nat.zero_le _, fun fl hfl => ?_⟩
    have s1 := same_new (o := .lst []) hfl
    refine ⟨_, rfl, n, rfl, by omega, fun sv H1 s2 hsv => ?_⟩
    refine ⟨Nat.le_of_ble_eq_true rfl, fun tl htl => ?_⟩
    have s3 := same_new (o := .lst [sv]) htl
    obtain ⟨b, rfl, hb⟩ := hsv.key
    refine fun d hd => ?_
    have s4 := same_new (o := .dT []) hd
    have fl0 : H fl = none := hfl
    have hml1 := s2 _ _ (s1 _ _ hml)
    have fl1 := s2 _ _ (upd_same (H := H) (a := fl) (o := .lst []))
    have tl0 : H tl = none := (s1.trans s2).free htl
    have d0 : H d = none := ((s1.trans s2).trans s3).free hd
    have htd : tl ≠ d := fun z => by rw [← z, upd_same] at hd; cases hd
    have hfd : fl ≠ d := ne_of_none (s3 _ _ fl1) hd
    refine ⟨_, rfl, tl, [V.ref b], 0, .ref b, rfl, rfl, SqL.of (s4 _ _ upd_same), rfl, b, keyN (List.range n), rfl, upd_same, s4 _ _ (s3 _ _ hb), ?_⟩
    have sD : Same H (upd (upd (upd H1 tl (.lst [V.ref b])) d (.dT [])) d (.dT [(keyN (List.range n), V.bl true)])) := same_mut (((s1.trans s2).trans s3).trans s4) d0
    have tD : Tm H1 (upd (upd (upd H1 tl (.lst [V.ref b])) d (.dT [])) d (.dT [(keyN (List.range n), V.bl true)])) := (Tm.of (s3.trans s4)).trans (Tm.dT upd_same)
    refine ⟨_, rfl, ml, rfl, ⟨_, SqL.of (sD _ _ hml)⟩, for_list (K := K) (a := ml) (xs := mx)
      (fun i σ H' => ∃ x5 dl tl few ks ts, σ = [some (.ref ml), some (nI n), some (.ref fl), some (.ref tl), some (.ref dl), x5] ∧ Same H H' ∧ LK H' fl few ∧ DKs H' dl ks ∧ LK H' tl ts ∧ few.Nodup ∧ (∀ g ∈ few, g ∈ ms) ∧ (∀ g ∈ ms.take i, Mk few n g) ∧ (∀ t, t ∈ ks ↔ Mk few n t) ∧ ts.Nodup ∧ (∀ t, t ∈ ts ↔ Mk few n t) ∧ Asc ts)
      ⟨none, d, tl, [], [List.range n], [List.range n], rfl, sD, ⟨[], ?_, .nil⟩, ⟨[(keyN (List.range n), V.bl true)], upd_same, rfl⟩, ⟨[.ref b], ?_, .cons (TK.tm tD hsv) .nil⟩, List.nodup_nil, (fun g h => by cases h), (fun g h => by rw [List.take_zero] at h; cases h), fun t => ?_, List.nodup_cons.mpr ⟨List.not_mem_nil, List.nodup_nil⟩, fun t => ?_, List.pairwise_singleton ..⟩
      (fun i σ H' _ ⟨_, _, _, _, _, _, _, st, _⟩ => SqL.of (st _ _ hml)) ?_ ?_⟩
    · rw [upd_ne hfd, upd_ne hfd, s3 _ _ fl1]
    · rw [upd_ne htd, upd_ne htd, upd_same]
    · rw [List.mem_singleton]
      exact ⟨fun z => by rw [z]; exact .still, Mk.nil⟩
    · rw [List.mem_singleton]
      exact ⟨fun z => by rw [z]; exact .still, Mk.nil⟩
    · rintro i x σ H' hi ⟨x5, dl, tl, few, ks, ts, rfl, st, ⟨fx, hfx, pf⟩, ⟨kvs, hk, ek⟩, lts, fnd, fms, ftk, hks, tnd, hts, asc⟩
      obtain ⟨g, hg, hgk⟩ := Paired.getL pm hi
      have gms := List.mem_of_getElem? hg
      have hgk' := TK.tm (.of st) hgk
      obtain ⟨gb, rfl, hgb⟩ := hgk'.key
      refine ⟨_, rfl, _, rfl, dl, _, rfl, DGet.t hk hgb, _, rfl, ?_⟩
      rw [dks_isSome ek]
      have ftake : ∀ (few' : List (List Nat)), (∀ x ∈ few', IsP n x) → (∀ x ∈ few, x ∈ few') → Mk few' n g → ∀ g ∈ ms.take (i + 1), Mk few' n g := fun few' h1 h2 h3 g' hg' => by
        rw [List.take_add_one, hg] at hg'
        rcases List.mem_append.mp hg' with z | z
        · exact (ftk g' z).mono h1 fun y hy => .one h1 (h2 y hy)
        · rw [List.mem_singleton.mp z]
          exact h3
      have fP : ∀ x ∈ few, IsP n x := fun x hx => hms x (fms x hx)
      by_cases hin : g ∈ ks
      · rw [decide_eq_true hin]
        exact iteF ⟨_, _, _, few, ks, ts, rfl, st, ⟨fx, hfx, pf⟩, ⟨kvs, hk, ek⟩, lts, fnd, fms, ftake few fP (fun _ h => h) ((hks g).mp hin), hks, tnd, hts, asc⟩
      · rw [decide_eq_false hin]
        refine iteT ?_
        have flen : few.length ≤ 63 := hf.le fnd fun t h => .one hms (fms t h)
        refine ⟨_, rfl, .inl ⟨rfl, _, SqL.of hfx⟩, _, rfl, fl, fx, .ref gb, rfl, rfl, hfx, by rw [sizeLine_eq, Paired.length pf]; omega, ?_⟩
        have tA := Tm.lst (o := .lst (fx ++ [V.ref gb])) hfx
        have stA : Same H (upd H' fl (.lst (fx ++ [V.ref gb]))) := same_mut st hfl
        have ltA : LK (upd H' fl (.lst (fx ++ [V.ref gb]))) fl (few ++ [g]) := ⟨_, upd_same, Paired.app (TKs.tm tA pf) (Paired.one (TK.tm tA hgk'))⟩
        have fms' : ∀ y ∈ few ++ [g], y ∈ ms := fun y hy => (List.mem_append.mp hy).elim (fms y) fun z => by rw [List.mem_singleton.mp z]; exact gms
        have fP' : ∀ y ∈ few ++ [g], IsP n y := fun y hy => hms y (fms' y hy)
        have sub : ∀ t, Mk (few ++ [g]) n t → Mk ms n t := fun t h => h.mono hms fun y hy => .one hms (fms' y hy)
        refine ⟨_, rfl, _, rfl, fl, few ++ [g], n, rfl, ltA.lt, fP', by omega, by rw [List.length_append]; show few.length + 1 ≤ 1000; omega, fun d2 H2 L s5 hd2 dw hW => ?_⟩
        obtain ⟨aa, eL, eLl, l63⟩ := (hf.sub sub).wd (by omega) hW
        have hP2 := wd_isP fP' hW
        obtain ⟨kv2, hk2, pk2⟩ := dw
        refine ⟨_, rfl, d2, kv2, numL L, rfl, .inl hk2, keysI pk2, by rw [List.length_map]; omega, fun k hk => ?_, fun bs ks' p pmm so pr hp => ?_⟩
        · obtain ⟨y, hy, rfl⟩ := List.mem_map.mp hk
          exact ⟨by rw [List.length_map, (hP2 y hy).len], bd_iN (hP2 y hy) hn9⟩
        · obtain ⟨ts2, rfl⟩ := turns_back (L := L) fun k hk => pmm.mem_iff.mp hk
          have pm2 : ts2.Perm (L.map (·.1)) := perm_iN (by
            rw [List.map_map]
            exact pmm)
          have s6 := same_new (o := .lst (bs.map V.ref)) hp
          have full : ∀ t, t ∈ L.map (·.1) ↔ Mk (few ++ [g]) n t := fun t => by
            rw [eL]
            exact qq_full (Nat.le_of_eq (by rw [← eL]; exact eLl)) t
          have hgn : g ∉ few := fun z => hin ((hks g).mpr (.one fP z))
          exact ⟨_, d2, p, few ++ [g], L.map (·.1), ts2, rfl, (stA.trans s5).trans s6, LK.same (s5.trans s6) ltA, (DW.same ⟨kv2, hk2, pk2⟩ s6).dks, ⟨_, upd_same, TKs.tm (.of s6) (tns_of pr)⟩, nodup_snoc fnd hgn, fms',
            ftake (few ++ [g]) fP' (fun y hy => List.mem_append.mpr (.inl hy)) (.one fP' (List.mem_append.mpr (.inr List.mem_cons_self))), full, (List.Perm.nodup_iff pm2).mpr (by rw [eL]; exact qq_nd _ n aa), fun t => (pm2.mem_iff).trans (full t), (List.pairwise_map (f := iN) (R := fun x y => TS.code 9 x ≤ TS.code 9 y)).mp so⟩
    · rintro σ H' ⟨x5, dl, tl, few, ks, ts, rfl, st, ltf, _, ⟨tx, htx, ptx⟩, fnd, fms, ftk, hks, tnd, hts, asc⟩
      rw [Paired.length pm, List.take_length] at ftk
      have fP : ∀ x ∈ few, IsP n x := fun x hx => hms x (fms x hx)
      have eq : ∀ t, Mk few n t ↔ Mk ms n t := fun t => ⟨fun h => h.mono hms fun y hy => .one hms (fms y hy), fun h => h.mono fP ftk⟩
      refine ⟨_, rfl, _, rfl, .inl ⟨tl, tx, rfl, SqL.of htx, fun tp htp => ?_⟩⟩
      have s7 := same_new (o := .tup tx) htp
      refine ⟨Nat.le_of_ble_eq_true rfl, fun p hp => ?_⟩
      have s8 := same_new (o := .tup [V.ref fl, V.ref tp]) hp
      exact q p fl (.ref tp) few ts _ ((st.trans s7).trans s8) upd_same fl0 (LK.same (s7.trans s8) ltf) ⟨tp, tx, rfl, s8 _ _ upd_same, TKs.tm (.of (s7.trans s8)) ptx⟩ fms (hf.le fnd fun t h => .one hms (fms t h)) eq tnd (fun t => (hts t).trans (eq t)) asc


theorem sc_made_by : FnScope ["makers"] ["makers"] (defScope s_made_by) := ⟨rfl, rfl, rfl, by decide +kernel, rfl, by decide +kernel, by decide +kernel⟩
theorem has_made_by (T : Top K mg "made_by" s_made_by ["makers"]) (B : Bi mg) (hG : Has P w K mg base CX0 3 "group_of" ["makers", "size"] spGroupKK) : Has P w K mg base CX0 4 "made_by" ["makers"] spMadeBy := by
  refine T.ok sc_made_by (fun vs H Q E h => ?_) (fun f cdv A outer s H vs Q E hr h => ?_)
  · obtain ⟨ml, ms, n, rfl, _⟩ := h
    rfl
  · obtain ⟨ml, ms, n, rfl, lk, hP, h1, n1, n9, hf, q⟩ := h
    refine ⟨_, pss_one (ps_ret (pe_has hG hr (by rfl) (pa_cons (pv 0) (pa_cons (pe_callB call_len_seq (by rfl) B.len PySem.boot_len (pa_cons (pe_ix ix_list (pv 0) pe_int (fun _ _ => rfl)) pa_nil)) pa_nil)))), ?_⟩
    obtain ⟨xs, hx, px⟩ := id lk
    have lx := Paired.length px
    have h0 : xs[0]? = some (xs[0]'(by omega)) := List.getElem?_eq_getElem _
    generalize (xs[0]'(by omega)) = x at h0
    obtain ⟨t, ht, b, rfl, hb⟩ := Paired.getL px h0
    have tP := hP t (List.mem_of_getElem? ht)
    refine ⟨_, rfl, _, rfl, ml, xs, 0, .ref b, rfl, rfl, SqL.of hx, atI_nat (j := 0) h0, b, _, rfl, .inr (SqT.of hb), ml, ms, n, by rw [nIs_len, tP.len]; rfl, lk, hP, n1, n9, hf, fun p fl tv few ts H' s1 hp hfl hlk htt hfm hfl63 hmk nd mem asc => q p fl tv few ts H' s1 hp hfl hlk htt hfl63 hmk hfm ⟨nd, asc, mem⟩⟩
def spWTerm : Sp := fun vs H Q _ => ∃ (v : V) (ls : List (List Nat)) (n p k : Nat) (Ts : LLN), vs = [nI p, v, nI k] ∧ TTTK H v Ts ∧ TsOk ls n Ts ∧ 2 ≤ p ∧ p ≤ 63 ∧ 1 ≤ k ∧ k ≤ 100000 ∧ ∀ r us H', Same H H' → TTK H' r us → SpU n (wMk n p Ts k) us → Q r H'
theorem sc_weighed_term : FnScope ["base", "terms", "weight"] ["base", "terms", "weight"] (defScope s_weighed_term) := ⟨rfl, rfl, rfl, by decide +kernel, rfl, by decide +kernel, by decide +kernel⟩
/-- the terms have turns -/
theorem ser_pos {ls T0 : List (List Nat)} {n m : Nat} {Ts : LLN} (hls : ∀ g ∈ ls, IsP n g) (hf : Few ls n m) (hT : ∀ t, t ∈ T0 ↔ Mk ls n t) (nd : T0.Nodup) (h : Ser ls n T0 Ts) : ∀ A ∈ Ts, List.range n ∈ A := fun A hA => by
  obtain ⟨i, hi⟩ := List.mem_iff_getElem?.mp hA
  exact (ser_len hls hf hT nd h i A hi).1.still
theorem wMk_pos {n p k : Nat} {Ts : LLN} (l1 : 1 ≤ Ts.length) (hp : ∀ A ∈ Ts, List.range n ∈ A) (p2 : 2 ≤ p) (k1 : 1 ≤ k) : 1 ≤ (wMk n p Ts k).length := by
  unfold wMk
  have h1 : 1 < p * k := Nat.lt_of_lt_of_le (show 1 < 2 * 1 by decide) (Nat.mul_le_mul p2 k1)
  rw [mkrs_step (f := 63) h1, List.length_append]
  have : 1 ≤ (powIn n Ts k 1).length := by
    unfold powIn
    have hlt : min (cdiv k 1) Ts.length - 1 < Ts.length := by omega
    rw [List.length_map, List.getD_eq_getElem?_getD, List.getElem?_eq_getElem hlt]
    exact List.length_pos_of_mem (hp _ (List.getElem_mem _))
  omega
theorem has_weighed_term (T : Top K mg "weighed_term" s_weighed_term ["base", "terms", "weight"]) (hM : Has P w K mg base CX0 4 "weighed_makers" ["base", "terms", "weight"] spWMk) (hB : Has P w K mg base CX0 4 "made_by" ["makers"] spMadeBy) : Has P w K mg base CX0 5 "weighed_term" ["base", "terms", "weight"] spWTerm := by
  refine T.ok sc_weighed_term (fun vs H Q E h => ?_) (fun f cdv A outer s H vs Q E hr h => ?_)
  · obtain ⟨v, ls, n, p, k, Ts, rfl, _⟩ := h
    rfl
  · obtain ⟨v, ls, n, p, k, Ts, rfl, tt, ok, p2, pm, k1, km, q⟩ := h
    refine ⟨_, pss_one (ps_ret (pe_ix ix_tup (pe_has hB hr (by rfl) (pa_cons (pe_has hM hr (by rfl) (pa_cons (pv 0) (pa_cons (pv 1) (pa_cons (pv 2) pa_nil)))) pa_nil)) pe_int (fun _ _ => rfl))), ?_⟩
    refine ⟨_, rfl, _, rfl, _, rfl, v, ls, n, p, k, Ts, rfl, tt, ok, p2, pm, k1, km, fun a H1 s1 ha lk _ => ?_⟩
    have hin := ok.wP (p := p) k
    refine ⟨a, _, n, rfl, lk, fun g hg => (hin g hg).isP ok.hls, wMk_pos ok.l1 ok.pos p2 k1, ok.n1, ok.n9, ok.few' hin, fun b fl tv few ts H2 s2 hb _ _ htt _ _ _ sp => ?_⟩
    exact ⟨b, _, 1, tv, rfl, rfl, SqT.of hb, rfl, q tv ts H2 (s1.trans s2) htt sp⟩
end
end Lt

set_option Elab.async false
set_option linter.all false
set_option maxRecDepth 100000
set_option maxHeartbeats 4000000
/-! set(t), t a tuple of tuples of ints of which few are unlike -/
namespace L2
open PySem PySem.Spec PyProof.Rows
section
variable {P : Program} {w : World} {A : Around} {E : Value → Shared → Prop} {s : Shared}
end
section
variable {X : Cx}
end
end L2

set_option Elab.async false
set_option linter.all false
set_option maxRecDepth 100000
set_option maxHeartbeats 2000000
namespace Lt
open PySem PySem.Spec PyProof.Rows L2
/-- what the law takes for the prime -/
def lawP (k : Nat) : Option Nat := match [2, 3, 5, 7].filter fun p => decide (k % p = 0) with
  | [p] => some p
  | _ => none
theorem lawP_eq {k : Nat} (h1 : 1 ≤ k) (h2 : k ≤ 60) (hd : k ∣ 362880) : primeOf k = lawP k := by
  have z : ((List.range 61).all fun k => decide (k = 0) || decide (362880 % k ≠ 0) || decide (primeOf k = lawP k)) = true := by decide +kernel
  have y := List.all_eq_true.mp z k (List.mem_range.mpr (by omega))
  rw [Bool.or_eq_true, Bool.or_eq_true, decide_eq_true_eq, decide_eq_true_eq, decide_eq_true_eq] at y
  rcases y with (y | y) | y
  · omega
  · exact absurd (Nat.mod_eq_zero_of_dvd hd) y
  · exact y
end Lt

set_option Elab.async false
set_option linter.all false
set_option maxRecDepth 100000
set_option maxHeartbeats 2000000
/-! tasks.py: degree, all_of -/
namespace Lt
open PySem PySem.Spec PyProof.Rows L2
def degV (ts : List Nat) : V := if ts = [] then .non else nI ((ts.map fun t => (insOf t).length).foldl max 0)
section
variable {P : Program} {w : World} {K : PySem.W.Frag} {mg : Str → Option Value} {base : Heap} {CN CT : Addr}
end
end Lt

set_option Elab.async false
set_option linter.all false
set_option maxRecDepth 100000
set_option maxHeartbeats 2000000
/-! sum of a tuple of numbers -/
namespace Lt
open PySem PySem.Spec PyProof.Rows L2
end Lt

set_option Elab.async false
set_option linter.all false
set_option maxRecDepth 100000
set_option maxHeartbeats 2000000
/-! _law_parts: the pieces -/
namespace Lt
open PySem PySem.Spec PyProof.Rows L2 NdefX LamX LmX
section
variable {P : Program} {w : World} {K : PySem.W.Frag} {mg : Str → Option Value} {base : Heap} {c2 P2 : Addr}
end
end Lt

set_option Elab.async false
set_option linter.all false
set_option maxRecDepth 100000
set_option maxHeartbeats 4000000
/-! _law_parts -/
namespace Lt
open PySem PySem.Spec PyProof.Rows L2 NdefX LamX LmX
section
variable {P : Program} {w : World} {K : PySem.W.Frag} {mg : Str → Option Value} {base : Heap} {c2 P2 : Addr}
end
end Lt

set_option Elab.async false
set_option linter.all false
set_option maxRecDepth 100000
set_option maxHeartbeats 1000000
namespace Lt
open PySem PySem.Spec PyProof.Rows L2
/-! ### _law_alike, of equal data -/
def Pl : Nat → PyData → Prop
  | _, .int _ => True
  | _, .none => True
  | k + 1, .tuple ds => ds.length ≤ 1000 ∧ ∀ e ∈ ds, Pl k e
  | k + 1, .list ds => ds.length ≤ 1000 ∧ ∀ e ∈ ds, Pl k e
  | _, _ => False
def isTL (d : PyData) : Bool := isTup d || isLst d
theorem kit_TL {K : PySem.W.Frag} (d : PyData) : PySem.W.kitAny K (.type (tyN d)) [.type "tuple", .type "list"] = some (isTL d) := by
  refine kitAny_cons (b := isTup d) (kit_ty (kit_tup d)) (fun h => ?_) (fun h => by unfold isTL; rw [h]; rfl)
  refine kitAny_cons (b := isLst d) (kit_ty (kit_lst d)) (fun h2 => ?_) (fun h2 => by unfold isTL; rw [h, h2]; rfl)
  unfold isTL
  rw [h, h2]
  exact kitAny_nil
theorem cls_TL : Paired ClsV [V.ty "tuple", V.ty "list"] [.type "tuple", .type "list"] := .cons (.ty _) (.cons (.ty _) .nil)
section
variable {P : Program} {w : World} {K : PySem.W.Frag} {mg : Str → Option Value} {base : Heap}
def spAlike (k : Nat) : Sp := fun vs H Q _ => ∃ (v u : V) (d : PyData), vs = [v, u] ∧ Rp H v d ∧ Rp H u d ∧ Pl k d ∧ ∀ H', Same H H' → Q (.bl true) H'
theorem sc_law_alike : FnScope ["found", "due", "k"] ["found", "due"] (defScope s_law_alike) := ⟨rfl, rfl, rfl, by decide +kernel, rfl, by decide +kernel, by decide +kernel⟩
theorem Rp.ix {K : PySem.W.Frag} {H : Hp} {a : Addr} {xs : List V} {i : Nat} {v : V} {Q : VK} (h : H a = some (.lst xs) ∨ RT H a xs) (hi : xs[i]? = some v) (q : Q v H) : rIx K (.ref a) (.int ((0 : Int) + (i : Nat))) H Q := by
  have e : atI xs ((0 : Int) + (i : Nat)) = some v := by rw [Int.zero_add]; exact atI_nat hi
  rcases h with h | h
  · exact .inl ⟨a, xs, _, v, rfl, rfl, SqL.of h, e, q⟩
  · exact .inr (.inl ⟨a, xs, _, v, rfl, rfl, h.sq, e, q⟩)
theorem RpAll.getR {H : Hp} : ∀ {ds : List PyData} {vs : List V} {i : Nat}, RpAll H vs ds → i < ds.length → ∃ v d, vs[i]? = some v ∧ ds[i]? = some d ∧ Rp H v d := fun {ds vs i} h hi => by
  have hl := h.len
  have hv : vs[i]? = some (vs[i]'(by omega)) := List.getElem?_eq_getElem (by omega)
  obtain ⟨d, h1, h2⟩ := h.get hv
  exact ⟨_, d, hv, h1, h2⟩
/-- a list or tuple -/
theorem Rp.seq {H : Hp} {v : V} {d : PyData} (h : Rp H v d) (ht : isTL d = true) : ∃ a xs ds, v = .ref a ∧ (H a = some (.lst xs) ∨ RT H a xs) ∧ RpAll H xs ds ∧ (d = .tuple ds ∨ d = .list ds) := by
  cases h with
  | lst h a => exact ⟨_, _, _, rfl, .inl h, a, .inr rfl⟩
  | tup h a => exact ⟨_, _, _, rfl, .inr h, a, .inl rfl⟩
  | non => cases ht
  | bl => cases ht
  | int => cases ht
  | str => cases ht
theorem sq_or {K : PySem.W.Frag} {H : Hp} {a : Addr} {xs : List V} (h : H a = some (.lst xs) ∨ RT H a xs) : SqL K H a xs ∨ SqT K H a xs := by
  rcases h with h | h
  · exact .inl (SqL.of h)
  · exact .inr h.sq
theorem or_same {H H' : Hp} {a : Addr} {xs : List V} (s : Same H H') (h : H a = some (.lst xs) ∨ RT H a xs) : H' a = some (.lst xs) ∨ RT H' a xs := by
  rcases h with h | h
  · exact .inl (s _ _ h)
  · exact .inr (h.sm s)
theorem has_law_alike (T : Top K mg "_law_alike" s_law_alike ["found", "due"]) (B : Bi mg) : ∀ k, Has P w K mg base CX0 (k + 1) "_law_alike" ["found", "due"] (spAlike k) := by
  have step : ∀ (k : Nat) (sp : Sp) (hsp : ∀ (v u : V) (d : PyData) (H : Hp) (Q : VK), (∃ k', k = k' + 1 ∧ Pl k' d) → Rp H v d → Rp H u d → (∀ H', Same H H' → Q (.bl true) H') → sp [v, u] H Q E0), Has P w K mg base CX0 k "_law_alike" ["found", "due"] sp → Has P w K mg base CX0 (k + 1) "_law_alike" ["found", "due"] (spAlike k) := by
    intro k sp hsp hA
    refine T.ok sc_law_alike (fun vs H Q E h => ?_) (fun f cdv A outer s H vs Q E hr h => ?_)
    · obtain ⟨v, u, d, rfl, _⟩ := h
      rfl
    · obtain ⟨v, u, d, rfl, hv, hu, hp, q⟩ := h
      refine ⟨_, pss_cons (ps_if (pt_val (pe_callB call_isiT (by rfl) B.isinstance PyProof.Rows.boot_isinstance (pa_cons (pv 1) (pa_cons (pe_tup (pa_cons (pe_bltn (by rfl) B.tuple PyProof.Rows.boot_tuple (rr_ty "tuple")) (pa_cons (pe_bltn (by rfl) B.list PyProof.Rows.boot_list (rr_ty "list")) pa_nil))) pa_nil))))
          (pss_cons (ps_if (PW.pt (pw_or (pt_not (pt_val (pe_callB call_isiT (by rfl) B.isinstance PyProof.Rows.boot_isinstance (pa_cons (pv 0) (pa_cons (pe_tup (pa_cons (pe_bltn (by rfl) B.tuple PyProof.Rows.boot_tuple (rr_ty "tuple")) (pa_cons (pe_bltn (by rfl) B.list PyProof.Rows.boot_list (rr_ty "list")) pa_nil))) pa_nil)))))
            (pw_or1 (pt_cmpR op_ne (pe_callB call_isi (by rfl) B.isinstance PyProof.Rows.boot_isinstance (pa_cons (pv 0) (pa_cons (pe_bltn (by rfl) B.list PyProof.Rows.boot_list (rr_ty "list")) pa_nil))) (pe_callB call_isi (by rfl) B.isinstance PyProof.Rows.boot_isinstance (pa_cons (pv 1) (pa_cons (pe_bltn (by rfl) B.list PyProof.Rows.boot_list (rr_ty "list")) pa_nil))) (nomark _)))))
            (pss_one (ps_ret pe_bl)) pss_nil)
          (pss_cons (ps_if (pt_cmpR op_ne (pe_callB call_len_seq (by rfl) B.len PySem.boot_len (pa_cons (pv 0) pa_nil)) (pe_callB call_len_seq (by rfl) B.len PySem.boot_len (pa_cons (pv 1) pa_nil)) (nomark _)) (pss_one (ps_ret pe_bl)) pss_nil)
          (pss_one (ps_ret (pe_cmpR (op_eqD hr.units) (pe_lc (own := [("k", 2)]) (g := gName 2) (tt := tNot (tB (tCall sp [] E0 (tCons (tOp (rIx K) (tVar 0) (tVar 2)) (tCons (tOp (rIx K) (tVar 1) (tVar 2)) tNil))))) (te := tVar 2) (by rfl) sc_law_alike.nd (pi_range1 (by rfl) B.range (pa_cons (pe_callB call_len_seq (by rfl) B.len PySem.boot_len (pa_cons (pv 1) pa_nil)) pa_nil))
              (blkOk_by (own := [("k", 2)]) (N := ["found", "due", "k"]) (sc := defScope s_law_alike) (by decide +kernel)) (fun _ _ _ _ _ => pg_name (i := 2) sc_law_alike.nd rfl (Or.inl rfl))
              (fun _ _ _ _ _ => pts_one (pt_not (pt_val (pe_has hA hr (by rfl) (pa_cons (pe_ix ix_seq (pv 0) (pv 2) (fun _ _ => rfl)) (pa_cons (pe_ix ix_seq (pv 1) (pv 2) (fun _ _ => rfl)) pa_nil))))))
              (fun _ _ _ _ _ => pv 2)) (pe_lst pa_nil) (nomark _)))))) pss_nil)
        (pss_cons (ps_if (PW.pt (pw_or (pt_cmp (pc_isN (pv 1))) (pw_or1 (pt_val (pe_callB call_isi (by rfl) B.isinstance PyProof.Rows.boot_isinstance (pa_cons (pv 1) (pa_cons (pe_bltn (by rfl) B.str PyProof.Rows.boot_str (rr_ty "str")) pa_nil)))))))
          (pss_one (ps_ret (pe_and (pe_cmpR (op_eqD hr.units) (pv 0) (pv 1) (nomark _)) (pe_one (pe_cmpR op_eq (pe_callB call_isi (by rfl) B.isinstance PyProof.Rows.boot_isinstance (pa_cons (pv 0) (pa_cons (pe_bltn (by rfl) B.str PyProof.Rows.boot_str (rr_ty "str")) pa_nil))) (pe_callB call_isi (by rfl) B.isinstance PyProof.Rows.boot_isinstance (pa_cons (pv 1) (pa_cons (pe_bltn (by rfl) B.str PyProof.Rows.boot_str (rr_ty "str")) pa_nil))) (nomark _)))))) pss_nil)
        (pss_one (ps_ret (pe_and (pe_callB call_isi (by rfl) B.isinstance PyProof.Rows.boot_isinstance (pa_cons (pv 0) (pa_cons (pe_bltn (by rfl) B.int PyProof.Rows.boot_int (rr_ty "int")) pa_nil)))
          (pe_and (pe_cmpR op_eq (pe_callB call_isi (by rfl) B.isinstance PyProof.Rows.boot_isinstance (pa_cons (pv 0) (pa_cons (pe_bltn (by rfl) B.bool PyProof.Rows.boot_bool (rr_ty "bool")) pa_nil))) (pe_callB call_isi (by rfl) B.isinstance PyProof.Rows.boot_isinstance (pa_cons (pv 1) (pa_cons (pe_bltn (by rfl) B.bool PyProof.Rows.boot_bool (rr_ty "bool")) pa_nil))) (nomark _))
            (pe_one (pe_cmpR op_eq (pv 0) (pv 1) (nomark _)))))))), ?_⟩
      refine ⟨_, rfl, by show 2 ≤ sizeLine; decide, fun tp htp => ?_⟩
      have s1 := same_new (o := .tup [V.ty "tuple", V.ty "list"]) htp
      have hv1 := Rp.same s1 _ _ hv
      have hu1 := Rp.same s1 _ _ hu
      refine ⟨u, tp, _, _, _, isTL d, rfl, upd_same, cls_TL, rp_ty hu1, kit_TL d, isTL d, rfl, ?_⟩
      by_cases hT : isTL d = true
      · rw [hT]
        refine iteT ⟨_, rfl, by show 2 ≤ sizeLine; decide, fun tp2 htp2 => ?_⟩
        have s2 := same_new (o := .tup [V.ty "tuple", V.ty "list"]) htp2
        have s12 := s1.trans s2
        have hv2 := Rp.same s2 _ _ hv1
        have hu2 := Rp.same s2 _ _ hu1
        refine ⟨v, tp2, _, _, _, isTL d, rfl, upd_same, cls_TL, rp_ty hv2, kit_TL d, isTL d, rfl, ?_⟩
        rw [hT]
        refine iteF ⟨_, rfl, v, .ty "list", _, _, isLst d, rfl, .ty _, rp_ty hv2, kit_ty (kit_lst d), _, rfl, u, .ty "list", _, _, isLst d, rfl, .ty _, rp_ty hu2, kit_ty (kit_lst d), rfl, _, rfl, iteNS rfl ?_⟩
        obtain ⟨a, xs, ds, rfl, ha, hx, hd⟩ := hv2.seq hT
        obtain ⟨b, ys, ds2, rfl, hb, hy, hd2⟩ := hu2.seq hT
        have eds : ds2 = ds := by
          rcases hd with e | e <;> rcases hd2 with e2 | e2 <;> rw [e] at e2 <;> first | (injection e2 with z; exact z.symm) | cases e2
        subst eds
        have hxl := hx.len
        have hyl := hy.len
        have hpl : ∃ k', k = k' + 1 ∧ ds2.length ≤ 1000 ∧ ∀ e ∈ ds2, Pl k' e := by
          cases k with
          | zero => rcases hd with e | e <;> rw [e] at hp <;> exact hp.elim
          | succ k' => rcases hd with e | e <;> rw [e] at hp <;> exact ⟨k', rfl, hp⟩
        obtain ⟨k', ek, hl, hpe⟩ := hpl
        refine ⟨_, rfl, a, xs, rfl, sq_or ha, _, rfl, b, ys, rfl, sq_or hb, rfl, _, rfl, iteNS (by rw [hxl, hyl]) ?_⟩
        refine ⟨_, rfl, b, ys, rfl, sq_or hb, (ys.length : Int), rfl, by omega, by omega, fun D hD => ?_⟩
        refine lc_range (lo := 0) (n := (ys.length : Int).toNat) (fun i H' => Same (upd (upd H tp (.tup [V.ty "tuple", V.ty "list"])) tp2 (.tup [V.ty "tuple", V.ty "list"])) H' ∧ H' D = some (.lst [])) ⟨same_new hD, upd_same⟩ ?_ ?_
        · rintro i H' hi ⟨sm, hDl⟩
          refine ⟨rfl, ?_⟩
          have hid : i < ds2.length := by omega
          obtain ⟨x1, d1, e1, e2, r1⟩ := hx.getR hid
          obtain ⟨x2, d2, e3, e4, r2⟩ := hy.getR hid
          have ed : d1 = d2 := Option.some.inj (e2.symm.trans e4)
          subst ed
          refine ⟨_, rfl, _, rfl, Rp.ix (or_same sm ha) e1 ⟨_, rfl, _, rfl, Rp.ix (or_same sm hb) e3 ?_⟩⟩
          refine hsp x1 x2 d1 H' _ ⟨k', ek, hpe d1 (List.mem_of_getElem? e2)⟩ (Rp.same sm _ _ r1) (Rp.same sm _ _ r2) fun H4 s4 => ?_
          exact ⟨true, rfl, iteF ⟨sm.trans s4, s4 _ _ hDl⟩⟩
        · rintro H' ⟨sm, hDl⟩
          refine ⟨Nat.zero_le _, fun p2 hp2 => ?_⟩
          have s5 := same_new (o := .lst []) hp2
          refine ⟨.list [], .list [], .lst (SqL.of (s5 _ _ hDl)) .nil, .lst (SqL.of upd_same) .nil, rfl, rfl, ?_⟩
          exact q _ ((s12.trans sm).trans s5)
      · have hF : isTL d = false := by simpa using hT
        rw [hF]
        have hi : (∃ i, d = .int i) ∨ d = .none := by
          cases d with
          | int i => exact .inl ⟨i, rfl⟩
          | tuple ds => exact absurd rfl hT
          | list ds => exact absurd rfl hT
          | none => exact .inr rfl
          | bool b => cases k <;> exact hp.elim
          | str b => cases k <;> exact hp.elim
          | dict b => cases k <;> exact hp.elim
        rcases hi with ⟨i, rfl⟩ | rfl
        rotate_left
        · cases hv
          cases hu
          refine iteF ⟨_, rfl, _, rfl, iteT (iteT ?_)⟩
          refine ⟨_, rfl, _, rfl, .none, .none, .non, .non, rfl, rfl, true, congrArg V.bl rfl, iteT ?_⟩
          exact ⟨_, rfl, .non, .ty "str", _, _, false, rfl, .ty _, .base .non, kit_ty (kit_str .none), _, rfl, .non, .ty "str", _, _, false, rfl, .ty _, .base .non, kit_ty (kit_str .none), rfl, q _ s1⟩
        cases hv
        cases hu
        refine iteF ⟨_, rfl, _, rfl, iteF ?_⟩
        refine ⟨_, rfl, .int i, .ty "str", _, _, false, rfl, .ty _, .base (.int i), kit_ty (kit_str (.int i)), false, rfl, iteF ?_⟩
        refine ⟨_, rfl, .int i, .ty "int", _, _, true, rfl, .ty _, .base (.int i), kit_ty (kit_int (.int i)), true, rfl, iteT ?_⟩
        refine ⟨_, rfl, .int i, .ty "bool", _, _, false, rfl, .ty _, .base (.int i), kit_ty (kit_bool (.int i)), _, rfl, .int i, .ty "bool", _, _, false, rfl, .ty _, .base (.int i), kit_ty (kit_bool (.int i)), rfl, true, rfl, iteT ?_⟩
        refine ⟨_, rfl, _, rfl, rfl, ?_⟩
        have e : decide (V.int i = V.int i) = true := decide_eq_true rfl
        rw [e]
        exact q _ s1
  intro k
  induction k with
  | zero =>
    obtain ⟨f, fd, hm, F, b⟩ := T
    exact step 0 (fun _ _ _ _ => False) (fun v u d H Q h _ _ _ => by obtain ⟨k', e, _⟩ := h; cases e) ⟨f, fd, hm, F.kp, b, ⟨fun _ _ _ _ h => h.elim, fun _ _ _ _ _ _ _ _ _ _ _ _ _ h => h.elim⟩⟩
  | succ k ih => exact step (k + 1) (spAlike k) (fun v u d H Q h hv hu q => by
      obtain ⟨k', e, hp⟩ := h
      cases e
      exact ⟨v, u, d, rfl, hv, hu, hp, q⟩) ih
end
end Lt

set_option Elab.async false
set_option linter.all false
set_option maxRecDepth 100000
set_option maxHeartbeats 2000000
/-! the last part of a polynomial is its longest; parts as data -/
namespace Lt
open PySem PySem.Spec PyProof.Rows L2 NdefX LamX LmX MaX
/-! ### the last part is the longest -/
open PySem.W in
/-! ### the task that asks all -/
/-! ### parts as data -/
end Lt

set_option Elab.async false
set_option linter.all false
set_option maxRecDepth 100000
set_option maxHeartbeats 2000000
/-! sorted(set(..)) of turns, told exactly; rows.py: degrees -/
namespace Lt
open PySem PySem.Spec PyProof.Rows L2
/-- a degree as data -/
def degD (ts : List Nat) : PyData := if ts = [] then .none else dN ((ts.map fun t => (insOf t).length).foldl max 0)
theorem degV_rp {H : Hp} (ts : List Nat) : Rp H (degV ts) (degD ts) := by
  unfold degV degD
  split
  · exact .non
  · exact .int _
theorem prime_lock {ls : List (List Nat)} {n : Nat} {H : Hp} {v : V} (g : Good H v ls n) (h60 : (LL ls n).length ≤ 60) : primeOf (LL ls n).length = lawP (LL ls n).length := by
  have nd := LL_nd ls n
  have hm := fun t => g.mem t
  have := order_dvd g.gl.2.2.2.2 g.few nd hm
  rw [List.length_map] at this
  refine lawP_eq ?_ h60 (Nat.dvd_trans this (fac_dvd g.gl.2.2.2.1))
  have := List.length_pos_of_mem ((hm _).mpr .still)
  rw [List.length_map] at this
  exact this
theorem lawP_in {k p : Nat} (h : lawP k = some p) : p ∈ primes := by
  unfold lawP at h
  split at h
  · rename_i q e
    obtain rfl := Option.some.inj h
    have : q ∈ [2, 3, 5, 7].filter fun p => decide (k % p = 0) := by rw [e]; exact List.mem_singleton.mpr rfl
    exact (List.mem_filter.mp this).1
  · cases h
section
variable {P : Program} {w : World} {K : PySem.W.Frag} {mg : Str → Option Value} {base : Heap} {CL CM CT CN CR CK CP : Addr}
/-- a pair of a turn and a degree -/
def DgAt (p n k : Nat) (ss : List StepT) (H : Hp) (v : V) (t : List Nat) : Prop := ∃ b x, v = .ref b ∧ H b = some (.tup [x, degV (polyL p k (yesT (valsK n k ss) t))]) ∧ TK H x t
theorem DgAt.tm {p n k : Nat} {ss : List StepT} {H H' : Hp} {v : V} {t : List Nat} (e : Tm H H') (h : DgAt p n k ss H v t) : DgAt p n k ss H' v t := let ⟨b, x, h1, h2, h3⟩ := h; ⟨b, x, h1, e.1 _ _ h2, h3.tm e⟩
theorem DgAts.rp {p n k : Nat} {ss : List StepT} {H : Hp} : ∀ {xs : List V} {us : List (List Nat)}, Paired (DgAt p n k ss H) xs us → RpAll H xs (us.map fun t => .tuple [dT t, degD (polyL p k (yesT (valsK n k ss) t))])
  | _, _, .nil => .nil
  | _, _, .cons ⟨b, x, e, hb, hx⟩ s => by
    subst e
    exact .cons (.tup (.inl hb) (.cons hx.tn.rp (.cons (degV_rp _) .nil))) (DgAts.rp s)
end
end Lt

set_option Elab.async false
set_option linter.all false
set_option maxRecDepth 100000
set_option maxHeartbeats 2000000
/-! weights.py: own_prime, weighed, told_number; alls.py: most_times -/
namespace Lt
open PySem PySem.Spec PyProof.Rows L2
/-- what a lock of a prime's power keeps to -/
structure WOk (ls : List (List Nat)) (n p : Nat) (Ts : LLN) : Prop where
  p2 : 2 ≤ p
  p63 : p ≤ 63
  w : wCnt n p Ts 64 1 < 64
  pw : ∀ i, i ≤ 8 → (chLev n p Ts ls i).1 ≠ [] → (lfPow n p Ts (i + 1) 64 1).length < 64 ∧ ∀ q ∈ lfPws n p Ts (i + 1), q ≤ 64
  lv : ∀ i, i ≤ 8 → (chLev n p Ts ls i).1.length ≤ 200
  stop : (chLev n p Ts ls 8).1 = []
  fs : ∀ f ∈ (chLev n p Ts ls 8).2, p ^ f.2 ≤ 1000 ∧ f.1.length ≤ 9
/-- the prime is p, and so it keeps to it -/
def PLk (ls : List (List Nat)) (n p : Nat) : Prop := primeOf (LL ls n).length = some p ∧ ∀ T0 Ts, T0.Nodup → (∀ t, t ∈ T0 ↔ Mk ls n t) → Ser ls n T0 Ts → WOk ls n p Ts
theorem tsOk_of {ls T0 : List (List Nat)} {n : Nat} {Ts : LLN} {H : Hp} {v : V} (g : Good H v ls n) (hT : ∀ t, t ∈ T0 ↔ Mk ls n t) (nd : T0.Nodup) (h : Ser ls n T0 Ts) : TsOk ls n Ts := by
  have hls := g.gl.2.2.2.2
  have sl := ser_len hls g.few hT nd h
  have l0 := g.few.le nd fun t ht => (hT t).mp ht
  have h1 : 1 ≤ Ts.length := by have := (List.getElem?_eq_some_iff.mp h.head).1; omega
  refine ⟨hls, g.few, by have := g.gl.2.2.1; omega, g.gl.2.2.2.1, h1, ?_, fun A hA => ?_, fun A hA => ?_, ser_pos hls g.few hT nd h⟩
  · have e : Ts[Ts.length - 1]? = some (Ts[Ts.length - 1]'(by omega)) := List.getElem?_eq_getElem _
    have := (sl _ _ e).2.2
    omega
  · obtain ⟨i, hi⟩ := List.mem_iff_getElem?.mp hA
    exact (sl i A hi).1.sub
  · obtain ⟨i, hi⟩ := List.mem_iff_getElem?.mp hA
    have := (sl i A hi).2.2
    omega
section
variable {P : Program} {w : World} {K : PySem.W.Frag} {mg : Str → Option Value} {base : Heap} {CP : Addr}
def spOwn (CP : Addr) : Sp := fun vs H Q E => ∃ (v : V) (ls : List (List Nat)) (n : Nat), vs = [v] ∧ Good H v ls n ∧ (primeOf (LL ls n).length = none → Bad0 CP H E) ∧ ∀ p, primeOf (LL ls n).length = some p → ∀ H', Same H H' → Q (nI p) H'
theorem sc_own_prime : FnScope ["lock", "base"] ["lock"] (defScope s_own_prime) := ⟨rfl, rfl, rfl, by decide +kernel, rfl, by decide +kernel, by decide +kernel⟩
theorem has_own_prime (T : Top K mg "own_prime" s_own_prime ["lock"]) (X0 : Err0 K mg "NotPrime" CP) (hP : Has P w K mg base CX0 7 "prime" ["lock"] spPrime) : Has P w K mg base (L2.CX P w) 8 "own_prime" ["lock"] (spOwn CP) := by
  refine T.okX sc_own_prime (fun vs H Q E h => ?_) (fun f cdv A outer s H vs Q E hr h => ?_)
  · obtain ⟨v, ls, n, rfl, _⟩ := h
    rfl
  · obtain ⟨v, ls, n, rfl, g, qN, q⟩ := h
    refine ⟨_, pss_cons (ps_set (i := 1) sc_own_prime.nd rfl (Or.inl rfl) (pe_has hP hr (by rfl) (pa_cons (pv 0) pa_nil)))
      (pss_cons (ps_if (pt_cmp (pc_isN (pv 1))) (pss_one (ps_raise rfl (takes_of rfl rfl rfl rfl) (pmk_err0 X0 (by rfl)))) pss_nil)
      (pss_one (ps_ret (pv 1)))), ?_⟩
    refine ⟨_, rfl, v, ls, n, rfl, g, fun H2 T0 s2 nd0 mem0 => ?_⟩
    have hlen : T0.length = (LL ls n).length := by
      have pm : T0.Perm ((LL ls n).map (·.1)) := (List.perm_ext_iff_of_nodup nd0 (LL_nd ls n)).mpr fun t => (mem0 t).trans (g.mem t).symm
      rw [pm.length_eq, List.length_map]
    rw [hlen]
    cases hp : primeOf (LL ls n).length with
    | none => exact ⟨_, rfl, true, rfl, iteT (qN hp H2 s2)⟩
    | some p => exact ⟨_, rfl, false, congrArg V.bl (decide_eq_false (by intro z; cases z)), iteF ⟨_, rfl, q p hp H2 s2⟩⟩
/-- the terms by weight -/
structure WeT (n p : Nat) (Ts Us : LLN) : Prop where
  len : Us.length = wCnt n p Ts 64 1
  u : ∀ j U, Us[j]? = some U → SpU n (wMk n p Ts (j + 1)) U
def spWeighed (CP : Addr) : Sp := fun vs H Q E => ∃ (v : V) (ls : List (List Nat)) (n : Nat), vs = [v] ∧ Good H v ls n ∧ (primeOf (LL ls n).length = none → Bad0 CP H E) ∧
  (∀ p, primeOf (LL ls n).length = some p → PLk ls n p ∧ ∀ r H' T0 Ts Us, Same H H' → T0.Nodup → Asc T0 → (∀ t, t ∈ T0 ↔ Mk ls n t) → Ser ls n T0 Ts → TTTK H' r Us → WeT n p Ts Us → Q r H')
abbrev weN : List Str := ["lock", "base", "terms", "found", "term"]
theorem sc_weighed : FnScope weN ["lock"] (defScope s_weighed) := ⟨rfl, rfl, rfl, by decide +kernel, rfl, by decide +kernel, by decide +kernel⟩
theorem has_weighed (T : Top K mg "weighed" s_weighed ["lock"]) (B : Bi mg) (hO : Has P w K mg base (L2.CX P w) 8 "own_prime" ["lock"] (spOwn CP)) (hL : Has P w K mg base CX0 7 "lower" ["lock"] spLowerK) (hW : Has P w K mg base CX0 5 "weighed_term" ["base", "terms", "weight"] spWTerm) : Has P w K mg base (L2.CX P w) 9 "weighed" ["lock"] (spWeighed CP) := by
  refine T.okX sc_weighed (fun vs H Q E h => ?_) (fun f cdv A outer s H vs Q E hr h => ?_)
  · obtain ⟨v, ls, n, rfl, _⟩ := h
    rfl
  · obtain ⟨v, ls, n, rfl, g, qN, q⟩ := h
    have hr8 : Room 8 _ := hr.mono (by decide)
    have hr7 : Room 7 _ := hr.mono (by decide)
    have hr5 : Room 5 _ := hr.mono (by decide)
    refine ⟨_, pss_cons (ps_set (i := 1) sc_weighed.nd rfl (Or.inl rfl) (pe_hasX (E := E) hO hr8 (by rfl) (passes_call (takes_of rfl rfl rfl rfl) (fun _ _ _ _ h => h)) (pa_cons (pv 0) pa_nil)))
      (pss_cons (ps_set (i := 2) sc_weighed.nd rfl (Or.inl rfl) (pe_has hL hr7 (by rfl) (pa_cons (pv 0) pa_nil)))
      (pss_cons (ps_set (i := 3) sc_weighed.nd rfl (Or.inl rfl) (pe_lst pa_nil))
      (pss_cons (ps_set (i := 4) sc_weighed.nd rfl (Or.inl rfl) (pe_has hW hr5 (by rfl) (pa_cons (pv 1) (pa_cons (pv 2) (pa_cons pe_int pa_nil)))))
      (pss_cons (ps_while (passes_of rfl) (pt_cmpR op_gt (pe_callB call_len_seq (by rfl) B.len PySem.boot_len (pa_cons (pv 4) pa_nil)) pe_int (nomark _))
        (pss_cons (ps_expr (pe_bm PySem.F.plainAttrs_list PySem.F.slot_list_append PySem.F.type_list_append mt_append (pv 3) (pa_cons (pv 4) pa_nil)))
        (pss_one (ps_set (i := 4) sc_weighed.nd rfl (Or.inl rfl) (pe_has hW hr5 (by rfl) (pa_cons (pv 1) (pa_cons (pv 2) (pa_cons (pe_op op_add (pe_callB call_len_seq (by rfl) B.len PySem.boot_len (pa_cons (pv 3) pa_nil)) pe_int) pa_nil))))))))
      (pss_one (ps_ret (pe_tupleOf (by rfl) B.tuple (pv 3)))))))), ?_⟩
    refine ⟨_, rfl, v, ls, n, rfl, g, qN, fun p hp H1 s1 => ?_⟩
    obtain ⟨⟨_, wo⟩, q⟩ := q p hp
    refine ⟨_, rfl, v, ls, n, rfl, g.same s1, fun r H2 T0 Ts s2 tts nd0 asc0 mem0 hser => ?_⟩
    have W := wo T0 Ts nd0 mem0 hser
    have ok := tsOk_of g mem0 nd0 hser
    have s12 := s1.trans s2
    refine ⟨Nat.zero_le _, fun fl hfl => ?_⟩
    have s3 := same_new (o := .lst []) hfl
    have fl0 : H fl = none := s12.free hfl
    refine ⟨_, rfl, _, rfl, r, ls, n, p, 1, Ts, rfl, tts.tm (.of s3), ok, W.p2, W.p63, by decide, by decide, fun t us H4 s4 htt sp => ?_⟩
    refine ⟨fun m σ H' => ∃ (i f : Nat) (t : V) (zs : List V) (Us : LLN) (us : List (List Nat)), σ = [some v, some (nI p), some r, some (.ref fl), some t] ∧ Same H H' ∧ TTTK H' r Ts ∧ H' fl = some (.lst zs) ∧ Paired (TTK H') zs Us ∧ Us.length = i ∧ (∀ j U, Us[j]? = some U → SpU n (wMk n p Ts (j + 1)) U) ∧ TTK H' t us ∧ SpU n (wMk n p Ts (i + 1)) us ∧ i + f = 64 ∧ wCnt n p Ts 64 1 = i + wCnt n p Ts f (i + 1) ∧ m = f,
      ⟨64, 0, 64, t, [], [], us, rfl, s12.trans (s3.trans s4), tts.tm (.of (s3.trans s4)), s4 _ _ upd_same, .nil, rfl, (fun j U h => by cases h), htt, sp, rfl, by rw [Nat.zero_add], rfl⟩, ?_⟩
    rintro m σ H' ⟨i, f, t, zs, Us, us, rfl, sm, tts', hz, pz, hl, hU, htt, sp, hif, hc, rfl⟩
    have hW := W.w
    have hf0 : m ≠ 0 := fun z => by
      subst z
      omega
    obtain ⟨g', rfl⟩ : ∃ g', m = g' + 1 := ⟨m - 1, by omega⟩
    have hlen := sp.len (ok.few' (ok.wP (p := p) (i + 1)))
    have hst : wCnt n p Ts (g' + 1) (i + 1) = if 1 < us.length then wCnt n p Ts g' (i + 1 + 1) + 1 else 0 := by
      rw [hlen]
      rfl
    have lz := Paired.length pz
    obtain ⟨a, ax, rfl, hax, pa⟩ := id htt
    have la := Paired.length pa
    refine ⟨_, rfl, a, ax, rfl, .inr (SqT.of hax), (ax.length : Int), 1, rfl, rfl, decide (1 < us.length), congrArg V.bl (decide_eq_decide.mpr (by omega)), ?_⟩
    by_cases h1 : 1 < us.length
    · rw [decide_eq_true h1]
      rw [if_pos h1] at hst
      refine iteT ⟨fun σ3 H3 => ∃ (t : V) (zs : List V) (us2 : List (List Nat)), σ3 = [some v, some (nI p), some r, some (.ref fl), some t] ∧ Same H H3 ∧ TTTK H3 r Ts ∧ H3 fl = some (.lst zs) ∧ Paired (TTK H3) zs (Us ++ [us]) ∧ TTK H3 t us2 ∧ SpU n (wMk n p Ts (i + 1 + 1)) us2, fun σ3 H3 ⟨t3, zs3, us3, e1, e2, e3, e4, e5, e6, e7⟩ => ⟨g', Nat.lt_succ_self _, i + 1, g', t3, zs3, Us ++ [us], us3, e1, e2, e3, e4, e5, by rw [List.length_append, hl]; rfl, fun j U hj => ?_, e6, e7, by omega, by omega, rfl⟩, ?_⟩
      · by_cases hji : j < Us.length
        · rw [List.getElem?_append_left hji] at hj
          exact hU j U hj
        · have hj2 := (List.getElem?_eq_some_iff.mp hj).1
          rw [List.length_append] at hj2
          have e : j = Us.length := by
            have : [us].length = 1 := rfl
            omega
          subst e
          rw [List.getElem?_concat_length] at hj
          rw [← Option.some.inj hj, hl]
          exact sp
      · have tL := Tm.lst (o := .lst (zs ++ [V.ref a])) hz
        refine ⟨_, rfl, .inl ⟨rfl, zs, SqL.of hz⟩, _, rfl, fl, zs, .ref a, rfl, rfl, hz, by rw [sizeLine_eq]; omega, ?_⟩
        have e1 : (upd H' fl (.lst (zs ++ [V.ref a]))) fl = some (.lst (zs ++ [V.ref a])) := upd_same
        have tts2 := tts'.tm tL
        have pz2 := Paired.app (TTKs.tm tL pz) (Paired.one (TTK.tm2 tL htt))
        have sm2 : Same H (upd H' fl (.lst (zs ++ [V.ref a]))) := same_mut sm fl0
        generalize upd H' fl (.lst (zs ++ [V.ref a])) = H5 at *
        have el : (((zs ++ [V.ref a]).length : Nat) : Int) + 1 = ((i + 1 + 1 : Nat) : Int) := by
          rw [List.length_append, lz, hl]
          rfl
        refine ⟨_, rfl, _, rfl, _, rfl, fl, _, rfl, .inl (SqL.of e1), ((zs ++ [V.ref a]).length : Int), 1, rfl, rfl, ?_⟩
        dsimp only [tNil, List.cons_append, List.nil_append, List.append_nil]
        rw [el]
        exact ⟨r, ls, n, p, i + 1 + 1, Ts, rfl, tts2, ok, W.p2, W.p63, by omega, by omega, fun t2 us2 H6 s6 htt2 sp2 => ⟨t2, _, us2, rfl, sm2.trans s6, tts2.tm (.of s6), s6 _ _ e1, TTKs.tm (.of s6) pz2, htt2, sp2⟩⟩
    · rw [decide_eq_false h1]
      rw [if_neg h1] at hst
      refine iteF ⟨_, rfl, .inl ⟨fl, zs, rfl, SqL.of hz, fun rp hrp => ?_⟩⟩
      have s7 := same_new (o := .tup zs) hrp
      exact q _ _ T0 Ts Us (sm.trans s7) nd0 asc0 mem0 hser ⟨rp, zs, rfl, upd_same, TTKs.tm (.of s7) pz⟩ ⟨by omega, hU⟩
end
end Lt

set_option Elab.async false
set_option linter.all false
set_option maxRecDepth 100000
set_option maxHeartbeats 2000000
/-! weights.py: told_number; alls.py: most_times -/
namespace Lt
open PySem PySem.Spec PyProof.Rows L2
theorem sum_cast (l : List Nat) : (l.map fun k : Nat => (k : Int)).sum = ((l.sum : Nat) : Int) := by
  induction l with
  | nil => rfl
  | cons a l ih =>
    rw [List.map_cons, List.sum_cons, List.sum_cons, ih]
    omega
section
variable {P : Program} {w : World} {K : PySem.W.Frag} {mg : Str → Option Value} {base : Heap} {CP : Addr}
def spTold (CP : Addr) : Sp := fun vs H Q E => ∃ (v : V) (ls : List (List Nat)) (n : Nat), vs = [v] ∧ Good H v ls n ∧ (primeOf (LL ls n).length = none → Bad0 CP H E) ∧
  (∀ p, primeOf (LL ls n).length = some p → PLk ls n p ∧ ∀ H' T0 Ts, Same H H' → T0.Nodup → Asc T0 → (∀ t, t ∈ T0 ↔ Mk ls n t) → Ser ls n T0 Ts → Q (nI (toldN n p Ts)) H')
abbrev tlN : List Str := ["lock", "base", "term"]
theorem sc_told_number : FnScope tlN ["lock"] (defScope s_told_number) := ⟨rfl, rfl, rfl, by decide +kernel, rfl, by decide +kernel, by decide +kernel⟩
theorem has_told_number (T : Top K mg "told_number" s_told_number ["lock"]) (B : Bi mg) (bsum : mg "sum" = none) (hO : Has P w K mg base (L2.CX P w) 8 "own_prime" ["lock"] (spOwn CP)) (hW : Has P w K mg base (L2.CX P w) 9 "weighed" ["lock"] (spWeighed CP)) (hE : Has P w K mg base CX0 1 "exponent_of" ["base", "many"] spExpo) : Has P w K mg base (L2.CX P w) 10 "told_number" ["lock"] (spTold CP) := by
  refine T.okX sc_told_number (fun vs H Q E h => ?_) (fun f cdv A outer s H vs Q E hr h => ?_)
  · obtain ⟨v, ls, n, rfl, _⟩ := h
    rfl
  · obtain ⟨v, ls, n, rfl, g, qN, q⟩ := h
    have hr9 : Room 9 _ := hr.mono (by decide)
    have hr8 : Room 8 _ := hr.mono (by decide)
    have hr1 : Room 1 _ := hr.mono (by decide)
    refine ⟨_, pss_cons (ps_set (i := 1) sc_told_number.nd rfl (Or.inr rfl) (pe_hasX (E := E) hO hr8 (by rfl) (passes_call (takes_of rfl rfl rfl rfl) (fun _ _ _ _ h => h)) (pa_cons (pv 0) pa_nil)))
      (pss_one (ps_ret (pe_op op_mul (pe_op op_sub (pv 1) pe_int) (pe_callB (cr_sum rfl) (by rfl) bsum PyProof.Rows.boot_sum (pa_cons (pe_lc (own := [("term", 2)]) (g := gName 2) (te := tCall spExpo [] E0 (tCons (tVar 1) (tCons (tCB (rLenS K) (tCons (tVar 2) tNil)) tNil))) (by rfl) sc_told_number.nd
        (pi_tup (pe_hasX (E := E) hW hr9 (by rfl) (passes_call (takes_of rfl rfl rfl rfl) (fun _ _ _ _ h => h)) (pa_cons (pv 0) pa_nil)))
        (blkOk_by (own := [("term", 2)]) (N := tlN) (sc := defScope s_told_number) (by decide +kernel))
        (fun _ _ _ _ _ => pg_name (i := 2) sc_told_number.nd rfl (Or.inl rfl)) (fun _ _ _ _ _ => pts_nil) (fun _ _ _ _ _ => pe_has hE hr1 (by rfl) (pa_cons (pv 1) (pa_cons (by exact pe_callB call_len_seq (by rfl) B.len PySem.boot_len (pa_cons (pv 2) pa_nil)) pa_nil)))) pa_nil))))), ?_⟩
    refine ⟨_, rfl, v, ls, n, rfl, g, qN, fun p hp H1 s1 => ?_⟩
    obtain ⟨pl, q⟩ := q p hp
    refine ⟨_, rfl, (p : Int), 1, rfl, rfl, ?_⟩
    refine ⟨_, rfl, v, ls, n, rfl, g.same s1, (fun z => by rw [hp] at z; cases z), fun p' hp' => ?_⟩
    have ep : p' = p := by rw [hp] at hp'; exact (Option.some.inj hp').symm
    subst ep
    refine ⟨pl, fun r H2 T0 Ts Us s2 nd0 asc0 mem0 hser ⟨a, xs, er, ha, px⟩ wt => ?_⟩
    subst er
    have W := pl.2 T0 Ts nd0 mem0 hser
    have ok := tsOk_of g mem0 nd0 hser
    have lx := Paired.length px
    have hwl := wt.len
    have hww := W.w
    have p2 := W.p2
    have p63 := W.p63
    refine ⟨a, rfl, ⟨_, SqT.of ha⟩, fun D hD => lc_tupM (xs := xs) RI ((List.range (wCnt n p' Ts 64 1)).map fun i => ((expo p' 64 (szS n (wMk n p' Ts (i + 1))) : Nat) : Int)) (fun _ _ _ _ _ r => r) (SqT.of ha) (fun H' sm => SqT.of (sm _ _ ha)) (by omega) (by rw [List.length_map, List.length_range]; omega) hD (fun x => rfl) (fun i x b hi hb H' sm Q' q' => ?_) (fun H' zs sm hz pr => ?_)⟩
    · obtain ⟨U, hU, ua, ux, rfl, hua, pu⟩ := Paired.getL px hi
      have hil := (List.getElem?_eq_some_iff.mp hi).1
      rw [List.getElem?_map, List.getElem?_range (by omega)] at hb
      have hb := (Option.some.inj hb).symm
      subst hb
      have sp := wt.u i U hU
      have e1 := sp.len (ok.few' (ok.wP (p := p') (i + 1)))
      have e2 := (ok.few' (ok.wP (p := p') (i + 1))).le sp.nd fun t ht => (sp.mem t).mp ht
      have lu := Paired.length pu
      refine ⟨_, rfl, _, rfl, ua, ux, rfl, .inr (SqT.of (sm _ _ hua)), p', ux.length, rfl, p2, by omega, by omega, q' _ H' (Same.refl _) ?_⟩
      show V.int _ = V.int _
      rw [lu, e1]
    · rw [RI.all pr] at hz
      refine ⟨D, _, rfl, SqL.of hz, (p' : Int) - 1, _, rfl, rfl, Or.inl ⟨by omega, by omega⟩, ?_⟩
      have es : ((p' : Int) - 1) * ((List.range (wCnt n p' Ts 64 1)).map fun i => ((expo p' 64 (szS n (wMk n p' Ts (i + 1))) : Nat) : Int)).sum = ((toldN n p' Ts : Nat) : Int) := by
        unfold toldN
        rw [Int.natCast_mul, ← sum_cast, List.map_map]
        have : ((p' - 1 : Nat) : Int) = (p' : Int) - 1 := by omega
        rw [this]
        rfl
      dsimp only
      rw [es]
      exact q H' T0 Ts (s1.trans (s2.trans sm)) nd0 asc0 mem0 hser
end
end Lt

set_option Elab.async false
set_option linter.all false
set_option maxRecDepth 100000
set_option maxHeartbeats 2000000
/-! k10: undone_steps, unless, many_steps -/
namespace Lt
open PySem PySem.Spec PyProof.Rows L2
theorem getDd_rng {α : Type} (d : α) (l : List α) : (List.range l.length).map (fun i => l.getD i d) = l := by
  apply List.ext_getElem?
  intro i
  rw [List.getElem?_map]
  by_cases h : i < l.length
  · rw [List.getElem?_range h, List.getElem?_eq_getElem h]
    show some (l.getD i d) = _
    rw [List.getD_eq_getElem?_getD, List.getElem?_eq_getElem h]
    rfl
  · rw [List.getElem?_eq_none (by rw [List.length_range]; omega), List.getElem?_eq_none (by omega)]
    rfl
section
variable {P : Program} {w : World} {K : PySem.W.Frag} {mg : Str → Option Value} {base : Heap}
end
end Lt

set_option Elab.async false
set_option linter.all false
set_option maxRecDepth 100000
set_option maxHeartbeats 4000000
/-! weights.py: longest_first -/
namespace Lt
open PySem PySem.Spec PyProof.Rows L2
def rNotInDT (K : PySem.W.Frag) : R2 := fun x y H Q => ∃ d ds, Dp K H x d ∧ Dp K H y (.tuple ds) ∧ SeqAt.shaped d = true ∧ SeqAt.shaped (.tuple ds) = true ∧ Q (.bl (!ds.any fun z => PyData.eqv z d)) H
theorem op_notInDT {X : Cx} (hu : X.A.units + 65 < cLine) : OpR X (compareOp .NotIn) (rNotInDT X.K) := by
  intro pins s σ H x y v u Q I rx ry h
  obtain ⟨d, ds, hd, he, sd, se, q⟩ := h
  obtain ⟨as, r1⟩ := Dp.reads I d x v hd rx
  obtain ⟨bs, r2⟩ := Dp.reads I (.tuple ds) y u he ry
  exact SeqAt.notIn_tuple_reads r2 r1 (SeqAt.canLay_of_shaped se) (SeqAt.canLay_of_shaped sd) (room_in_shaped sd hu) ⟨.bl _, H, I, rfl, q⟩
theorem cut_take (xs : List V) {i : Nat} (h : i ≤ xs.length) : cutV xs none (some (i : Int)) = xs.take i := by
  unfold cutV
  rw [HT.sIx_none, HT.sIx_nat, List.drop_zero, Nat.sub_zero, Nat.min_eq_left h]
theorem flat_le {ls : List (List Nat)} {n : Nat} {Ts : LLN} (h : TsOk ls n Ts) (w : Nat) : ∀ qs : List Nat, (qs.flatMap (powIn n Ts w)).length ≤ 63 * qs.length
  | [] => Nat.zero_le _
  | q :: qs => by
    have := flat_le h w qs
    have := powIn_len h w q
    rw [List.flatMap_cons, List.length_append, List.length_cons]
    omega
theorem lfPow_pos {n p : Nat} {Ts : LLN} (p1 : 1 ≤ p) (wt : Nat) : ∀ f q, 1 ≤ q → ∀ x ∈ lfPow n p Ts wt f q, 1 ≤ x
  | 0, _, _, x, h => by cases h
  | f + 1, q, h1, x, h => by
    unfold lfPow at h
    split at h
    · rcases List.mem_cons.mp h with rfl | h
      · exact Nat.mul_le_mul h1 p1
      · exact lfPow_pos p1 wt f _ (Nat.mul_le_mul h1 p1) x h
    · cases h
theorem lfPws_pos {n p : Nat} {Ts : LLN} (p1 : 1 ≤ p) (wt : Nat) : ∀ x ∈ lfPws n p Ts wt, 1 ≤ x := fun x h => by
  rcases List.mem_cons.mp h with rfl | h
  · exact Nat.le_refl _
  · exact lfPow_pos p1 wt 64 1 (Nat.le_refl _) x h
section
variable {P : Program} {w : World} {K : PySem.W.Frag} {mg : Str → Option Value} {base : Heap}
abbrev lfN : List Str := ["base", "terms", "level", "weight", "powers", "kept", "length", "power", "makers", "less", "turn", "known", "givens", "raised", "_"]
theorem sc_longest_first : FnScope lfN ["base", "terms", "level"] (defScope s_longest_first) := ⟨rfl, rfl, rfl, by decide +kernel, rfl, by decide +kernel, by decide +kernel⟩
end
end Lt

set_option Elab.async false
set_option linter.all false
set_option maxRecDepth 100000
set_option maxHeartbeats 4000000
/-! weights.py: chains -/
namespace Lt
open PySem PySem.Spec PyProof.Rows L2
theorem lfOut_nil (n p : Nat) (Ts : LLN) (wt : Nat) (pws : List Nat) : ∀ i kept, lfOut n p Ts wt pws [] i kept = kept
  | 0, _ => rfl
  | i + 1, kept => lfOut_nil n p Ts wt pws i kept
theorem lfM_nil (n p : Nat) (Ts : LLN) : lfM n p Ts [] = [] := lfOut_nil n p Ts _ _ _ _
theorem chLev_succ (n p : Nat) (Ts : LLN) (ls : List (List Nat)) (i : Nat) : chLev n p Ts ls (i + 1) = (nxLev ls (lfM n p Ts (chLev n p Ts ls i).1), (chLev n p Ts ls i).2 ++ (lfM n p Ts (chLev n p Ts ls i).1).map fun k => (k.1, k.2.2)) := rfl
theorem ch_stop {n p : Nat} {Ts : LLN} {ls : List (List Nat)} {i : Nat} (h : (chLev n p Ts ls i).1 = []) : ∀ k, chLev n p Ts ls (i + k) = ([], (chLev n p Ts ls i).2)
  | 0 => by rw [← h]; rfl
  | k + 1 => by
    rw [← Nat.add_assoc, chLev_succ, ch_stop h k]
    dsimp only
    rw [lfM_nil, List.map_nil, List.append_nil]
    rfl
theorem lfIn_wt (n q len wt : Nat) : ∀ (lv : List Cz) (ms : List (List Nat)) (kept : List Kz), (∀ c ∈ lv, c.1.length = wt) → (∀ k ∈ kept, k.1.length = wt) → ∀ k ∈ lfIn n q len lv ms kept, k.1.length = wt
  | [], _, _, _, hk => hk
  | (gv, t) :: r, ms, kept, hl, hk => by
    unfold lfIn
    have hl2 : ∀ c ∈ r, c.1.length = wt := fun c hc => hl c (List.mem_cons_of_mem _ hc)
    split
    · exact lfIn_wt n q len wt r ms kept hl2 hk
    · refine lfIn_wt n q len wt r _ _ hl2 fun k hk' => ?_
      rcases List.mem_append.mp hk' with z | z
      · exact hk k z
      · rw [List.mem_singleton.mp z]
        exact hl (gv, t) List.mem_cons_self
theorem lfOut_wt (n p : Nat) (Ts : LLN) (w0 wt : Nat) (pws : List Nat) {lv : List Cz} (hl : ∀ c ∈ lv, c.1.length = wt) : ∀ i kept, (∀ k ∈ kept, k.1.length = wt) → ∀ k ∈ lfOut n p Ts w0 pws lv i kept, k.1.length = wt
  | 0, _, hk => hk
  | i + 1, kept, hk => lfOut_wt n p Ts w0 wt pws hl i _ (lfIn_wt n _ _ wt lv _ _ hl hk)
theorem ch_wt (n p : Nat) (Ts : LLN) (ls : List (List Nat)) : ∀ i, ∀ c ∈ (chLev n p Ts ls i).1, c.1.length = i + 1
  | 0, c, hc => by
    obtain ⟨g, _, rfl⟩ := List.mem_map.mp hc
    rfl
  | i + 1, c, hc => by
    obtain ⟨k, hk, hc⟩ := List.mem_flatMap.mp hc
    obtain ⟨g, _, rfl⟩ := List.mem_map.mp hc
    have := lfOut_wt n p Ts _ (i + 1) _ (ch_wt n p Ts ls i) _ [] (fun k hk => by cases hk) k hk
    show (k.1 ++ [g]).length = _
    rw [List.length_append, this]
    rfl
theorem nx_len (ls : List (List Nat)) : ∀ ks : List Kz, (nxLev ls ks).length = ks.length * ls.length
  | [] => by rw [List.length_nil, Nat.zero_mul]; rfl
  | k :: ks => by
    have := nx_len ls ks
    unfold nxLev at this ⊢
    rw [List.flatMap_cons, List.length_append, this, List.length_map, List.length_cons, Nat.succ_mul, Nat.add_comm]
theorem in_nxK {gs : List (List Nat)} {n m : Nat} (hg : ∀ g ∈ gs, IsP n g) (hf : Few gs n m) {kept : List Kz} (hk : KeG gs n kept) : LvG gs n (nxLev gs kept) := fun c hc => by
  obtain ⟨k, hk', hc⟩ := List.mem_flatMap.mp hc
  obtain ⟨g, hg', rfl⟩ := List.mem_map.mp hc
  have h1 := (hk k hk').1
  have h2 := Mk.one hg hg'
  refine ⟨(h1.prod hg h2).prod hg ((h2.prod hg h1).inv hg hf), fun x hx => ?_⟩
  rcases List.mem_append.mp hx with z | z
  · exact (hk k hk').2 x z
  · rw [List.mem_singleton.mp z]
    exact hg'
theorem in_chLevK {gs : List (List Nat)} {n m p : Nat} {Ts : LLN} (hg : ∀ g ∈ gs, IsP n g) (hf : Few gs n m) : ∀ i, LvG gs n (chLev n p Ts gs i).1
  | 0 => fun c hc => by
      obtain ⟨g, hg', rfl⟩ := List.mem_map.mp hc
      exact ⟨.one hg hg', fun x hx => by rw [List.mem_singleton.mp hx]; exact hg'⟩
  | i + 1 => in_nxK hg hf (in_lfM hg (in_chLevK hg hf i))
section
variable {P : Program} {w : World} {K : PySem.W.Frag} {mg : Str → Option Value} {base : Heap} {CP : Addr}
abbrev chN : List Str := ["lock", "base", "terms", "level", "found", "kept", "given", "givens", "_", "length", "turn"]
theorem sc_chains : FnScope chN ["lock"] (defScope s_chains) := ⟨rfl, rfl, rfl, by decide +kernel, rfl, by decide +kernel, by decide +kernel⟩
end
end Lt

set_option Elab.async false
set_option linter.all false
set_option maxRecDepth 100000
set_option maxHeartbeats 2000000
/-! zip of a tuple and a list -/
namespace Lt
open PySem PySem.Spec PyProof.Rows L2
end Lt

set_option Elab.async false
set_option linter.all false
set_option maxRecDepth 100000
set_option maxHeartbeats 4000000
/-! alls.py: bracket_steps -/
namespace Lt
open PySem PySem.Spec PyProof.Rows L2
theorem cut_drop1 (xs : List V) : cutV xs (some 1) none = xs.drop 1 := by
  unfold cutV
  rw [HT.sIx_none, show (some (1 : Int)) = some ((1 : Nat) : Int) from rfl, HT.sIx_nat]
  by_cases h : 1 ≤ xs.length
  · rw [Nat.min_eq_left h, List.take_of_length_le (by rw [List.length_drop]; omega)]
  · have e : xs = [] := List.length_eq_zero_iff.mp (by omega)
    rw [e]
    rfl
section
variable {P : Program} {w : World} {K : PySem.W.Frag} {mg : Str → Option Value} {base : Heap}
end
end Lt

set_option Elab.async false
set_option linter.all false
set_option maxRecDepth 100000
set_option maxHeartbeats 4000000
/-! ring, the turns as keys -/
namespace Lt
open PySem PySem.Spec PyProof.Rows L2
section
variable {P : Program} {w : World} {K : PySem.W.Frag} {mg : Str → Option Value} {base : Heap} {CL CM : Addr}
end
end Lt

set_option Elab.async false
set_option linter.all false
set_option maxRecDepth 100000
set_option maxHeartbeats 4000000
/-! alls.py: chain_row, most_all -/
namespace Lt
open PySem PySem.Spec PyProof.Rows L2
theorem lfIn_sub (n q len : Nat) {S : List (List Nat)} : ∀ (lv : List Cz) (ms : List (List Nat)) (kept : List Kz), (∀ c ∈ lv, ∀ g ∈ c.1, g ∈ S) → (∀ k ∈ kept, ∀ g ∈ k.1, g ∈ S) → ∀ k ∈ lfIn n q len lv ms kept, ∀ g ∈ k.1, g ∈ S
  | [], _, _, _, hk => hk
  | (gv, t) :: r, ms, kept, hl, hk => by
    unfold lfIn
    have hl2 : ∀ c ∈ r, ∀ g ∈ c.1, g ∈ S := fun c hc => hl c (List.mem_cons_of_mem _ hc)
    split
    · exact lfIn_sub n q len r ms kept hl2 hk
    · refine lfIn_sub n q len r _ _ hl2 fun k hk' => ?_
      rcases List.mem_append.mp hk' with z | z
      · exact hk k z
      · rw [List.mem_singleton.mp z]
        exact hl (gv, t) List.mem_cons_self
theorem lfOut_sub (n p : Nat) (Ts : LLN) (w0 : Nat) (pws : List Nat) {S : List (List Nat)} {lv : List Cz} (hl : ∀ c ∈ lv, ∀ g ∈ c.1, g ∈ S) : ∀ i kept, (∀ k ∈ kept, ∀ g ∈ k.1, g ∈ S) → ∀ k ∈ lfOut n p Ts w0 pws lv i kept, ∀ g ∈ k.1, g ∈ S
  | 0, _, hk => hk
  | i + 1, kept, hk => lfOut_sub n p Ts w0 pws hl i _ (lfIn_sub n _ _ lv _ _ hl hk)
theorem ch_sub (n p : Nat) (Ts : LLN) (ls : List (List Nat)) : ∀ i, ∀ c ∈ (chLev n p Ts ls i).1, ∀ g ∈ c.1, g ∈ ls
  | 0, c, hc => by
    obtain ⟨g, hg, rfl⟩ := List.mem_map.mp hc
    exact fun x hx => by rw [List.mem_singleton.mp hx]; exact hg
  | i + 1, c, hc => by
    rw [chLev_succ] at hc
    obtain ⟨k, hk, hc⟩ := List.mem_flatMap.mp hc
    obtain ⟨g, hg, rfl⟩ := List.mem_map.mp hc
    have := lfOut_sub n p Ts _ _ (ch_sub n p Ts ls i) _ [] (fun k hk => by cases hk) k hk
    intro x hx
    rcases List.mem_append.mp hx with z | z
    · exact this x z
    · rw [List.mem_singleton.mp z]
      exact hg
theorem ch_fs (n p : Nat) (Ts : LLN) (ls : List (List Nat)) : ∀ i, ∀ f ∈ (chLev n p Ts ls i).2, (∀ g ∈ f.1, g ∈ ls) ∧ f.1 ≠ []
  | 0, f, h => by cases h
  | i + 1, f, h => by
    rw [chLev_succ] at h
    rcases List.mem_append.mp h with z | z
    · exact ch_fs n p Ts ls i f z
    · obtain ⟨k, hk, rfl⟩ := List.mem_map.mp z
      have h1 := lfOut_wt n p Ts _ (i + 1) _ (ch_wt n p Ts ls i) _ [] (fun k hk => by cases hk) k hk
      refine ⟨lfOut_sub n p Ts _ _ (ch_sub n p Ts ls i) _ [] (fun k hk => by cases hk) k hk, fun e => ?_⟩
      have e : k.1 = [] := e
      rw [e] at h1
      cases h1
section
variable {P : Program} {w : World} {K : PySem.W.Frag} {mg : Str → Option Value} {base : Heap} {CP : Addr}
end
end Lt

set_option Elab.async false
set_option linter.all false
set_option maxRecDepth 100000
set_option maxHeartbeats 1000000
/-! what rows of commutators come to -/
namespace Lt
open PySem PySem.Spec PyProof.Rows L2
section
variable {n : Nat} {b : Nat → Bool}
end
/-! ### around a ring -/
end Lt

set_option Elab.async false
set_option linter.all false
set_option maxRecDepth 100000
set_option maxHeartbeats 4000000
/-! alls.py: ring_row, most_all, all_row; fulls.py: can_all -/
namespace Lt
open PySem PySem.Spec PyProof.Rows L2
theorem asc_uni {n : Nat} {A B : List (List Nat)} (n9 : n ≤ 9) (hP : ∀ t ∈ A, IsP n t) (nA : A.Nodup) (nB : B.Nodup) (aA : Asc A) (aB : Asc B) (h : ∀ t, t ∈ A ↔ t ∈ B) : A = B :=
  asc_one n9 hP ((List.perm_ext_iff_of_nodup nA nB).mpr h) aA aB
/-- one series alone -/
theorem serUni {ls T0 : List (List Nat)} {n m : Nat} {Ts Us : LLN} (hls : ∀ g ∈ ls, IsP n g) (hf : Few ls n m) (n9 : n ≤ 9) (hT : ∀ t, t ∈ T0 ↔ Mk ls n t) (nd : T0.Nodup) (h : Ser ls n T0 Ts) (h' : Ser ls n T0 Us) : Ts = Us := by
  have sl := ser_len hls hf hT nd h
  have nx : ∀ {A B B'}, (∀ t ∈ A, IsP n t) → Nx ls n A B → Nx ls n A B' → B = B' := fun {A B B'} hA a b => by
    refine asc_uni n9 (fun t ht => ((a.mem t).mp ht).isP fun x hx => ?_) a.nd b.nd a.asc b.asc fun t => (a.mem t).trans (b.mem t).symm
    obtain ⟨y, hy, g, hg, rfl⟩ := brk_mem.mp hx
    exact (hA y hy).cm (hls g hg)
  apply List.ext_getElem?
  intro i
  induction i with
  | zero => rw [h.head, h'.head]
  | succ i ih =>
    cases e : Ts[i]? with
    | none =>
      have e' := ih.symm.trans e
      have := List.getElem?_eq_none_iff.mp e
      have := List.getElem?_eq_none_iff.mp e'
      rw [List.getElem?_eq_none (by omega), List.getElem?_eq_none (by omega)]
    | some A =>
      have e' := ih.symm.trans e
      have hA : ∀ t ∈ A, IsP n t := fun t ht => ((sl i A e).1.sub t ht).isP hls
      cases e2 : Ts[i + 1]? with
      | none =>
        obtain ⟨B, b1, b2⟩ := h.stop i A e e2
        cases e3 : Us[i + 1]? with
        | none => rfl
        | some B' =>
          obtain ⟨c1, c2⟩ := h'.step i A B' e' e3
          rw [nx hA b1 c1] at b2
          exact absurd b2 c2
      | some B =>
        obtain ⟨b1, b2⟩ := h.step i A B e e2
        cases e3 : Us[i + 1]? with
        | none =>
          obtain ⟨B', c1, c2⟩ := h'.stop i A e' e3
          rw [nx hA b1 c1] at b2
          exact absurd c2 b2
        | some B' =>
          obtain ⟨c1, c2⟩ := h'.step i A B' e' e3
          rw [nx hA b1 c1]
section
variable {P : Program} {w : World} {K : PySem.W.Frag} {mg : Str → Option Value} {base : Heap} {CN CW CP : Addr}
end
end Lt

set_option Elab.async false
set_option linter.all false
set_option maxRecDepth 100000
set_option maxHeartbeats 4000000
/-! alls.py: most_all, all_row; fulls.py: can_all -/
namespace Lt
open PySem PySem.Spec PyProof.Rows L2
section
variable {P : Program} {w : World} {K : PySem.W.Frag} {mg : Str → Option Value} {base : Heap} {CN CW CP : Addr}
end
end Lt

set_option Elab.async false
set_option linter.all false
set_option maxRecDepth 100000
set_option maxHeartbeats 4000000
/-! fulls.py: steps_at, row_for -/
namespace Lt
open PySem PySem.Spec PyProof.Rows L2
def stA (p : Nat) (ss : List StepT) : List StepT := ss.map fun s => if p / 2 ^ s.1 % 2 = 1 then s else (s.1, s.2.2, s.2.1)
section
variable {P : Program} {w : World} {K : PySem.W.Frag} {mg : Str → Option Value} {base : Heap} {CT CW : Addr}
end
end Lt

set_option Elab.async false
set_option linter.all false
set_option maxRecDepth 100000
set_option maxHeartbeats 2000000
/-! from a base lock to those whose places are called otherwise -/
namespace Lt
open PySem PySem.Spec PyProof.Rows L2
theorem chGo_ok {n p : Nat} {Ts : LLN} {gs : List (List Nat)} {fs : List Fz} : ∀ (f i : Nat), chGo n p Ts gs f i (chLev n p Ts gs i).1 (chLev n p Ts gs i).2 = some fs →
    (∀ j, i ≤ j → j ≤ i + f → (chLev n p Ts gs j).1.length ≤ 200 ∧ ((chLev n p Ts gs j).1 ≠ [] → (lfPow n p Ts (j + 1) 64 1).length < 64 ∧ ∀ q ∈ lfPws n p Ts (j + 1), q ≤ 64)) ∧ (chLev n p Ts gs (i + f)).1 = [] ∧ (chLev n p Ts gs (i + f)).2 = fs := by
  have stop : ∀ (f i : Nat), (chLev n p Ts gs i).1 = [] → (chLev n p Ts gs i).2 = fs → (∀ j, i ≤ j → j ≤ i + f → (chLev n p Ts gs j).1.length ≤ 200 ∧ ((chLev n p Ts gs j).1 ≠ [] → (lfPow n p Ts (j + 1) 64 1).length < 64 ∧ ∀ q ∈ lfPws n p Ts (j + 1), q ≤ 64)) ∧ (chLev n p Ts gs (i + f)).1 = [] ∧ (chLev n p Ts gs (i + f)).2 = fs := fun f i e1 e2 => by
    refine ⟨fun j h1 _ => ?_, ?_, ?_⟩
    · have := ch_stop e1 (j - i)
      rw [show i + (j - i) = j by omega] at this
      rw [this]
      exact ⟨Nat.zero_le _, fun z => absurd rfl z⟩
    · rw [ch_stop e1 f]
    · rw [ch_stop e1 f]
      exact e2
  intro f
  induction f with
  | zero =>
    intro i h
    unfold chGo at h
    split at h
    · rename_i he
      exact stop 0 i (List.isEmpty_iff.mp he) (Option.some.inj h)
    · cases h
  | succ f ih =>
    intro i h
    unfold chGo at h
    split at h
    · rename_i he
      exact stop (f + 1) i (List.isEmpty_iff.mp he) (Option.some.inj h)
    · split at h
      · rename_i he hc
        simp only [Bool.and_eq_true, decide_eq_true_iff] at hc
        obtain ⟨⟨c1, c2⟩, c3⟩ := hc
        obtain ⟨a1, a2, a3⟩ := ih (i + 1) h
        refine ⟨fun j h1 h2 => ?_, by rw [show i + (f + 1) = i + 1 + f by omega]; exact a2, by rw [show i + (f + 1) = i + 1 + f by omega]; exact a3⟩
        by_cases e : j = i
        · subst e
          exact ⟨c1, fun _ => ⟨c2, fun q hq => of_decide_eq_true (List.all_eq_true.mp c3 q hq)⟩⟩
        · exact a1 j (by omega) (by omega)
      · cases h
theorem chRow_base {b : Bas} (h : b ∈ basL) : b.ok = true := List.all_eq_true.mp basL_ok b h
/-- what a chain's row is -/
structure ChOk (ls : List (List Nat)) (n k : Nat) (x : CrX) : Prop where
  ok : RowOk ls n k x.1
  made : Mk ls n x.2.1
  val : ∀ i, i < 2 ^ k → (valK n x.1 i = x.2.1 ↔ i + 1 = 2 ^ k)
  len : x.1.length ≤ 1000
structure BasF (ls : List (List Nat)) (n p told : Nat) : Prop where
  prime : primeOf (LL ls n).length = some p
  pl : PLk ls n p
  told : ∀ T0 Ts, T0.Nodup → (∀ t, t ∈ T0 ↔ Mk ls n t) → Ser ls n T0 Ts → toldN n p Ts = told ∧ ∀ k, 1 ≤ k → k ≤ 6 → k ≤ told → ChOk ls n k (chRow n p k (chLev n p Ts ls 8).2)
theorem bas_lock {b : Bas} (hb : b ∈ basL) {s : List Nat} {n : Nat} {ls : List (List Nat)} (en : b.n = n) (hs : IsP n s) (e : ls = b.gs.map (cj s)) : BasF ls n b.p b.told := by
  subst en
  have hk := chRow_base hb
  obtain ⟨gP, gq, gne⟩ := basL_P b hb
  have hf : Few b.gs b.n 60 := few_of gq
  unfold Bas.ok at hk
  simp only [Bool.and_eq_true, decide_eq_true_iff] at hk
  obtain ⟨⟨⟨h1, h2⟩, h3⟩, h4⟩ := hk
  unfold okW at h3
  simp only [Bool.and_eq_true, decide_eq_true_iff] at h3
  obtain ⟨⟨⟨⟨⟨p2, p63⟩, hw⟩, hgo⟩, hfs⟩, htold⟩ := h3
  have hls : Rn s b.n ls b.gs := by rw [e]; exact Rn.of_map gP
  have lsP := hls.p' hs
  have lsF := hls.few hs hf
  have hsz : (LL ls b.n).length = (LL b.gs b.n).length := hls.szS hs (hf.mono (by decide))
  have ser : ∀ T0 Ts, T0.Nodup → (∀ t, t ∈ T0 ↔ Mk ls b.n t) → Ser ls b.n T0 Ts → Paired (Rn s b.n) Ts b.Ts ∧ InG b.gs b.n b.Ts := fun T0 Ts nd mem hser => by
    have hp := ser_rn hs gP hf hls mem nd hser
    have hp : Paired (Rn s b.n) Ts b.Ts := by
      rw [← h2]
      exact hp
    refine ⟨hp, fun A hA t ht => ?_⟩
    obtain ⟨i, hi⟩ := List.mem_iff_getElem?.mp hA
    obtain ⟨A', hA', r⟩ := Paired.getR hp hi
    have m := (ser_len lsP lsF mem nd hser i A' hA').1.sub _ ((r.e _).mpr ⟨t, ht, rfl⟩)
    exact (hls.mkI hs (r.p t ht)).mp m
  obtain ⟨g1, g2, g3⟩ := chGo_ok (n := b.n) (p := b.p) (Ts := b.Ts) (gs := b.gs) (fs := b.fs) 8 0 hgo
  rw [Nat.zero_add] at g2 g3
  have lev : ∀ Ts, Paired (Rn s b.n) Ts b.Ts → InG b.gs b.n b.Ts → ∀ i, chLev b.n b.p Ts ls i = ((chLev b.n b.p b.Ts b.gs i).1.map (rnC s), (chLev b.n b.p b.Ts b.gs i).2.map (rnF s)) := fun Ts hp hT i => by
    rw [e]
    exact rn_chLev hs hp gP hf hT i
  refine ⟨by rw [hsz]; exact h1, ⟨by rw [hsz]; exact h1, fun T0 Ts nd mem hser => ?_⟩, fun T0 Ts nd mem hser => ?_⟩
  · obtain ⟨hp, hT⟩ := ser T0 Ts nd mem hser
    have hl := lev Ts hp hT
    refine ⟨p2, p63, by rw [rn_wCnt hs hp gP hf hT]; exact hw, fun i hi hne => ?_, fun i hi => ?_, ?_, fun f hf' => ?_⟩
    · rw [hl] at hne
      have hne : (chLev b.n b.p b.Ts b.gs i).1 ≠ [] := fun z => hne (by rw [z]; rfl)
      rw [rn_lfPow hs hp gP hf hT, rn_lfPws hs hp gP hf hT]
      exact (g1 i (Nat.zero_le _) (by omega)).2 hne
    · rw [hl, List.length_map]
      exact (g1 i (Nat.zero_le _) (by omega)).1
    · rw [hl, g2]
      rfl
    · rw [hl, g3] at hf'
      obtain ⟨f0, hf0, rfl⟩ := List.mem_map.mp hf'
      have := List.all_eq_true.mp hfs f0 hf0
      simp only [Bool.and_eq_true, decide_eq_true_iff] at this
      exact ⟨this.1, by show (f0.1.map (cj s)).length ≤ 9; rw [List.length_map]; exact this.2⟩
  · obtain ⟨hp, hT⟩ := ser T0 Ts nd mem hser
    have hl := lev Ts hp hT
    refine ⟨by rw [rn_told hs hp gP hf hT]; exact htold, fun k k1 k6 kt => ?_⟩
    have fsP : FsP b.n b.fs := fun f hf' => by
      rw [← g3] at hf'
      obtain ⟨a1, a2⟩ := ch_fs b.n b.p b.Ts b.gs 8 f hf'
      exact ⟨fun g hg => gP g (a1 g hg), a2⟩
    have er : chRow b.n b.p k (chLev b.n b.p Ts ls 8).2 = rnX s (chRow b.n b.p k b.fs) := by
      rw [hl, g3]
      exact rn_chRow hs fsP
    obtain ⟨xP, tP⟩ := chRow_P (p := b.p) (k := k) fsP
    have hR : okR b.gs b.n b.p k b.fs = true := by
      have := List.all_eq_true.mp h4 (k - 1) (List.mem_range.mpr (by omega))
      rw [show k - 1 + 1 = k by omega] at this
      rcases (Bool.or_eq_true _ _).mp this with z | z
      · have := of_decide_eq_true z
        omega
      · exact z
    unfold okR at hR
    simp only [Bool.and_eq_true, decide_eq_true_iff] at hR
    obtain ⟨⟨⟨r1, r2⟩, r3⟩, r4⟩ := hR
    have mkL : ∀ t, t ∈ (LL b.gs b.n).map (·.1) → Mk ls b.n (cj s t) := fun t ht => by
      have m := (LL_mem hf (by decide) t).mp ht
      exact (hls.mkI hs (m.isP gP)).mpr m
    rw [er]
    refine ⟨⟨fun x hx => ?_, by show (List.map _ _).length ≤ 6000; rw [List.length_map]; omega⟩, mkL _ r3, fun i hi => ?_, by show (List.map _ _).length ≤ 1000; rw [List.length_map]; exact r1⟩
    · obtain ⟨y, hy, rfl⟩ := List.mem_map.mp hx
      have := List.all_eq_true.mp r2 y hy
      simp only [Bool.and_eq_true, decide_eq_true_iff] at this
      exact ⟨this.1.1, mkL _ this.1.2, mkL _ this.2⟩
    · have hv := of_decide_eq_true (List.all_eq_true.mp r4 i (List.mem_range.mpr hi))
      show valK b.n ((chRow b.n b.p k b.fs).1.map (rnS s)) i = cj s (chRow b.n b.p k b.fs).2.1 ↔ _
      rw [rn_valK hs xP]
      have hd := decide_eq_decide.mp hv
      rw [← hd]
      exact ⟨fun z => cj_inj hs (valK_P xP i) tP z, fun z => by rw [z]⟩
end Lt

set_option Elab.async false
set_option linter.all false
set_option maxRecDepth 100000
set_option maxHeartbeats 1000000
/-! whatever is written has at most the told degree: differences of turns, multiplied -/
namespace Lt
open PySem PySem.Spec PyProof.Rows L2
abbrev Fn := List Nat → Int
/-- all turns moved on by one -/
def Rm (g : List Nat) (φ : Fn) : Fn := fun u => φ (prod u (inv g))
section
variable {M : List Nat → Prop} {n : Nat} {p : Int}
/-- what so many differences take to nothing -/
def Nl (M : List Nat → Prop) (p : Int) : Nat → Fn → Prop
  | 0, φ => ∀ u, M u → p ∣ φ u
  | j + 1, φ => ∀ a b, M a → M b → Nl M p j fun u => Rm a φ u - Rm b φ u
theorem Nl.congr (C : Cld n M) : ∀ {j : Nat} {φ ψ : Fn}, (∀ u, M u → φ u = ψ u) → Nl M p j φ → Nl M p j ψ
  | 0, φ, ψ, e, h => fun u hu => by rw [← e u hu]; exact h u hu
  | j + 1, φ, ψ, e, h => fun a b ha hb => Nl.congr C (fun u hu => by
      show φ _ - φ _ = ψ _ - ψ _
      rw [e _ (C.prod _ _ hu (C.inv _ ha)), e _ (C.prod _ _ hu (C.inv _ hb))]) (h a b ha hb)
theorem Nl.add (C : Cld n M) : ∀ {j : Nat} {φ ψ : Fn}, Nl M p j φ → Nl M p j ψ → Nl M p j fun u => φ u + ψ u
  | 0, φ, ψ, h, k => fun u hu => Int.dvd_add (h u hu) (k u hu)
  | j + 1, φ, ψ, h, k => fun a b ha hb => Nl.congr C (fun u hu => by
      show (φ _ - φ _) + (ψ _ - ψ _) = (φ _ + ψ _) - (φ _ + ψ _)
      omega) (Nl.add C (h a b ha hb) (k a b ha hb))
theorem Nl.zero : ∀ {j : Nat} {φ : Fn}, (∀ u, φ u = 0) → Nl M p j φ
  | 0, φ, h => fun u _ => by rw [h u]; exact Int.dvd_zero p
  | j + 1, φ, h => fun a b _ _ => Nl.zero fun u => by
      show φ _ - φ _ = 0
      rw [h, h]
      rfl
theorem Rm_Rm (C : Cld n M) {φ : Fn} {a c u : List Nat} (ha : M a) (hc : M c) (hu : M u) : Rm a (Rm c φ) u = Rm (prod c a) φ u := by
  show φ (prod (prod u (inv a)) (inv c)) = φ (prod u (inv (prod c a)))
  rw [inv_prod (C.isP c hc) (C.isP a ha), pas _ (C.isP u hu) (C.isP a ha).inv]
theorem Nl.tr (C : Cld n M) {φ : Fn} {c : List Nat} (hc : M c) : ∀ {j : Nat}, Nl M p j φ → Nl M p j (Rm c φ)
  | 0, h => fun u hu => h _ (C.prod _ _ hu (C.inv _ hc))
  | j + 1, h => fun a b ha hb => Nl.congr C (fun u hu => by
      rw [Rm_Rm C ha hc hu, Rm_Rm C hb hc hu]) (h _ _ (C.prod _ _ hc ha) (C.prod _ _ hc hb))
theorem Nl.up (C : Cld n M) : ∀ {j : Nat} {φ : Fn}, Nl M p j φ → Nl M p (j + 1) φ
  | 0, φ, h => fun a b ha hb u hu => Int.dvd_sub (h _ (C.prod _ _ hu (C.inv _ ha))) (h _ (C.prod _ _ hu (C.inv _ hb)))
  | j + 1, φ, h => fun a b ha hb => Nl.up C (h a b ha hb)
theorem Nl.le (C : Cld n M) {j : Nat} {φ : Fn} (h : Nl M p j φ) : ∀ d, Nl M p (j + d) φ
  | 0 => h
  | d + 1 => Nl.up C (Nl.le C h d)
/-! ### differences of a row's tables -/
def dlt (n : Nat) : Fn := fun u => if List.range n = u then 1 else 0
end
end Lt

set_option Elab.async false
set_option linter.all false
set_option maxRecDepth 100000
set_option maxHeartbeats 1000000
/-! from given turns' differences to all differences -/
namespace Lt
open PySem PySem.Spec PyProof.Rows L2
section
variable {gs : List (List Nat)} {n : Nat} {p : Int}
def Ng (gs : List (List Nat)) (n : Nat) (p : Int) : Nat → Fn → Prop
  | 0, φ => ∀ u, Mk gs n u → p ∣ φ u
  | j + 1, φ => ∀ g ∈ gs, Ng gs n p j fun u => Rm g φ u - φ u
theorem cld_mk (hg : ∀ g ∈ gs, IsP n g) {m : Nat} (hf : Few gs n m) : Cld n (Mk gs n) := ⟨fun t ht => ht.isP hg, .still, fun t u a b => a.prod hg b, fun t a => a.inv hg hf⟩
theorem Ng.congr (C : Cld n (Mk gs n)) (hg : ∀ g ∈ gs, Mk gs n g) : ∀ {j : Nat} {φ ψ : Fn}, (∀ u, Mk gs n u → φ u = ψ u) → Ng gs n p j φ → Ng gs n p j ψ
  | 0, φ, ψ, e, h => fun u hu => by rw [← e u hu]; exact h u hu
  | j + 1, φ, ψ, e, h => fun g h1 => Ng.congr C hg (fun u hu => by
      show φ _ - φ u = ψ _ - ψ u
      rw [e _ (C.prod _ _ hu (C.inv _ (hg g h1))), e u hu]) (h g h1)
theorem Ng.add (C : Cld n (Mk gs n)) (hg : ∀ g ∈ gs, Mk gs n g) : ∀ {j : Nat} {φ ψ : Fn}, Ng gs n p j φ → Ng gs n p j ψ → Ng gs n p j fun u => φ u + ψ u
  | 0, φ, ψ, h, k => fun u hu => Int.dvd_add (h u hu) (k u hu)
  | j + 1, φ, ψ, h, k => fun g h1 => Ng.congr C hg (fun u hu => by
      show (φ _ - φ u) + (ψ _ - ψ u) = (φ _ + ψ _) - (φ u + ψ u)
      omega) (Ng.add C hg (h g h1) (k g h1))
theorem Ng.mul (C : Cld n (Mk gs n)) (hg : ∀ g ∈ gs, Mk gs n g) (c : Int) : ∀ {j : Nat} {φ : Fn}, Ng gs n p j φ → Ng gs n p j fun u => c * φ u
  | 0, φ, h => fun u hu => Int.dvd_trans (h u hu) (Int.dvd_mul_left _ _)
  | j + 1, φ, h => fun g h1 => Ng.congr C hg (fun u hu => by
      show c * (φ _ - φ u) = c * φ _ - c * φ u
      rw [Int.mul_sub]) (Ng.mul C hg c (h g h1))
theorem Ng.of_dvd (C : Cld n (Mk gs n)) (hg : ∀ g ∈ gs, Mk gs n g) : ∀ {j : Nat} {φ : Fn}, (∀ u, Mk gs n u → p ∣ φ u) → Ng gs n p j φ
  | 0, φ, h => h
  | j + 1, φ, h => fun g h1 => Ng.of_dvd C hg fun u hu => Int.dvd_sub (h _ (C.prod _ _ hu (C.inv _ (hg g h1)))) (h u hu)
theorem Ng.left (C : Cld n (Mk gs n)) (hg : ∀ g ∈ gs, Mk gs n g) {x : List Nat} (hx : Mk gs n x) : ∀ {j : Nat} {φ : Fn}, Ng gs n p j φ → Ng gs n p j fun u => φ (prod (inv x) u)
  | 0, φ, h => fun u hu => h _ (C.prod _ _ (C.inv _ hx) hu)
  | j + 1, φ, h => fun g h1 => Ng.congr C hg (fun u hu => by
      show φ (prod (prod (inv x) u) (inv g)) - _ = φ (prod (inv x) (prod u (inv g))) - _
      rw [pas _ (C.isP _ hx).inv (C.isP _ hu)]) (Ng.left C hg hx (h g h1))
/-- every function is made of single turns -/
theorem ng_all (C : Cld n (Mk gs n)) (hg : ∀ g ∈ gs, Mk gs n g) {T0 : List (List Nat)} (nd : T0.Nodup) (hT : ∀ u, u ∈ T0 ↔ Mk gs n u) {j : Nat} (h : Ng gs n p j (dlt n)) (φ : Fn) : Ng gs n p j φ := by
  have go : ∀ (L : List (List Nat)), (∀ x ∈ L, Mk gs n x) → Ng gs n p j fun u => (L.map fun x => φ x * (if x = u then 1 else 0)).sum := by
    intro L
    induction L with
    | nil => intro _; exact Ng.of_dvd C hg fun u _ => Int.dvd_zero p
    | cons x L ih =>
      intro hL
      have hx := hL x List.mem_cons_self
      refine Ng.congr C hg (fun u hu => ?_) (Ng.add C hg (Ng.mul C hg (φ x) (Ng.left C hg hx h)) (ih fun y hy => hL y (List.mem_cons_of_mem _ hy)))
      have e : dlt n (prod (inv x) u) = if x = u then 1 else 0 := by
        unfold dlt
        have xP := C.isP _ hx
        have uP := C.isP _ hu
        by_cases z : x = u
        · rw [if_pos z, if_pos (by rw [z, prod_inv_l uP])]
        · rw [if_neg z, if_neg]
          intro y
          have y2 := congrArg (prod x) y
          rw [prod_still_r xP.lt, pc2 xP uP] at y2
          exact z y2
      rw [List.map_cons, List.sum_cons, e]
  refine Ng.congr C hg (fun u hu => ?_) (go T0 fun x hx => (hT x).mp hx)
  have hm : u ∈ T0 := (hT u).mpr hu
  clear hT h go
  induction T0 with
  | nil => cases hm
  | cons x L ih =>
    obtain ⟨h1, h2⟩ := List.nodup_cons.mp nd
    rw [List.map_cons, List.sum_cons]
    have z0 : ∀ (L : List (List Nat)), u ∉ L → (L.map fun x => φ x * (if x = u then 1 else 0)).sum = 0 := by
      intro L
      induction L with
      | nil => intro _; rfl
      | cons y L ih2 =>
        intro hy
        rw [List.map_cons, List.sum_cons, if_neg (fun z => hy (by rw [z]; exact List.mem_cons_self)), ih2 fun z => hy (List.mem_cons_of_mem _ z)]
        omega
    by_cases e : x = u
    · subst e
      rw [if_pos rfl, z0 L h1]
      omega
    · rw [if_neg e, ih h2 ((List.mem_cons.mp hm).resolve_left fun z => e z.symm)]
      omega
/-- what so many differences give -/
inductive Jn (gs : List (List Nat)) (n : Nat) : Nat → Fn → Prop
  | base (φ : Fn) : Jn gs n 0 φ
  | zero (k : Nat) : Jn gs n k fun _ => 0
  | gen {k : Nat} {ψ : Fn} {g : List Nat} : Jn gs n k ψ → g ∈ gs → Jn gs n (k + 1) fun u => Rm g ψ u - ψ u
  | add {k : Nat} {φ ψ : Fn} : Jn gs n k φ → Jn gs n k ψ → Jn gs n k fun u => φ u + ψ u
  | neg {k : Nat} {φ : Fn} : Jn gs n k φ → Jn gs n k fun u => -φ u
  | congr {k : Nat} {φ ψ : Fn} : (∀ u, Mk gs n u → φ u = ψ u) → Jn gs n k φ → Jn gs n k ψ
theorem jn_sec (C : Cld n (Mk gs n)) (hg : ∀ g ∈ gs, Mk gs n g) {k : Nat} {ψ : Fn} (h : ∀ c, Mk gs n c → Jn gs n k (Rm c ψ)) {x : List Nat} (hx : Mk gs n x) : Jn gs n (k + 1) fun u => Rm x ψ u - ψ u := by
  induction hx with
  | still =>
    refine .congr (fun u hu => ?_) (.zero _)
    show 0 = ψ (prod u (inv (List.range n))) - ψ u
    rw [inv_still, prod_still_r (C.isP _ hu).lt]
    omega
  | @step t g ht hgm ih =>
    refine .congr (fun u hu => ?_) (.add (.gen (h t ht) hgm) ih)
    have e : Rm (prod t g) ψ u = Rm g (Rm t ψ) u := (Rm_Rm C (hg g hgm) ht hu).symm
    show (Rm g (Rm t ψ) u - Rm t ψ u) + (Rm t ψ u - ψ u) = Rm (prod t g) ψ u - ψ u
    rw [e]
    omega
theorem jn_tr (C : Cld n (Mk gs n)) (hg : ∀ g ∈ gs, Mk gs n g) {k : Nat} {ψ : Fn} (h : Jn gs n k ψ) : ∀ c, Mk gs n c → Jn gs n k (Rm c ψ) := by
  induction h with
  | base φ => exact fun c _ => .base _
  | zero k => exact fun c _ => .zero k
  | @gen k ψ g hψ hgm ih =>
    intro c hc
    have hgM := hg g hgm
    have hx : Mk gs n (prod (prod (inv c) g) c) := C.prod _ _ (C.prod _ _ (C.inv _ hc) hgM) hc
    have h2 := jn_sec C hg (ψ := Rm c ψ) (fun d hd => .congr (fun u hu => (Rm_Rm C hd hc hu).symm) (ih _ (C.prod _ _ hc hd))) hx
    refine .congr (fun u hu => ?_) h2
    have cP := C.isP _ hc
    have gP := C.isP _ hgM
    have e1 : Rm (prod (prod (inv c) g) c) (Rm c ψ) u = Rm (prod g c) ψ u := by
      rw [Rm_Rm C hx hc hu]
      congr 1
      rw [pas c (cP.inv) gP, pc2 cP (gP.prod cP)]
    have e2 : Rm c (Rm g ψ) u = Rm (prod g c) ψ u := Rm_Rm C hc hgM hu
    show Rm (prod (prod (inv c) g) c) (Rm c ψ) u - Rm c ψ u = Rm c (Rm g ψ) u - Rm c ψ u
    rw [e1, e2]
  | add _ _ i1 i2 => exact fun c hc => .add (i1 c hc) (i2 c hc)
  | neg _ i1 => exact fun c hc => .neg (i1 c hc)
  | congr e _ i1 => exact fun c hc => .congr (fun u hu => e _ (C.prod _ _ hu (C.inv _ hc))) (i1 c hc)
theorem jn_ng (C : Cld n (Mk gs n)) (hg : ∀ g ∈ gs, Mk gs n g) {m : Nat} (A : ∀ φ, Ng gs n p m φ) {k : Nat} {ψ : Fn} (h : Jn gs n k ψ) : ∀ j, k + j = m → Ng gs n p j ψ := by
  induction h with
  | base φ => intro j e; rw [Nat.zero_add] at e; rw [e]; exact A φ
  | zero k => intro j _; exact Ng.of_dvd C hg fun u _ => Int.dvd_zero p
  | gen hψ hgm ih => intro j e; exact ih (j + 1) (by omega) _ hgm
  | add _ _ i1 i2 => intro j e; exact Ng.add C hg (i1 j e) (i2 j e)
  | neg _ i1 => intro j e; exact Ng.congr C hg (fun u _ => by show (-1) * _ = _; omega) (Ng.mul C hg (-1) (i1 j e))
  | congr e0 _ i1 => intro j e; exact Ng.congr C hg e0 (i1 j e)
theorem jn_nl (C : Cld n (Mk gs n)) (hg : ∀ g ∈ gs, Mk gs n g) {m : Nat} (Z : ∀ ψ, Jn gs n m ψ → ∀ u, Mk gs n u → p ∣ ψ u) : ∀ (j k : Nat) (ψ : Fn), Jn gs n k ψ → k + j = m → Nl (Mk gs n) p j ψ
  | 0, k, ψ, h, e => fun u hu => Z ψ (by rw [← e]; exact h) u hu
  | j + 1, k, ψ, h, e => fun a b ha hb => by
    have A := jn_sec C hg (jn_tr C hg h) ha
    have Bq := jn_sec C hg (jn_tr C hg h) hb
    exact jn_nl C hg Z j (k + 1) _ (.congr (fun u _ => by
      show (Rm a ψ u - ψ u) + -(Rm b ψ u - ψ u) = Rm a ψ u - Rm b ψ u
      omega) (.add A (.neg Bq))) (by omega)
theorem nl_of_ng {mf : Nat} (hP : ∀ g ∈ gs, IsP n g) (hf : Few gs n mf) {T0 : List (List Nat)} (nd : T0.Nodup) (hT : ∀ u, u ∈ T0 ↔ Mk gs n u) {m : Nat} (h : Ng gs n p m (dlt n)) : Nl (Mk gs n) p m (dlt n) := by
  have C := cld_mk hP hf
  have hg : ∀ g ∈ gs, Mk gs n g := fun g h => .one hP h
  have A := ng_all C hg nd hT h
  exact jn_nl C hg (fun ψ hψ => jn_ng (m := m) C hg A hψ 0 (Nat.add_zero m)) m 0 _ (.base _) (by omega)
/-- called otherwise -/
theorem ng_cj {s : List Nat} {ls : List (List Nat)} {mf : Nat} (hs : IsP n s) (hP : ∀ g ∈ gs, IsP n g) (hf : Few gs n mf) (e : ls = gs.map (cj s)) : ∀ {j : Nat} {φ : Fn}, Ng gs n p j φ → Ng ls n p j fun u => φ (cj (inv s) u) := by
  have hls : Rn s n ls gs := by rw [e]; exact Rn.of_map hP
  have lP := hls.p' hs
  have back : ∀ u, Mk ls n u → Mk gs n (cj (inv s) u) := fun u hu => by
    obtain ⟨t, ht, rfl⟩ := (hls.mk2 hs).mp hu
    rw [cjCj2 hs (ht.isP hP)]
    exact ht
  intro j
  induction j with
  | zero => exact fun {φ} h u hu => h _ (back u hu)
  | succ j ih =>
    intro φ h g' hg'
    obtain ⟨g, hg, rfl⟩ := (hls.e g').mp hg'
    refine Ng.congr (cld_mk lP (hls.few hs hf)) (fun g h => .one lP h) (fun u hu => ?_) (ih (h g hg))
    have uP := hu.isP lP
    have gP := hP g hg
    show φ (prod (cj (inv s) u) (inv g)) - _ = φ (cj (inv s) (prod u (inv (cj s g)))) - _
    rw [cj_prod hs.inv uP (cj_isP hs gP).inv, ← cj_inv hs gP, cjCj2 hs gP.inv]
/-! ### the check -/
def nilB (p : Nat) (ps : List (List Nat)) : Nat → List Int → Bool
  | 0, v => v.all fun c => c % p == 0
  | j + 1, v => (v.all fun c => c % p == 0) || ps.all fun q => nilB p ps j ((q.zip v).map fun x => v.getD x.1 0 - x.2)
theorem nilB_ok {T : List (List Nat)} {pN : Nat} {mf : Nat} (hP : ∀ g ∈ gs, IsP n g) (hf : Few gs n mf) (hT : ∀ u, u ∈ T ↔ Mk gs n u) : ∀ (j : Nat) (φ : Fn), nilB pN (gs.map fun g => T.map fun u => T.idxOf (prod u (inv g))) j (T.map φ) = true → Ng gs n pN j φ := by
  have C := cld_mk hP hf
  have hg : ∀ g ∈ gs, Mk gs n g := fun g h => .one hP h
  have dv : ∀ φ : Fn, ((T.map φ).all fun c => c % (pN : Int) == 0) = true → ∀ u, Mk gs n u → (pN : Int) ∣ φ u := fun φ h u hu => by
    have := List.all_eq_true.mp h (φ u) (List.mem_map.mpr ⟨u, (hT u).mpr hu, rfl⟩)
    exact Int.dvd_of_emod_eq_zero (by simpa using this)
  intro j
  induction j with
  | zero => exact fun φ h => dv φ h
  | succ j ih =>
    intro φ h
    unfold nilB at h
    rw [Bool.or_eq_true] at h
    rcases h with h | h
    · exact Ng.of_dvd C hg (dv φ h)
    · intro g hgm
      have z := List.all_eq_true.mp h _ (List.mem_map.mpr ⟨g, hgm, rfl⟩)
      refine ih _ ?_
      rw [← z]
      congr 1
      apply List.ext_getElem?
      intro i
      rw [List.getElem?_map, List.getElem?_map]
      by_cases hi : i < T.length
      · have e1 : T[i]? = some T[i] := List.getElem?_eq_getElem hi
        have hu : Mk gs n T[i] := (hT _).mp (List.getElem_mem hi)
        have hm : prod T[i] (inv g) ∈ T := (hT _).mpr (C.prod _ _ hu (C.inv _ (hg g hgm)))
        have e2 : ((T.map fun u => T.idxOf (prod u (inv g))).zip (T.map φ))[i]? = some (T.idxOf (prod T[i] (inv g)), φ T[i]) := List.getElem?_zip_eq_some.mpr ⟨by rw [List.getElem?_map, e1]; rfl, by rw [List.getElem?_map, e1]; rfl⟩
        rw [e1, e2]
        have hx := List.idxOf_lt_length_of_mem hm
        have e3 : (T.map φ).getD (T.idxOf (prod T[i] (inv g))) 0 = φ (prod T[i] (inv g)) := by
          rw [List.getD_eq_getElem?_getD, List.getElem?_map, List.getElem?_eq_getElem hx, List.getElem_idxOf hx]
          rfl
        show some (φ (prod T[i] (inv g)) - φ T[i]) = some ((T.map φ).getD (T.idxOf (prod T[i] (inv g))) 0 - φ T[i])
        rw [e3]
      · rw [List.getElem?_eq_none (by omega), List.getElem?_eq_none (by rw [List.length_zip, List.length_map, List.length_map]; omega)]
        rfl
def nilT (b : Bas) : Bool := (fun T => nilB b.p (b.gs.map fun g => T.map fun u => T.idxOf (prod u (inv g))) (b.told + 1) (T.map (dlt b.n))) ((LL b.gs b.n).map (·.1))
end
end Lt

set_option Elab.async false
set_option linter.all false
set_option maxRecDepth 100000
set_option maxHeartbeats 2000000
/-! the told degree of each base lock, and of those called otherwise -/
namespace Lt
open PySem PySem.Spec PyProof.Rows L2
theorem basL_nil : basL.all nilT = true := by decide +kernel
theorem basL_dies : (basL.all fun b => decide (b.Ts.getLast?.map List.length = some 1)) = true := by decide +kernel
structure BasN (ls : List (List Nat)) (n p told : Nat) : Prop where
  b : BasF ls n p told
  dies : ∀ T0 Ts A, T0.Nodup → (∀ t, t ∈ T0 ↔ Mk ls n t) → Ser ls n T0 Ts → Ts.getLast? = some A → A.length = 1
  nl : Nl (Mk ls n) p (told + 1) (dlt n)
theorem dlt_cj {s : List Nat} {n : Nat} (hs : IsP n s) {u : List Nat} (uP : IsP n u) : dlt n (cj (inv s) u) = dlt n u := by
  unfold dlt
  by_cases z : List.range n = u
  · rw [if_pos z, if_pos]
    rw [← z, cj_still hs.inv]
  · rw [if_neg z, if_neg]
    intro y
    rw [← cj_still (n := n) hs.inv] at y
    exact z (cj_inj hs.inv (IsP.still n) uP y)
theorem bas_lockN {b : Bas} (hb : b ∈ basL) {s : List Nat} {n : Nat} {ls : List (List Nat)} (en : b.n = n) (hs : IsP n s) (e : ls = b.gs.map (cj s)) : BasN ls n b.p b.told := by
  have B := bas_lock hb en hs e
  subst en
  obtain ⟨gP, gq, gne⟩ := basL_P b hb
  have hf : Few b.gs b.n 60 := few_of gq
  have hls : Rn s b.n ls b.gs := by rw [e]; exact Rn.of_map gP
  have lsP := hls.p' hs
  have lsF := hls.few hs hf
  have hk : nilT b = true := List.all_eq_true.mp basL_nil b hb
  have hT : ∀ u, u ∈ (LL b.gs b.n).map (·.1) ↔ Mk b.gs b.n u := fun u => LL_mem hf (by decide) u
  have h0 : Ng b.gs b.n b.p (b.told + 1) (dlt b.n) := nilB_ok gP hf hT _ _ hk
  have h1 := ng_cj hs gP hf e h0
  have C := cld_mk lsP lsF
  have h2 : Ng ls b.n b.p (b.told + 1) (dlt b.n) := Ng.congr C (fun g h => .one lsP h) (fun u hu => dlt_cj hs (hu.isP lsP)) h1
  refine ⟨B, fun T0 Ts A nd mem hser hA => ?_, ?_⟩
  · have hk := chRow_base hb
    unfold Bas.ok at hk
    simp only [Bool.and_eq_true, decide_eq_true_iff] at hk
    obtain ⟨⟨⟨_, h2⟩, _⟩, _⟩ := hk
    have hp := ser_rn hs gP hf hls mem nd hser
    have hp : Paired (Rn s b.n) Ts b.Ts := by
      rw [← h2]
      exact hp
    have hd := of_decide_eq_true (List.all_eq_true.mp basL_dies b hb)
    have l := Paired.length hp
    rw [List.getLast?_eq_getElem?] at hA
    obtain ⟨A', hA', r⟩ := Paired.getL hp hA
    rw [List.getLast?_eq_getElem?, ← l, hA'] at hd
    obtain ⟨x, rfl⟩ := List.length_eq_one_iff.mp (Option.some.inj hd)
    have ndA := (ser_len lsP lsF mem nd hser _ A hA).2.1
    exact r.len hs ndA (List.nodup_cons.mpr ⟨(fun z => nomatch z), List.nodup_nil⟩)
  · exact nl_of_ng lsP lsF (T0 := (LL ls b.n).map (·.1)) (LL_nd ls b.n) (fun u => LL_mem lsF (by decide) u) h2

end Lt

set_option Elab.async false
set_option linter.all false
set_option maxRecDepth 100000
set_option maxHeartbeats 2000000
/-! the told number is the least: as many differences as it do not take all to nothing -/
namespace Lt
open PySem PySem.Spec PyProof.Rows L2
/-- the check finds it -/
theorem nilB_all {gs : List (List Nat)} {n : Nat} {T : List (List Nat)} {pN mf : Nat} (hP : ∀ g ∈ gs, IsP n g) (hf : Few gs n mf) (hT : ∀ u, u ∈ T ↔ Mk gs n u) : ∀ (j : Nat) (φ : Fn), Ng gs n pN j φ → nilB pN (gs.map fun g => T.map fun u => T.idxOf (prod u (inv g))) j (T.map φ) = true := by
  have C := cld_mk hP hf
  have hg : ∀ g ∈ gs, Mk gs n g := fun g h => .one hP h
  intro j
  induction j with
  | zero =>
    intro φ h
    show ((T.map φ).all fun c => c % (pN : Int) == 0) = true
    rw [List.all_eq_true]
    intro c hc
    obtain ⟨u, hu, rfl⟩ := List.mem_map.mp hc
    exact beq_iff_eq.mpr (Int.emod_eq_zero_of_dvd (h u ((hT u).mp hu)))
  | succ j ih =>
    intro φ h
    unfold nilB
    rw [Bool.or_eq_true]
    refine .inr (List.all_eq_true.mpr fun q hq => ?_)
    obtain ⟨g, hgm, rfl⟩ := List.mem_map.mp hq
    have z := ih _ (h g hgm)
    rw [← z]
    congr 1
    apply List.ext_getElem?
    intro i
    rw [List.getElem?_map, List.getElem?_map]
    by_cases hi : i < T.length
    · have e1 : T[i]? = some T[i] := List.getElem?_eq_getElem hi
      have hu : Mk gs n T[i] := (hT _).mp (List.getElem_mem hi)
      have hm : prod T[i] (inv g) ∈ T := (hT _).mpr (C.prod _ _ hu (C.inv _ (hg g hgm)))
      have e2 : ((T.map fun u => T.idxOf (prod u (inv g))).zip (T.map φ))[i]? = some (T.idxOf (prod T[i] (inv g)), φ T[i]) := List.getElem?_zip_eq_some.mpr ⟨by rw [List.getElem?_map, e1]; rfl, by rw [List.getElem?_map, e1]; rfl⟩
      rw [e1, e2]
      have hx := List.idxOf_lt_length_of_mem hm
      have e3 : (T.map φ).getD (T.idxOf (prod T[i] (inv g))) 0 = φ (prod T[i] (inv g)) := by
        rw [List.getD_eq_getElem?_getD, List.getElem?_map, List.getElem?_eq_getElem hx, List.getElem_idxOf hx]
        rfl
      show some ((T.map φ).getD (T.idxOf (prod T[i] (inv g))) 0 - φ T[i]) = some (φ (prod T[i] (inv g)) - φ T[i])
      rw [e3]
    · rw [List.getElem?_eq_none (by rw [List.length_zip, List.length_map, List.length_map]; omega), List.getElem?_eq_none (by omega)]
      rfl
def nilT0 (b : Bas) : Bool := (fun T => !nilB b.p (b.gs.map fun g => T.map fun u => T.idxOf (prod u (inv g))) b.told (T.map (dlt b.n))) ((LL b.gs b.n).map (·.1))
theorem basL_low : basL.all nilT0 = true := by decide +kernel
structure BasM (ls : List (List Nat)) (n p told : Nat) : Prop where
  b : BasN ls n p told
  hi : Ng ls n p (told + 1) (dlt n)
  lo : ¬ Ng ls n p told (dlt n)
theorem bas_lockM {b : Bas} (hb : b ∈ basL) {s : List Nat} {n : Nat} {ls : List (List Nat)} (en : b.n = n) (hs : IsP n s) (e : ls = b.gs.map (cj s)) : BasM ls n b.p b.told := by
  have B := bas_lockN hb en hs e
  subst en
  obtain ⟨gP, gq, gne⟩ := basL_P b hb
  have hf : Few b.gs b.n 60 := few_of gq
  have hls : Rn s b.n ls b.gs := by rw [e]; exact Rn.of_map gP
  have lsP := hls.p' hs
  have lsF := hls.few hs hf
  have hk : nilT b = true := List.all_eq_true.mp basL_nil b hb
  have hk0 : nilT0 b = true := List.all_eq_true.mp basL_low b hb
  have hT : ∀ u, u ∈ (LL b.gs b.n).map (·.1) ↔ Mk b.gs b.n u := fun u => LL_mem hf (by decide) u
  have h0 : Ng b.gs b.n b.p (b.told + 1) (dlt b.n) := nilB_ok gP hf hT _ _ hk
  have C := cld_mk lsP lsF
  have Cg := cld_mk gP hf
  have h2 : Ng ls b.n b.p (b.told + 1) (dlt b.n) := Ng.congr C (fun g h => .one lsP h) (fun u hu => dlt_cj hs (hu.isP lsP)) (ng_cj hs gP hf e h0)
  refine ⟨B, h2, fun h => ?_⟩
  have back : b.gs = ls.map (cj (inv s)) := by
    rw [e, List.map_map]
    exact (List.map_id _).symm.trans (List.map_congr_left fun x hx => (cjCj2 hs (gP x hx)).symm)
  have h3 := ng_cj hs.inv lsP lsF back h
  have h4 : Ng b.gs b.n b.p b.told (dlt b.n) := Ng.congr Cg (fun g h => .one gP h) (fun u hu => dlt_cj hs.inv (hu.isP gP)) h3
  have h5 := nilB_all gP hf hT _ _ h4
  have h6 : (!nilB b.p (b.gs.map fun g => ((LL b.gs b.n).map (·.1)).map fun u => ((LL b.gs b.n).map (·.1)).idxOf (prod u (inv g))) b.told (((LL b.gs b.n).map (·.1)).map (dlt b.n))) = true := hk0
  rw [h5] at h6
  cases h6
end Lt

set_option Elab.async false
set_option linter.all false
set_option maxRecDepth 100000
set_option maxHeartbeats 1000000
/-! k07: rows made few, mathematics: what is kept by all that the reduction does -/
namespace Lt
open PySem PySem.Spec PyProof.Rows L2
section
variable {p : Int} {N : Nat}
/-- one row less another one so many times -/
def axp (p : Int) (c : Int) (a b : List Int) : List Int := (a.zip b).map fun x => (x.1 - c * x.2) % p
def scl (p : Int) (c : Int) (a : List Int) : List Int := a.map fun x => c * x % p
/-- kept by sums and multiples -/
structure Lin (p : Int) (N : Nat) (L : List Int → Prop) : Prop where
  axp : ∀ c a b, a.length = N → b.length = N → L a → L b → L (Lt.axp p c a b)
  scl : ∀ c a, a.length = N → L a → L (Lt.scl p c a)
  red : ∀ a, a.length = N → L (a.map (· % p)) → L a
  zero : ∀ a, a.length = N → (∀ x ∈ a, x = 0) → L a
def redOne (p : Int) (found : List (Nat × List Int)) (one : List Int) : List Int := found.foldl (fun one f => if one.getD f.1 0 ≠ 0 then axp p (one.getD f.1 0) one f.2 else one) one
theorem axp_len {c : Int} {a b : List Int} (ha : a.length = N) (hb : b.length = N) : (axp p c a b).length = N := by
  unfold axp
  rw [List.length_map, List.length_zip, ha, hb, Nat.min_self]
theorem axp_back {c : Int} {a b : List Int} (ha : a.length = N) (hb : b.length = N) : axp p (-c) (axp p c a b) b = a.map (· % p) := by
  unfold axp
  apply List.ext_getElem?
  intro i
  by_cases hi : i < N
  · have e1 : a[i]? = some (a[i]'(by omega)) := List.getElem?_eq_getElem _
    have e2 : b[i]? = some (b[i]'(by omega)) := List.getElem?_eq_getElem _
    have z1 : (a.zip b)[i]? = some (a[i]'(by omega), b[i]'(by omega)) := List.getElem?_zip_eq_some.mpr ⟨e1, e2⟩
    have z2 : (((a.zip b).map fun x => (x.1 - c * x.2) % p).zip b)[i]? = some ((a[i]'(by omega) - c * b[i]'(by omega)) % p, b[i]'(by omega)) := List.getElem?_zip_eq_some.mpr ⟨by rw [List.getElem?_map, z1]; rfl, e2⟩
    rw [List.getElem?_map, z2, List.getElem?_map, e1]
    show some (((a[i]'(by omega) - c * b[i]'(by omega)) % p - -c * b[i]'(by omega)) % p) = some (a[i]'(by omega) % p)
    congr 1
    generalize a[i]'(by omega) = x
    generalize b[i]'(by omega) = y
    rw [Int.emod_sub_emod]
    congr 1
    rw [Int.neg_mul]
    omega
  · rw [List.getElem?_eq_none (by rw [List.length_map, List.length_zip, List.length_map, List.length_zip]; omega), List.getElem?_eq_none (by rw [List.length_map]; omega)]
theorem lin_axp {L : List Int → Prop} (h : Lin p N L) {c : Int} {a b : List Int} (ha : a.length = N) (hb : b.length = N) (lb : L b) : L (axp p c a b) ↔ L a := by
  refine ⟨fun z => h.red a ha ?_, fun z => h.axp c a b ha hb z lb⟩
  rw [← axp_back (c := c) ha hb]
  exact h.axp _ _ _ (axp_len ha hb) hb z lb
theorem redOne_len : ∀ (found : List (Nat × List Int)) (one : List Int), (∀ f ∈ found, f.2.length = N) → one.length = N → (redOne p found one).length = N
  | [], _, _, h => h
  | f :: r, one, hf, h => by
    unfold redOne
    rw [List.foldl_cons]
    refine redOne_len r _ (fun g hg => hf g (List.mem_cons_of_mem _ hg)) ?_
    split
    · exact axp_len h (hf f List.mem_cons_self)
    · exact h
theorem lin_redOne {L : List Int → Prop} (h : Lin p N L) : ∀ (found : List (Nat × List Int)) (one : List Int), (∀ f ∈ found, f.2.length = N ∧ L f.2) → one.length = N → (L (redOne p found one) ↔ L one)
  | [], _, _, _ => Iff.rfl
  | f :: r, one, hf, ho => by
    unfold redOne
    rw [List.foldl_cons]
    obtain ⟨f1, f2⟩ := hf f List.mem_cons_self
    refine (lin_redOne h r _ (fun g hg => hf g (List.mem_cons_of_mem _ hg)) ?_).trans ?_
    · split
      · exact axp_len ho f1
      · exact ho
    · split
      · exact lin_axp h ho f1 f2
      · exact Iff.rfl
theorem scl_len {c : Int} {a : List Int} : (scl p c a).length = a.length := by unfold scl; rw [List.length_map]
theorem scl_back {k x : Int} (h : k * x % p = 1 % p) (a : List Int) : scl p x (scl p k a) = a.map (· % p) := by
  unfold scl
  rw [List.map_map]
  refine List.map_congr_left fun y _ => ?_
  show x * (k * y % p) % p = y % p
  rw [Int.mul_emod, Int.emod_emod, ← Int.mul_emod, ← Int.mul_assoc, Int.mul_emod, Int.mul_comm x k, h, ← Int.mul_emod, Int.one_mul]
theorem lin_scl {L : List Int → Prop} (h : Lin p N L) {k x : Int} (hk : k * x % p = 1 % p) {a : List Int} (ha : a.length = N) : L (scl p k a) ↔ L a := by
  refine ⟨fun z => h.red a ha ?_, fun z => h.scl k a ha z⟩
  rw [← scl_back hk]
  exact h.scl _ _ (scl_len.trans ha) z
end
/-- the turned number -/
def invN (p : Nat) (x : Int) : Nat := ((List.range' 1 (p - 1)).filter fun k : Nat => decide ((k : Int) * x % (p : Int) = 1)).headD 0
def invP (p : Nat) (x : Int) : Int := ((invN p x : Nat) : Int)
theorem invP_ok {p : Nat} (hp : p ∈ primes) {x : Int} (h0 : 0 ≤ x) (h1 : x < p) (hx : x ≠ 0) : invP p x * x % p = 1 := by
  have all : ∀ p ∈ primes, ∀ y, y < p → y ≠ 0 → invP p (y : Nat) * ((y : Nat) : Int) % (p : Int) = 1 := by decide +kernel
  obtain ⟨y, rfl⟩ := Int.eq_ofNat_of_zero_le h0
  exact all p hp y (by omega) (by omega)
def leadL (one : List Int) : List Nat := (List.range one.length).filter fun i => decide (one.getD i 0 ≠ 0)
def redStep (p : Nat) (found : List (Nat × List Int)) (one : List Int) : List (Nat × List Int) := match leadL (redOne p found one) with
  | [] => found
  | k :: _ => found ++ [(k, scl p (invP p ((redOne p found one).getD k 0)) (redOne p found one))]
def redM (p : Nat) (rows : List (List Int)) : List (Nat × List Int) := rows.foldl (redStep p) []
theorem lead_nil {one : List Int} (h : leadL one = []) : ∀ x ∈ one, x = 0 := fun x hx => by
  obtain ⟨i, hi, rfl⟩ := List.mem_iff_getElem.mp hx
  refine Classical.byContradiction fun hn => ?_
  have : i ∈ leadL one := List.mem_filter.mpr ⟨List.mem_range.mpr hi, decide_eq_true (by rw [List.getD_eq_getElem?_getD, List.getElem?_eq_getElem hi]; exact hn)⟩
  rw [h] at this
  cases this
theorem lead_cons {one : List Int} {k : Nat} {r : List Nat} (h : leadL one = k :: r) : k < one.length ∧ one.getD k 0 ≠ 0 := by
  have : k ∈ leadL one := by rw [h]; exact List.mem_cons_self
  obtain ⟨a, b⟩ := List.mem_filter.mp this
  exact ⟨List.mem_range.mp a, of_decide_eq_true b⟩
/-- numbers below p -/
def Bel (p : Nat) (a : List Int) : Prop := ∀ x ∈ a, 0 ≤ x ∧ x < p
theorem Bel.axp {p : Nat} (hp : 0 < p) {c : Int} {a b : List Int} : Bel p (Lt.axp p c a b) := fun x hx => by
  obtain ⟨y, _, rfl⟩ := List.mem_map.mp hx
  exact ⟨Int.emod_nonneg _ (by omega), Int.emod_lt_of_pos _ (by omega)⟩
theorem Bel.scl {p : Nat} (hp : 0 < p) {c : Int} {a : List Int} : Bel p (Lt.scl p c a) := fun x hx => by
  obtain ⟨y, _, rfl⟩ := List.mem_map.mp hx
  exact ⟨Int.emod_nonneg _ (by omega), Int.emod_lt_of_pos _ (by omega)⟩
theorem Bel.redOne {p : Nat} (hp : 0 < p) : ∀ (found : List (Nat × List Int)) (one : List Int), Bel p one → Bel p (Lt.redOne p found one)
  | [], _, h => h
  | f :: r, one, h => by
    unfold Lt.redOne
    rw [List.foldl_cons]
    refine Bel.redOne hp r _ ?_
    split
    · exact Bel.axp hp
    · exact h
/-- what is known of the rows that are left -/
def FOk (p N : Nat) (found : List (Nat × List Int)) : Prop := ∀ f ∈ found, f.2.length = N ∧ Bel p f.2 ∧ f.1 < N ∧ f.2.getD f.1 0 = 1
theorem redStep_ok {p N : Nat} (hp : p ∈ primes) {found : List (Nat × List Int)} {one : List Int} (hf : FOk p N found) (ho : one.length = N) (hb : Bel p one) : FOk p N (redStep p found one) := by
  have p0 : 0 < p := by have := (prime_in hp).2.1; omega
  have lo := redOne_len (p := p) found one (fun f h => (hf f h).1) ho
  have bo := Bel.redOne p0 found one hb
  unfold redStep
  split
  · exact hf
  · rename_i k r hk
    obtain ⟨k1, k2⟩ := lead_cons hk
    intro f hm
    rcases List.mem_append.mp hm with z | z
    · exact hf f z
    · rw [List.mem_singleton.mp z]
      refine ⟨scl_len.trans lo, Bel.scl p0, by rw [← lo]; exact k1, ?_⟩
      have e : (redOne p found one)[k]? = some ((redOne p found one)[k]'k1) := List.getElem?_eq_getElem k1
      have hx : (redOne p found one).getD k 0 = (redOne p found one)[k]'k1 := by rw [List.getD_eq_getElem?_getD, e]; rfl
      obtain ⟨b0, b1⟩ := bo _ (List.getElem_mem k1)
      rw [hx] at k2
      show (scl p _ (redOne p found one)).getD k 0 = 1
      unfold scl
      rw [List.getD_eq_getElem?_getD, List.getElem?_map, e, hx]
      exact invP_ok hp b0 b1 k2
theorem redStep_lin {p N : Nat} (hp : p ∈ primes) {L : List Int → Prop} (h : Lin p N L) {found : List (Nat × List Int)} {one : List Int} (hf : FOk p N found) (ho : one.length = N) (hb : Bel p one) :
    (∀ f ∈ redStep p found one, L f.2) ↔ (∀ f ∈ found, L f.2) ∧ L one := by
  have p0 : 0 < p := by have := (prime_in hp).2.1; omega
  have p2 := (prime_in hp).2.1
  have lo := redOne_len (p := p) found one (fun f h => (hf f h).1) ho
  have bo := Bel.redOne p0 found one hb
  unfold redStep
  split
  · rename_i hk
    refine ⟨fun z => ⟨z, ?_⟩, fun z => z.1⟩
    exact (lin_redOne h found one (fun f hm => ⟨(hf f hm).1, z f hm⟩) ho).mp (h.zero _ lo (lead_nil hk))
  · rename_i k r hk
    obtain ⟨k1, k2⟩ := lead_cons hk
    have hx : (redOne p found one).getD k 0 = (redOne p found one)[k]'k1 := by rw [List.getD_eq_getElem?_getD, List.getElem?_eq_getElem k1]; rfl
    obtain ⟨b0, b1⟩ := bo _ (List.getElem_mem k1)
    rw [← hx] at b0 b1
    have hi : invP p ((redOne p found one).getD k 0) * (redOne p found one).getD k 0 % (p : Int) = 1 % (p : Int) := by
      rw [invP_ok hp b0 b1 k2]
      exact (Int.emod_eq_of_lt (by omega) (by omega)).symm
    constructor
    · intro z
      have z1 : ∀ f ∈ found, L f.2 := fun f hm => z f (List.mem_append_left _ hm)
      exact ⟨z1, (lin_redOne h found one (fun f hm => ⟨(hf f hm).1, z1 f hm⟩) ho).mp ((lin_scl h hi lo).mp (z _ (List.mem_append_right _ List.mem_cons_self)))⟩
    · rintro ⟨z1, z2⟩ f hm
      rcases List.mem_append.mp hm with y | y
      · exact z1 f y
      · rw [List.mem_singleton.mp y]
        exact (lin_scl h hi lo).mpr ((lin_redOne h found one (fun f hm => ⟨(hf f hm).1, z1 f hm⟩) ho).mpr z2)
theorem redM_go {p N : Nat} (hp : p ∈ primes) {L : List Int → Prop} (h : Lin p N L) : ∀ (rows : List (List Int)) (found : List (Nat × List Int)), FOk p N found → (∀ r ∈ rows, r.length = N ∧ Bel p r) →
    FOk p N (rows.foldl (redStep p) found) ∧ ((∀ f ∈ rows.foldl (redStep p) found, L f.2) ↔ (∀ f ∈ found, L f.2) ∧ ∀ r ∈ rows, L r)
  | [], found, hf, _ => ⟨hf, fun z => ⟨z, fun r hr => by cases hr⟩, fun z => z.1⟩
  | one :: rows, found, hf, hr => by
    obtain ⟨o1, o2⟩ := hr one List.mem_cons_self
    rw [List.foldl_cons]
    obtain ⟨a, b⟩ := redM_go hp h rows _ (redStep_ok hp hf o1 o2) fun r hm => hr r (List.mem_cons_of_mem _ hm)
    refine ⟨a, b.trans ?_⟩
    rw [redStep_lin hp h hf o1 o2]
    exact ⟨fun ⟨⟨x, y⟩, z⟩ => ⟨x, fun r hm => by
      rcases List.mem_cons.mp hm with e | e
      · rw [e]; exact y
      · exact z r e⟩, fun ⟨x, y⟩ => ⟨⟨x, y one List.mem_cons_self⟩, fun r hm => y r (List.mem_cons_of_mem _ hm)⟩⟩
/-- the rows that are left span what all rows span -/
theorem redM_lin {p N : Nat} (hp : p ∈ primes) {L : List Int → Prop} (h : Lin p N L) {rows : List (List Int)} (hr : ∀ r ∈ rows, r.length = N ∧ Bel p r) : FOk p N (redM p rows) ∧ ((∀ f ∈ redM p rows, L f.2) ↔ ∀ r ∈ rows, L r) := by
  obtain ⟨a, b⟩ := redM_go hp h rows [] (fun f hm => by cases hm) hr
  exact ⟨a, b.trans ⟨fun z => z.2, fun z => ⟨(fun f hm => by cases hm), z⟩⟩⟩
end Lt

set_option Elab.async false
set_option linter.all false
set_option maxRecDepth 100000
set_option maxHeartbeats 2000000
/-! k07: the law's rows made few, the text -/
namespace Lt
open PySem PySem.Spec PyProof.Rows L2
section
variable {P : Program} {w : World} {K : PySem.W.Frag} {mg : Str → Option Value} {base : Heap}
/-- a list of ints -/
def LI (H : Hp) (v : V) (a : List Int) : Prop := ∃ l, v = .ref l ∧ H l = some (.lst (a.map V.int))
theorem LI.same {H H' : Hp} {v : V} {a : List Int} (s : Same H H') (h : LI H v a) : LI H' v a := let ⟨l, e, h1⟩ := h; ⟨l, e, s _ _ h1⟩
def spReduced : Sp := fun vs H Q _ => ∃ (p N : Nat) (rl : Addr) (xs : List V) (rows : List (List Int)), vs = [nI p, .ref rl] ∧ p ∈ primes ∧ N ≤ 64 ∧ H rl = some (.lst xs) ∧ Paired (LI H) xs rows ∧ rows.length ≤ 1000 ∧ (∀ r ∈ rows, r.length = N ∧ Bel p r) ∧
  ∀ l H' ys, Same H H' → H l = none → H' l = some (.lst ys) → Paired (LI H') ys ((redM p rows).map (·.2)) → Q (.ref l) H'
abbrev rdN : List Str := ["prime_v", "rows", "found", "one", "lead", "own", "factor", "leads", "turned", "left", "right", "place", "number"]
theorem sc_law_reduced : FnScope rdN ["prime_v", "rows"] (defScope s_law_reduced) := ⟨rfl, rfl, rfl, by decide +kernel, rfl, by decide +kernel, by decide +kernel⟩
end
end Lt

set_option Elab.async false
set_option linter.all false
set_option maxRecDepth 100000
set_option maxHeartbeats 1000000
/-! k07: as many differences as the law counts, mathematics -/
namespace Lt
open PySem PySem.Spec PyProof.Rows L2
section
variable {gs : List (List Nat)} {n : Nat} {p : Int}
theorem Ng.mod (C : Cld n (Mk gs n)) (hg : ∀ g ∈ gs, Mk gs n g) {j : Nat} {φ ψ : Fn} (e : ∀ u, Mk gs n u → p ∣ ψ u - φ u) (h : Ng gs n p j φ) : Ng gs n p j ψ :=
  Ng.congr C hg (fun u _ => by show φ u + (ψ u - φ u) = ψ u; omega) (Ng.add C hg h (Ng.of_dvd C hg e))
theorem Ng.succ (C : Cld n (Mk gs n)) (hg : ∀ g ∈ gs, Mk gs n g) : ∀ {j : Nat} {φ : Fn}, Ng gs n p j φ → Ng gs n p (j + 1) φ
  | 0, φ, h => fun g h1 u hu => Int.dvd_sub (h _ (C.prod _ _ hu (C.inv _ (hg g h1)))) (h u hu)
  | j + 1, φ, h => fun g h1 => Ng.succ C hg (h g h1)
theorem Ng.le (C : Cld n (Mk gs n)) (hg : ∀ g ∈ gs, Mk gs n g) {j k : Nat} {φ : Fn} (l : j ≤ k) (h : Ng gs n p j φ) : Ng gs n p k φ := by
  induction l with
  | refl => exact h
  | step _ ih => exact Ng.succ C hg ih
theorem Ng.rm (C : Cld n (Mk gs n)) (hg : ∀ g ∈ gs, Mk gs n g) {j : Nat} {φ : Fn} (h : Ng gs n p j φ) {g : List Nat} (h1 : g ∈ gs) : Ng gs n p j (Rm g φ) :=
  Ng.congr C hg (fun u _ => by show φ u + (Rm g φ u - φ u) = Rm g φ u; omega) (Ng.add C hg h (Ng.succ C hg h g h1))
theorem ng_any (C : Cld n (Mk gs n)) (hg : ∀ g ∈ gs, Mk gs n g) {j : Nat} {φ : Fn} (h : Ng gs n p (j + 1) φ) {t : List Nat} (ht : Mk gs n t) : Ng gs n p j fun u => Rm t φ u - φ u := by
  induction ht with
  | still =>
    refine Ng.of_dvd C hg fun u hu => ?_
    show p ∣ φ (prod u (inv (List.range n))) - φ u
    rw [inv_still, prod_still_r (C.isP _ hu).lt, Int.sub_self]
    exact Int.dvd_zero p
  | @step t g ht hgm ih =>
    refine Ng.congr C hg (fun u hu => ?_) (Ng.add C hg (Ng.rm C hg ih hgm) (h g hgm))
    have e : Rm (prod t g) φ u = Rm g (Rm t φ) u := (Rm_Rm C (hg g hgm) ht hu).symm
    rw [e]
    show (Rm g (Rm t φ) u - Rm g φ u) + (Rm g φ u - φ u) = Rm g (Rm t φ) u - φ u
    omega
end
/-- a row's function -/
def fnL (T : List (List Nat)) (r : List Int) : Fn := fun u => r.getD (T.idxOf u) 0
theorem emod_dvd (p x : Int) : p ∣ x % p - x := by
  rw [Int.emod_def]
  exact ⟨-(x / p), by rw [Int.mul_neg]; omega⟩
theorem axp_get {p c : Int} {a b : List Int} {i : Nat} {x y : Int} (hx : a[i]? = some x) (hy : b[i]? = some y) : (axp p c a b)[i]? = some ((x - c * y) % p) := by
  have e : (a.zip b)[i]? = some (x, y) := List.getElem?_zip_eq_some.mpr ⟨hx, hy⟩
  unfold axp
  rw [List.getElem?_map, e]
  rfl
theorem getD_of {a : List Int} {i : Nat} {x : Int} (h : a[i]? = some x) : a.getD i 0 = x := by rw [List.getD_eq_getElem?_getD, h]; rfl
theorem get_at {a : List Int} {i : Nat} (h : i < a.length) : a[i]? = some (a.getD i 0) := by
  rw [List.getD_eq_getElem?_getD, List.getElem?_eq_getElem h]
  rfl
section
variable {gs T : List (List Nat)} {n p : Nat}
theorem lin_ng (C : Cld n (Mk gs n)) (hg : ∀ g ∈ gs, Mk gs n g) (hT : ∀ u, u ∈ T ↔ Mk gs n u) {j : Nat} : Lin (p : Int) T.length fun r => Ng gs n (p : Int) j (fnL T r) where
  axp := fun c a b la lb ha hb => Ng.mod C hg (fun u hu => by
    have hi := List.idxOf_lt_length_of_mem ((hT u).mpr hu)
    have e : fnL T (Lt.axp p c a b) u = (fnL T a u - c * fnL T b u) % p := getD_of (axp_get (get_at (by omega)) (get_at (by omega)))
    have e2 : fnL T a u + -c * fnL T b u = fnL T a u - c * fnL T b u := by rw [Int.neg_mul]; omega
    show (p : Int) ∣ fnL T (Lt.axp p c a b) u - (fnL T a u + -c * fnL T b u)
    rw [e, e2]
    exact emod_dvd _ _) (Ng.add C hg ha (Ng.mul C hg (-c) hb))
  scl := fun c a la ha => Ng.mod C hg (fun u hu => by
    have hi := List.idxOf_lt_length_of_mem ((hT u).mpr hu)
    have e : fnL T (Lt.scl p c a) u = (c * fnL T a u) % p := getD_of (by
      unfold Lt.scl
      rw [List.getElem?_map, get_at (a := a) (by omega)]
      rfl)
    rw [e]
    exact emod_dvd _ _) (Ng.mul C hg c ha)
  red := fun a la ha => Ng.mod C hg (fun u hu => by
    have hi := List.idxOf_lt_length_of_mem ((hT u).mpr hu)
    have e : fnL T (a.map (· % (p : Int))) u = fnL T a u % p := getD_of (by
      rw [List.getElem?_map, get_at (a := a) (by omega)]
      rfl)
    rw [e]
    have := emod_dvd (p : Int) (fnL T a u)
    have h2 := Int.dvd_neg.mpr this
    rwa [Int.neg_sub] at h2) ha
  zero := fun a la h0 => Ng.of_dvd C hg fun u hu => by
    have hi := List.idxOf_lt_length_of_mem ((hT u).mpr hu)
    have e : fnL T a u = 0 := h0 _ (List.mem_of_getElem? (get_at (by omega)))
    rw [e]
    exact Int.dvd_zero _
/-- e(t) less e(still) -/
def row0 (N i j : Nat) (p : Nat) : List Int := ((List.replicate N 0).set i 1).set j ((p : Int) - 1)
theorem getD_set {l : List Int} {i k : Nat} {v : Int} (hi : i < l.length) : (l.set i v).getD k 0 = if i = k then v else l.getD k 0 := by
  rw [List.getD_eq_getElem?_getD, List.getElem?_set]
  split
  · first
    | rfl
    | (rw [if_pos hi]; rfl)
  · rw [List.getD_eq_getElem?_getD]
theorem getD_zero (N k : Nat) : (List.replicate N (0 : Int)).getD k 0 = 0 := by
  rw [List.getD_eq_getElem?_getD, List.getElem?_replicate]
  split <;> rfl
theorem row0_len {N i j p : Nat} : (row0 N i j p).length = N := by unfold row0; rw [List.length_set, List.length_set, List.length_replicate]
theorem row0_get {N i j p k : Nat} (hi : i < N) (hj : j < N) : (row0 N i j p).getD k 0 = if j = k then (p : Int) - 1 else if i = k then 1 else 0 := by
  unfold row0
  rw [getD_set (by rw [List.length_set, List.length_replicate]; exact hj), getD_set (by rw [List.length_replicate]; exact hi), getD_zero]
theorem row0_bel {N i j p : Nat} (p2 : 2 ≤ p) : Bel p (row0 N i j p) := fun x hx => by
  unfold row0 at hx
  rcases List.mem_or_eq_of_mem_set hx with h | h
  · rcases List.mem_or_eq_of_mem_set h with h | h
    · rw [(List.mem_replicate.mp h).2]; omega
    · omega
  · omega
def rows0 (T : List (List Nat)) (n p : Nat) : List (List Int) := (T.filter fun t => decide (t ≠ List.range n)).map fun t => row0 T.length (T.idxOf t) (T.idxOf (List.range n)) p
theorem idx_inj {u v : List Nat} (hu : u ∈ T) (hv : v ∈ T) (e : T.idxOf u = T.idxOf v) : u = v := by
  rw [← List.getElem_idxOf (List.idxOf_lt_length_of_mem hu), ← List.getElem_idxOf (List.idxOf_lt_length_of_mem hv)]
  congr 1
theorem dlt_r {t u : List Nat} (ht : IsP n t) (hu : IsP n u) : dlt n (prod u (inv t)) = if t = u then 1 else 0 := by
  unfold dlt
  by_cases e : t = u
  · rw [if_pos e, if_pos (by rw [e, prod_inv_r hu])]
  · rw [if_neg e, if_neg]
    intro z
    have z2 := inv_unique hu ht.inv z.symm
    have z3 := congrArg inv z2
    have ii : ∀ {x : List Nat}, IsP n x → inv (inv x) = x := fun {x} hx => (inv_unique hx.inv hx (prod_inv_l hx)).symm
    rw [ii ht, ii hu] at z3
    exact e z3
theorem row0_ng (C : Cld n (Mk gs n)) (hg : ∀ g ∈ gs, Mk gs n g) (hT : ∀ u, u ∈ T ↔ Mk gs n u) {t : List Nat} (ht : t ∈ T) (hn : t ≠ List.range n) {u : List Nat} (hu : Mk gs n u) :
    (p : Int) ∣ fnL T (row0 T.length (T.idxOf t) (T.idxOf (List.range n)) p) u - (Rm t (dlt n) u - dlt n u) := by
  have hs : List.range n ∈ T := (hT _).mpr C.still
  have hum := (hT u).mpr hu
  have e : fnL T (row0 T.length (T.idxOf t) (T.idxOf (List.range n)) p) u = if T.idxOf (List.range n) = T.idxOf u then (p : Int) - 1 else if T.idxOf t = T.idxOf u then 1 else 0 :=
    row0_get (List.idxOf_lt_length_of_mem ht) (List.idxOf_lt_length_of_mem hs)
  have e2 : Rm t (dlt n) u = if t = u then 1 else 0 := dlt_r (C.isP _ ((hT t).mp ht)) (C.isP _ hu)
  rw [e, e2]
  unfold dlt
  by_cases h1 : List.range n = u
  · subst h1
    rw [if_pos rfl, if_neg hn, if_pos rfl]
    exact ⟨1, by omega⟩
  · rw [if_neg (fun z => h1 (idx_inj hs hum z)), if_neg h1]
    by_cases h2 : t = u
    · rw [if_pos (by rw [h2]), if_pos h2]
      exact ⟨0, by omega⟩
    · rw [if_neg (fun z => h2 (idx_inj ht hum z)), if_neg h2]
      exact ⟨0, by omega⟩
theorem dvd_flip {p a b : Int} (h : p ∣ a - b) : p ∣ b - a := by
  have h2 := Int.dvd_neg.mpr h
  rwa [Int.neg_sub] at h2
theorem rows0_ng (C : Cld n (Mk gs n)) (hg : ∀ g ∈ gs, Mk gs n g) (hT : ∀ u, u ∈ T ↔ Mk gs n u) {j : Nat} : (∀ r ∈ rows0 T n p, Ng gs n (p : Int) j (fnL T r)) ↔ Ng gs n (p : Int) (j + 1) (dlt n) := by
  constructor
  · intro h g hgm
    by_cases hs : g = List.range n
    · refine Ng.of_dvd C hg fun u hu => ?_
      show (p : Int) ∣ dlt n (prod u (inv g)) - dlt n u
      rw [hs, inv_still, prod_still_r (C.isP _ hu).lt, Int.sub_self]
      exact Int.dvd_zero _
    · have hm : g ∈ T := (hT g).mpr (hg g hgm)
      exact Ng.mod C hg (fun u hu => dvd_flip (row0_ng C hg hT hm hs hu)) (h _ (List.mem_map.mpr ⟨g, List.mem_filter.mpr ⟨hm, decide_eq_true hs⟩, rfl⟩))
  · intro h r hr
    obtain ⟨t, ht, rfl⟩ := List.mem_map.mp hr
    obtain ⟨h1, h2⟩ := List.mem_filter.mp ht
    exact Ng.mod C hg (fun u hu => row0_ng C hg hT h1 (of_decide_eq_true h2) hu) (ng_any C hg h ((hT t).mp h1))
/-- moved on by g, as far as the first i turns say -/
def mvA (T : List (List Nat)) (p : Nat) (g : List Nat) (one : List Int) (i : Nat) : List Int := T.map fun u => if T.idxOf (prod u (inv g)) < i then one.getD (T.idxOf (prod u (inv g))) 0 % (p : Int) else 0
def sbm (p : Nat) (a b : List Int) : List Int := (a.zip b).map fun x => (x.1 - x.2) % (p : Int)
def row1 (T : List (List Nat)) (p : Nat) (g : List Nat) (one : List Int) : List Int := sbm p (mvA T p g one T.length) one
theorem mvA_len {g : List Nat} {one : List Int} {i : Nat} : (mvA T p g one i).length = T.length := by unfold mvA; rw [List.length_map]
theorem row1_len {g : List Nat} {one : List Int} (h : one.length = T.length) : (row1 T p g one).length = T.length := by
  unfold row1 sbm
  rw [List.length_map, List.length_zip, mvA_len, h, Nat.min_self]
theorem row1_bel {g : List Nat} {one : List Int} (p0 : 0 < p) : Bel p (row1 T p g one) := fun x hx => by
  obtain ⟨y, _, rfl⟩ := List.mem_map.mp hx
  exact ⟨Int.emod_nonneg _ (by omega), Int.emod_lt_of_pos _ (by omega)⟩
theorem sbm_get {a b : List Int} {i : Nat} {x y : Int} (hx : a[i]? = some x) (hy : b[i]? = some y) : (sbm p a b)[i]? = some ((x - y) % (p : Int)) := by
  have e : (a.zip b)[i]? = some (x, y) := List.getElem?_zip_eq_some.mpr ⟨hx, hy⟩
  unfold sbm
  rw [List.getElem?_map, e]
  rfl
theorem row1_ng (C : Cld n (Mk gs n)) (hg : ∀ g ∈ gs, Mk gs n g) (hT : ∀ u, u ∈ T ↔ Mk gs n u) {g : List Nat} (hgm : g ∈ gs) {one : List Int} (ho : one.length = T.length) {u : List Nat} (hu : Mk gs n u) :
    (p : Int) ∣ fnL T (row1 T p g one) u - (Rm g (fnL T one) u - fnL T one u) := by
  have hum := (hT u).mpr hu
  have hi := List.idxOf_lt_length_of_mem hum
  have hv : Mk gs n (prod u (inv g)) := C.prod _ _ hu (C.inv _ (hg g hgm))
  have hk := List.idxOf_lt_length_of_mem ((hT _).mpr hv)
  have e1 : (mvA T p g one T.length)[T.idxOf u]? = some (Rm g (fnL T one) u % (p : Int)) := by
    unfold mvA
    rw [List.getElem?_map, List.getElem?_eq_getElem hi, List.getElem_idxOf hi]
    show some (if T.idxOf (prod u (inv g)) < T.length then one.getD (T.idxOf (prod u (inv g))) 0 % (p : Int) else 0) = some _
    rw [if_pos hk]
    rfl
  have e : fnL T (row1 T p g one) u = (Rm g (fnL T one) u % (p : Int) - fnL T one u) % (p : Int) := getD_of (sbm_get e1 (get_at (by omega)))
  rw [e, Int.emod_sub_emod]
  exact emod_dvd _ _
def nowM (T gs : List (List Nat)) (n p : Nat) : Nat → List (List Int)
  | 0 => (redM p (rows0 T n p)).map (·.2)
  | k + 1 => (redM p ((nowM T gs n p k).flatMap fun one => gs.map fun g => row1 T p g one)).map (·.2)
theorem red_all {L : List Int → Prop} (rows : List (List Int)) : (∀ f ∈ redM p rows, L f.2) ↔ ∀ r ∈ (redM p rows).map (·.2), L r :=
  ⟨fun h r hr => by obtain ⟨f, hf, rfl⟩ := List.mem_map.mp hr; exact h f hf, fun h f hf => h _ (List.mem_map.mpr ⟨f, hf, rfl⟩)⟩
theorem now_ok (C : Cld n (Mk gs n)) (hg : ∀ g ∈ gs, Mk gs n g) (hT : ∀ u, u ∈ T ↔ Mk gs n u) (hp : p ∈ primes) : ∀ k, (∀ r ∈ nowM T gs n p k, r.length = T.length ∧ Bel p r ∧ ∃ i, i < T.length ∧ r.getD i 0 = 1) ∧
    ∀ j, (∀ r ∈ nowM T gs n p k, Ng gs n (p : Int) j (fnL T r)) ↔ Ng gs n (p : Int) (j + k + 1) (dlt n) := fun k => by
  have p2 := (prime_in hp).2.1
  have fin : ∀ rows : List (List Int), (∀ r ∈ rows, r.length = T.length ∧ Bel p r) → ∀ r ∈ (redM p rows).map (·.2), r.length = T.length ∧ Bel p r ∧ ∃ i, i < T.length ∧ r.getD i 0 = 1 := fun rows hr r hm => by
    obtain ⟨f, hf, rfl⟩ := List.mem_map.mp hm
    obtain ⟨a, b, c, d⟩ := (redM_lin hp (lin_ng (j := 0) C hg hT) hr).1 f hf
    exact ⟨a, b, f.1, c, d⟩
  induction k with
  | zero =>
    have hr : ∀ r ∈ rows0 T n p, r.length = T.length ∧ Bel p r := fun r hr => by
      obtain ⟨t, _, rfl⟩ := List.mem_map.mp hr
      exact ⟨row0_len, row0_bel p2⟩
    exact ⟨fin _ hr, fun j => (red_all (p := p) _).symm.trans ((redM_lin hp (lin_ng C hg hT) hr).2.trans (rows0_ng C hg hT))⟩
  | succ k ih =>
    have hr : ∀ r ∈ ((nowM T gs n p k).flatMap fun one => gs.map fun g => row1 T p g one), r.length = T.length ∧ Bel p r := fun r hr => by
      obtain ⟨one, ho, h2⟩ := List.mem_flatMap.mp hr
      obtain ⟨g, _, rfl⟩ := List.mem_map.mp h2
      exact ⟨row1_len (ih.1 one ho).1, row1_bel (by omega)⟩
    refine ⟨fin _ hr, fun j => (red_all (p := p) _).symm.trans ((redM_lin hp (lin_ng C hg hT) hr).2.trans ?_)⟩
    have e : j + (k + 1) + 1 = (j + 1) + k + 1 := by omega
    rw [e, ← ih.2 (j + 1)]
    constructor
    · intro h one ho g hgm
      exact Ng.mod C hg (fun u hu => dvd_flip (row1_ng C hg hT hgm (ih.1 one ho).1 hu)) (h _ (List.mem_flatMap.mpr ⟨one, ho, List.mem_map.mpr ⟨g, hgm, rfl⟩⟩))
    · intro h r hm
      obtain ⟨one, ho, h2⟩ := List.mem_flatMap.mp hm
      obtain ⟨g, hgm, rfl⟩ := List.mem_map.mp h2
      exact Ng.mod C hg (fun u hu => row1_ng C hg hT hgm (ih.1 one ho).1 hu) (h one ho g hgm)
theorem now_nil (C : Cld n (Mk gs n)) (hg : ∀ g ∈ gs, Mk gs n g) (hT : ∀ u, u ∈ T ↔ Mk gs n u) (nd : T.Nodup) (hp : p ∈ primes) (k : Nat) : nowM T gs n p k = [] ↔ Ng gs n (p : Int) (k + 1) (dlt n) := by
  have p2 := (prime_in hp).2.1
  obtain ⟨h1, h2⟩ := now_ok C hg hT hp k
  have h0 := h2 0
  rw [Nat.zero_add] at h0
  rw [← h0]
  constructor
  · intro e r hr
    rw [e] at hr
    cases hr
  · intro h
    refine List.eq_nil_iff_forall_not_mem.mpr fun r hr => ?_
    obtain ⟨_, _, i, hi, e⟩ := h1 r hr
    have hm : T[i] ∈ T := List.getElem_mem hi
    have := h r hr T[i] ((hT _).mp hm)
    have ei : T.idxOf T[i] = i := List.Nodup.idxOf_getElem nd i hi
    have e2 : fnL T r T[i] = 1 := by
      unfold fnL
      rw [ei]
      exact e
    rw [e2] at this
    have := Int.le_of_dvd (by decide) this
    omega
end
/-! as many rows as there are turns, at most -/
section
variable {p N : Nat}
theorem zero_keep {m : Nat} : ∀ (r : List (Nat × List Int)) (x : List Int), x.length = N → m < N → x.getD m 0 = 0 → (∀ g ∈ r, g.2.length = N ∧ g.2.getD m 0 = 0) → (redOne (p : Int) r x).getD m 0 = 0
  | [], x, _, _, h, _ => h
  | g :: r, x, hx, hm, h, hr => by
    unfold redOne
    rw [List.foldl_cons]
    obtain ⟨g1, g2⟩ := hr g List.mem_cons_self
    refine zero_keep r _ ?_ hm ?_ fun f hf => hr f (List.mem_cons_of_mem _ hf)
    · split
      · exact axp_len hx g1
      · exact hx
    · split
      · rw [getD_of (axp_get (get_at (by omega)) (get_at (by omega))), h, g2]
        simp
      · exact h
structure Ech (p N : Nat) (found : List (Nat × List Int)) : Prop where
  ok : FOk p N found
  up : found.Pairwise fun f g => g.2.getD f.1 0 = 0
  nd : (found.map (·.1)).Nodup
theorem red_zero : ∀ (found : List (Nat × List Int)) (x : List Int), x.length = N → FOk p N found → (found.Pairwise fun f g => g.2.getD f.1 0 = 0) → ∀ f ∈ found, (redOne (p : Int) found x).getD f.1 0 = 0
  | [], _, _, _, _, f, hf => by cases hf
  | g :: r, x, hx, ok, up, f, hf => by
    obtain ⟨u1, u2⟩ := List.pairwise_cons.mp up
    obtain ⟨g1, g2, g3, g4⟩ := ok g List.mem_cons_self
    unfold redOne
    rw [List.foldl_cons]
    have hl : (if x.getD g.1 0 ≠ 0 then Lt.axp (p : Int) (x.getD g.1 0) x g.2 else x).length = N := by
      split
      · exact axp_len hx g1
      · exact hx
    rcases List.mem_cons.mp hf with e | e
    · subst e
      refine zero_keep r _ hl g3 ?_ fun h hh => ⟨(ok h (List.mem_cons_of_mem _ hh)).1, u1 h hh⟩
      split
      · rw [getD_of (axp_get (get_at (by omega)) (get_at (by omega))), g4, Int.mul_one, Int.sub_self]
        exact Int.zero_emod _
      · rename_i h0
        exact Classical.byContradiction fun z => h0 z
    · exact red_zero r _ hl (fun h hh => ok h (List.mem_cons_of_mem _ hh)) u2 f e
theorem Ech.step (hp : p ∈ primes) {found : List (Nat × List Int)} (E : Ech p N found) {one : List Int} (ho : one.length = N) (hb : Bel p one) : Ech p N (redStep p found one) := by
  have ok := redStep_ok hp E.ok ho hb
  have lo := redOne_len (p := (p : Int)) found one (fun f h => (E.ok f h).1) ho
  have z := red_zero found one ho E.ok E.up
  unfold redStep at ok ⊢
  split at ok
  · exact E
  · rename_i k r hk
    obtain ⟨k1, k2⟩ := lead_cons hk
    refine ⟨ok, List.pairwise_append.mpr ⟨E.up, List.pairwise_singleton .., fun f hf g hg => ?_⟩, ?_⟩
    · rw [List.mem_singleton.mp hg]
      have hlt := (E.ok f hf).2.2.1
      show (scl (p : Int) _ (redOne (p : Int) found one)).getD f.1 0 = 0
      refine getD_of ?_
      unfold scl
      rw [List.getElem?_map, get_at (a := redOne (p : Int) found one) (by omega), z f hf]
      show some (_ * (0 : Int) % (p : Int)) = some 0
      rw [Int.mul_zero, Int.zero_emod]
    · rw [List.map_append]
      refine nodup_snoc E.nd fun hm => ?_
      obtain ⟨f, hf, e⟩ := List.mem_map.mp hm
      have := z f hf
      rw [e] at this
      exact k2 this
theorem redM_few (hp : p ∈ primes) {rows : List (List Int)} (hr : ∀ r ∈ rows, r.length = N ∧ Bel p r) : (redM p rows).length ≤ N := by
  have go : ∀ (rows : List (List Int)) (found : List (Nat × List Int)), Ech p N found → (∀ r ∈ rows, r.length = N ∧ Bel p r) → Ech p N (rows.foldl (redStep p) found) := by
    intro rows
    induction rows with
    | nil => exact fun _ h _ => h
    | cons one rows ih => exact fun found h hr => ih _ (h.step hp (hr one List.mem_cons_self).1 (hr one List.mem_cons_self).2) fun r hm => hr r (List.mem_cons_of_mem _ hm)
  have E := go rows [] ⟨(fun f hf => by cases hf), List.Pairwise.nil, List.nodup_nil⟩ hr
  have := nodup_len _ (List.range N) E.nd fun x hx => by
    obtain ⟨f, hf, rfl⟩ := List.mem_map.mp hx
    exact List.mem_range.mpr (E.ok f hf).2.2.1
  rw [List.length_map, List.length_range] at this
  exact this
end
section
variable {gs T : List (List Nat)} {n p : Nat}
theorem now_len (C : Cld n (Mk gs n)) (hg : ∀ g ∈ gs, Mk gs n g) (hT : ∀ u, u ∈ T ↔ Mk gs n u) (hp : p ∈ primes) : ∀ k, (nowM T gs n p k).length ≤ T.length := fun k => by
  have p2 := (prime_in hp).2.1
  cases k with
  | zero =>
    show ((redM p (rows0 T n p)).map (·.2)).length ≤ _
    rw [List.length_map]
    exact redM_few hp fun r hr => by
      obtain ⟨t, _, rfl⟩ := List.mem_map.mp hr
      exact ⟨row0_len, row0_bel p2⟩
  | succ k =>
    show ((redM p ((nowM T gs n p k).flatMap fun one => gs.map fun g => row1 T p g one)).map (·.2)).length ≤ _
    rw [List.length_map]
    exact redM_few hp fun r hr => by
      obtain ⟨one, ho, h2⟩ := List.mem_flatMap.mp hr
      obtain ⟨g, _, rfl⟩ := List.mem_map.mp h2
      exact ⟨row1_len ((now_ok C hg hT hp k).1 one ho).1, row1_bel (by omega)⟩
end
end Lt

set_option Elab.async false
set_option linter.all false
set_option maxRecDepth 100000
set_option maxHeartbeats 1000000
/-! a comprehension with a test, whose items may be objects that change later -/
namespace Lt
open PySem PySem.Spec PyProof.Rows L2
def Cg {β : Type} (H1 : Hp) (D : Addr) (R : Hp → V → β → Prop) (ys : List β) (i : Nat) (H : Hp) : Prop := Same H1 H ∧ ∃ zs, H D = some (.lst zs) ∧ Paired (R H) zs ys ∧ zs.length ≤ i
theorem lc_genG {J : It} {g : TG} {tt : L2.TT} {te : TE} {vs : List Nat} {σ : L2.St} {H1 : Hp} {D : Addr} {Qd : Hp → Prop} {β : Type} {n : Nat} (R : Hp → V → β → Prop) (p : Nat → Bool) (f : Nat → β) (ms : ∀ H H' v b, Same H H' → R H v b → R H' v b) (md : ∀ H v b ys o, H D = some (.lst ys) → R H v b → R (upd H D o) v b) (hz : n ≤ 100000) (hD : H1 D = none)
    (hgo : ∀ i H, i < n → Same H1 H → J.go i H) (hst : ∀ H, Same H1 H → J.stop n H)
    (hs : ∀ i H x H', i < n → Same H1 H → (∃ zs, H D = some (.lst zs)) → J.yld i H x H' → Same H H' ∧ ∃ σ2, (∀ Kk : L2.St → Hp → Prop, Kk σ2 H' → g x (wipe σ vs) H' Kk) ∧ wipe σ2 vs = wipe σ vs ∧ (∀ Q, (∀ H3, Same H' H3 → Q (p i) H3) → tt σ2 H' Q) ∧
      (p i = true → ∀ H3, Same H' H3 → ∀ Q : VK, (∀ v H4, Same H3 H4 → R H4 v (f i) → Q v H4) → te σ2 H3 Q))
    (hd : ∀ H zs, Same H1 H → H D = some (.lst zs) → Paired (R H) zs (((List.range n).filter p).map f) → Qd H) :
    ∃ W : Nat → Nat → Hp → Prop, (∃ m, W 0 m (upd H1 D (.lst []))) ∧ ∀ i m H, W i m H →
      (J.stop i H ∧ Qd H) ∨ (J.go i H ∧ ∃ Nx : Hp → Prop, (∀ H', Nx H' → ∃ m', m' < m ∧ W (i + 1) m' H') ∧ ∀ x H', J.yld i H x H' → g x (wipe σ vs) H' fun σ2 H2 => wipe σ2 vs = wipe σ vs ∧ tt σ2 H2 fun b H3 =>
        if b = true then te σ2 H3 fun y H4 => ∃ acc, H4 D = some (.lst acc) ∧ acc.length < sizeLine ∧ Nx (upd H4 D (.lst (acc ++ [y]))) else Nx H3) := by
  refine ⟨fun i m H => m = n - i ∧ i ≤ n ∧ Cg H1 D R (((List.range i).filter p).map f) i H, ⟨n, by simp, Nat.zero_le _, same_new hD, [], upd_same, .nil, Nat.le_refl _⟩, ?_⟩
  rintro i m H ⟨rfl, hi, c⟩
  obtain ⟨sm, zs, h1, pr, hl⟩ := c
  by_cases hlt : i < n
  · refine .inr ⟨hgo i H hlt sm, Cg H1 D R (((List.range (i + 1)).filter p).map f) (i + 1), fun H' p' => ⟨n - (i + 1), by omega, rfl, hlt, p'⟩, fun x H' y => ?_⟩
    obtain ⟨s', σ2, hg, hw, ht, he⟩ := hs i H x H' hlt sm ⟨zs, h1⟩ y
    refine hg _ ⟨hw, ht _ fun H3 s3 => ?_⟩
    have s13 := s'.trans s3
    cases hp : p i with
    | false =>
      rw [if_neg (by decide)]
      refine ⟨sm.trans s13, zs, s13 _ _ h1, ?_, by omega⟩
      rw [List.range_succ, List.filter_append]
      show Paired (R H3) zs ((List.filter p (List.range i) ++ List.filter p [i]).map f)
      rw [List.filter_cons_of_neg (by rw [hp]; decide), List.filter_nil, List.append_nil]
      exact paired_mono (fun a b r => ms _ _ _ _ s13 r) pr
    | true =>
      rw [if_pos rfl]
      refine he hp H3 s3 _ fun v H4 s4 r => ?_
      have s14 := s13.trans s4
      have h4 := s14 _ _ h1
      refine ⟨zs, h4, Nat.lt_of_le_of_lt hl (Nat.lt_of_lt_of_le (Nat.lt_of_lt_of_le hlt hz) (by decide)), same_mut (sm.trans s14) hD, zs ++ [v], upd_same, ?_, by rw [List.length_append]; show zs.length + 1 ≤ i + 1; omega⟩
      rw [List.range_succ, List.filter_append]
      show Paired _ _ ((List.filter p (List.range i) ++ List.filter p [i]).map f)
      rw [List.filter_cons_of_pos hp, List.filter_nil, List.map_append]
      exact Paired.app (paired_mono (fun a b q => md _ _ _ _ _ h4 (ms _ _ _ _ s14 q)) pr) (Paired.one (md _ _ _ _ _ h4 r))
  · have e : i = n := by omega
    subst e
    exact .inl ⟨hst H sm, hd H zs sm h1 pr⟩
end Lt

set_option Elab.async false
set_option linter.all false
set_option maxRecDepth 100000
set_option maxHeartbeats 4000000
/-! k07: the law's rows made few, the reading -/
namespace Lt
open PySem PySem.Spec PyProof.Rows L2
def IntR (_ : Hp) (v : V) (x : Int) : Prop := v = .int x
theorem IntR.all {H : Hp} : ∀ {zs : List V} {t : List Int}, Paired (IntR H) zs t → zs = t.map V.int
  | _, _, .nil => rfl
  | _, _, .cons r t => by rw [(show _ = V.int _ from r), IntR.all t]; rfl
/-- a pair (lead, row), the row's list another one -/
def FpR (fl : Addr) (H : Hp) (v : V) (f : Nat × List Int) : Prop := ∃ q o, v = .ref q ∧ H q = some (.tup [nI f.1, .ref o]) ∧ H o = some (.lst (f.2.map V.int)) ∧ o ≠ fl
theorem FpR.same {fl : Addr} {H H' : Hp} {v : V} {f : Nat × List Int} (s : Same H H') (h : FpR fl H v f) : FpR fl H' v f := let ⟨q, o, e, h1, h2, h3⟩ := h; ⟨q, o, e, s _ _ h1, s _ _ h2, h3⟩
theorem FpR.upd {fl : Addr} {H : Hp} {v : V} {f : Nat × List Int} {ys : List V} {u : HO} (hf : H fl = some (.lst ys)) (h : FpR fl H v f) : FpR fl (L2.upd H fl u) v f :=
  let ⟨q, o, e, h1, h2, h3⟩ := h
  ⟨q, o, e, (upd_ne (ne_of h1 hf (fun z => nomatch z))).trans h1, (upd_ne h3).trans h2, h3⟩
/-- a row's list, apart from D -/
def LIn (D : Addr) (H : Hp) (v : V) (a : List Int) : Prop := ∃ l, v = .ref l ∧ H l = some (.lst (a.map V.int)) ∧ l ≠ D
theorem LIn.same {D : Addr} {H H' : Hp} {v : V} {a : List Int} (s : Same H H') (h : LIn D H v a) : LIn D H' v a := let ⟨l, e, h1, h2⟩ := h; ⟨l, e, s _ _ h1, h2⟩
theorem LIn.upd {D : Addr} {H : Hp} {v : V} {a : List Int} {u : HO} (h : LIn D H v a) : LIn D (L2.upd H D u) v a := let ⟨l, e, h1, h2⟩ := h; ⟨l, e, (upd_ne h2).trans h1, h2⟩
theorem redOne_succ {p : Int} {F : List (Nat × List Int)} {f : Nat × List Int} {one : List Int} {j : Nat} (hf : F[j]? = some f) :
    redOne p (F.take (j + 1)) one = if (redOne p (F.take j) one).getD f.1 0 ≠ 0 then axp p ((redOne p (F.take j) one).getD f.1 0) (redOne p (F.take j) one) f.2 else redOne p (F.take j) one := by
  unfold redOne
  rw [List.take_add_one, hf, List.foldl_append]
  rfl
theorem lin_true {p : Int} {N : Nat} : Lin p N fun _ => True := ⟨fun _ _ _ _ _ _ _ => trivial, fun _ _ _ _ => trivial, fun _ _ _ => trivial, fun _ _ _ => trivial⟩
theorem redGo_ok {p N : Nat} (hp : p ∈ primes) {rows : List (List Int)} (hr : ∀ r ∈ rows, r.length = N ∧ Bel p r) : FOk p N (rows.foldl (redStep p) []) :=
  (redM_go hp lin_true rows [] (fun f hm => by cases hm) hr).1
theorem redGo_len {p : Nat} : ∀ (rows : List (List Int)) (F : List (Nat × List Int)), (rows.foldl (redStep p) F).length ≤ F.length + rows.length
  | [], F => Nat.le_refl _
  | one :: rows, F => by
    rw [List.foldl_cons]
    have := redGo_len (p := p) rows (redStep p F one)
    have h2 : (redStep p F one).length ≤ F.length + 1 := by
      unfold redStep
      split
      · exact Nat.le_succ _
      · rw [List.length_append]
        exact Nat.le_refl _
    rw [List.length_cons]
    omega
/-- the numbers that turn x to 1 -/
def invs (p : Nat) (x : Int) : List Nat := ((List.range (p - 1)).filter fun i : Nat => decide (((1 : Int) + (i : Nat)) * x % (p : Int) = 1)).map (· + 1)
theorem invs_eq {p : Nat} {x : Int} : (invs p x).headD 0 = invN p x := by
  unfold invs invN
  have e : (List.range' 1 (p - 1)) = (List.range (p - 1)).map (· + 1) := by
    have e2 : (List.range (p - 1)).map (· + 1) = (List.range (p - 1)).map (1 + ·) := List.map_congr_left fun i _ => Nat.add_comm i 1
    rw [e2, List.range_eq_range', List.map_add_range']
  rw [e, List.filter_map]
  congr 2
  refine List.filter_congr fun i _ => ?_
  show _ = decide (((i + 1 : Nat) : Int) * x % (p : Int) = 1)
  have : ((1 : Int) + (i : Nat)) = ((i + 1 : Nat) : Int) := by omega
  rw [this]
theorem invs_cons {p : Nat} (hp : p ∈ primes) {x : Int} (h0 : 0 ≤ x) (h1 : x < p) (hx : x ≠ 0) : ∃ r, invs p x = invN p x :: r := by
  have h := invP_ok hp h0 h1 hx
  have e := invs_eq (p := p) (x := x)
  cases hc : invs p x with
  | nil =>
    rw [hc] at e
    have : invN p x = 0 := e.symm
    unfold invP at h
    rw [this] at h
    simp at h
  | cons a r =>
    rw [hc] at e
    exact ⟨r, by rw [← e]; rfl⟩
section
variable {P : Program} {w : World} {K : PySem.W.Frag} {mg : Str → Option Value} {base : Heap}
theorem has_law_reduced (T : Top K mg "_law_reduced" s_law_reduced ["prime_v", "rows"]) (B : Bi mg) (bz : mg "zip" = none) : Has P w K mg base CX0 1 "_law_reduced" ["prime_v", "rows"] spReduced := by
  refine T.ok sc_law_reduced (fun vs H Q E h => ?_) (fun f cdv A outer s H vs Q E hr h => ?_)
  · obtain ⟨p, N, rl, xs, rows, rfl, _⟩ := h
    rfl
  obtain ⟨p, N, rl, xs, rows, rfl, hp, hN, hrl, pr, rlen, hrows, q⟩ := h
  have hu := hr.units
  obtain ⟨_, p2, p7⟩ := prime_in hp
  have lxs := Paired.length pr
  refine ⟨_, pss_cons (ps_set (i := 2) sc_law_reduced.nd rfl (Or.inl rfl) (pe_lst pa_nil))
    (pss_cons (ps_for PassesOwn.never rfl (pi_list (pv 1)) (pg_name (i := 3) sc_law_reduced.nd rfl (Or.inr rfl))
      (pss_cons (ps_for PassesOwn.never rfl (pi_list (pv 2)) (pg_tup (by rfl) (pgs_cons (pg_name (i := 4) sc_law_reduced.nd rfl (Or.inl rfl)) (pgs_cons (pg_name (i := 5) sc_law_reduced.nd rfl (Or.inl rfl)) pgs_nil)))
        (pss_cons (ps_set (i := 6) sc_law_reduced.nd rfl (Or.inr rfl) (pe_ix ix_list (pv 3) (pv 4) (fun _ _ => rfl)))
        (pss_one (ps_set (i := 3) sc_law_reduced.nd rfl (Or.inr rfl) (pe_ifExp (pt_cmpR op_ne (pv 6) pe_int (nomark _))
          (pe_lc (own := [("left", 9), ("right", 10)]) (g := gTup K 2 (gCons (gName 9) (gCons (gName 10) gNil))) (te := tOp (rI (fun _ j => 0 < j) fun i j => .int (i % j)) (tOp (rI0 fun i j => .int (i - j)) (tVar 9) (tOp (rI CMul fun i j => .int (i * j)) (tVar 6) (tVar 10))) (tVar 0)) (by rfl) sc_law_reduced.nd
            (pi_zip (by rfl) bz (pa_cons (pv 3) (pa_cons (pv 5) pa_nil))) (blkOk_by (own := [("left", 9), ("right", 10)]) (N := rdN) (sc := defScope s_law_reduced) (by decide +kernel))
            (fun _ _ _ _ _ => pg_tup rfl (pgs_cons (pg_name (i := 9) sc_law_reduced.nd rfl (Or.inl rfl)) (pgs_cons (pg_name (i := 10) sc_law_reduced.nd rfl (Or.inl rfl)) pgs_nil))) (fun _ _ _ _ _ => pts_nil)
            (fun _ _ _ _ _ => pe_op op_mod (pe_op op_sub (pv 9) (pe_op op_mul (pv 6) (pv 10))) (pv 0)))
          (pv 3))))))
      (pss_cons (ps_set (i := 7) sc_law_reduced.nd rfl (Or.inr rfl)
          (pe_lc (own := [("place", 11), ("number", 12)]) (g := gTup K 2 (gCons (gName 11) (gCons (gName 12) gNil))) (te := tVar 11) (tt := tTest (tOp rNe (tVar 12) (tC (.int 0)))) (by rfl) sc_law_reduced.nd
            (pi_enum (by rfl) B.enumerate (pa_cons (pv 3) pa_nil)) (blkOk_by (own := [("place", 11), ("number", 12)]) (N := rdN) (sc := defScope s_law_reduced) (by decide +kernel))
            (fun _ _ _ _ _ => pg_tup rfl (pgs_cons (pg_name (i := 11) sc_law_reduced.nd rfl (Or.inl rfl)) (pgs_cons (pg_name (i := 12) sc_law_reduced.nd rfl (Or.inl rfl)) pgs_nil))) (fun _ _ _ _ _ => pts_one (pt_cmpR op_ne (pv 12) pe_int (nomark _)))
            (fun _ _ _ _ _ => pv 11)))
      (pss_one (ps_if (pt_cmpR (op_neD hu) (pv 7) (pe_lst pa_nil) (nomark _))
        (pss_cons (ps_set (i := 8) sc_law_reduced.nd rfl (Or.inr rfl) (pe_ix ix_list
          (pe_lc (own := [("number", 12)]) (g := gName 12) (te := tVar 12) (tt := tTest (tOp rEq (tOp (rI (fun _ j => 0 < j) fun i j => .int (i % j)) (tOp (rI CMul fun i j => .int (i * j)) (tVar 12) (tOp (rIxL K) (tVar 3) (tOp (rIxL K) (tVar 7) (tC (.int 0))))) (tVar 0)) (tC (.int 1)))) (by rfl) sc_law_reduced.nd
            (pi_range2 (by rfl) B.range (pa_cons pe_int (pa_cons (pv 0) pa_nil))) (blkOk_by (own := [("number", 12)]) (N := rdN) (sc := defScope s_law_reduced) (by decide +kernel))
            (fun _ _ _ _ _ => pg_name (i := 12) sc_law_reduced.nd rfl (Or.inl rfl))
            (fun _ _ _ _ _ => pts_one (pt_cmpR op_eq (by exact pe_op op_mod (pe_op op_mul (pv 12) (pe_ix ix_list (pv 3) (pe_ix ix_list (pv 7) pe_int (fun _ _ => rfl)) (fun _ _ => rfl))) (pv 0)) pe_int (nomark _)))
            (fun _ _ _ _ _ => pv 12)) pe_int (fun _ _ => rfl)))
        (pss_one (ps_expr (pe_bm PySem.F.plainAttrs_list PySem.F.slot_list_append PySem.F.type_list_append mt_append (pv 2) (pa_cons (pe_tup (pa_cons (pe_ix ix_list (pv 7) pe_int (fun _ _ => rfl)) (pa_cons
          (pe_lc (own := [("number", 12)]) (g := gName 12) (te := tOp (rI (fun _ j => 0 < j) fun i j => .int (i % j)) (tOp (rI CMul fun i j => .int (i * j)) (tVar 8) (tVar 12)) (tVar 0)) (by rfl) sc_law_reduced.nd (pi_list (pv 3)) (blkOk_by (own := [("number", 12)]) (N := rdN) (sc := defScope s_law_reduced) (by decide +kernel))
            (fun _ _ _ _ _ => pg_name (i := 12) sc_law_reduced.nd rfl (Or.inl rfl)) (fun _ _ _ _ _ => pts_nil) (fun _ _ _ _ _ => pe_op op_mod (pe_op op_mul (pv 8) (pv 12)) (pv 0))) pa_nil))) pa_nil)))))
        pss_nil)))))
    (pss_one (ps_ret (pe_lc (own := [("lead", 4), ("own", 5)]) (g := gTup K 2 (gCons (gName 4) (gCons (gName 5) gNil))) (te := tVar 5) (by rfl) sc_law_reduced.nd (pi_list (pv 2)) (blkOk_by (own := [("lead", 4), ("own", 5)]) (N := rdN) (sc := defScope s_law_reduced) (by decide +kernel))
        (fun _ _ _ _ _ => pg_tup rfl (pgs_cons (pg_name (i := 4) sc_law_reduced.nd rfl (Or.inl rfl)) (pgs_cons (pg_name (i := 5) sc_law_reduced.nd rfl (Or.inl rfl)) pgs_nil))) (fun _ _ _ _ _ => pts_nil) (fun _ _ _ _ _ => pv 5))))), ?_⟩
  refine ⟨Nat.zero_le _, fun fl hfl => ?_⟩
  have s0 := same_new (o := .lst []) hfl
  have k0 : (upd H fl (.lst [])) fl = some (.lst []) := upd_same
  generalize upd H fl (.lst []) = H1 at *
  refine ⟨_, rfl, rl, rfl, ⟨_, SqL.of (s0 _ _ hrl)⟩, for_list (K := K) (a := rl) (xs := xs) (fun i σ H' => ∃ y3 y4 y5 y6 y7 y8 y9 y10 y11 y12 zs, σ = [some (nI p), some (.ref rl), some (.ref fl), y3, y4, y5, y6, y7, y8, y9, y10, y11, y12] ∧ Same H H' ∧ H' fl = some (.lst zs) ∧ Paired (FpR fl H') zs ((rows.take i).foldl (redStep p) []))
    ⟨none, none, none, none, none, none, none, none, none, none, [], rfl, s0, k0, .nil⟩ (fun i σ H' _ ⟨_, _, _, _, _, _, _, _, _, _, _, _, st, _⟩ => SqL.of (st _ _ hrl)) ?_ ?_⟩
  · rintro i x σ H' hi ⟨y3, y4, y5, y6, y7, y8, y9, y10, y11, y12, zs, rfl, st, hz, pz⟩
    obtain ⟨one, ho, ro, rfl, hro⟩ := Paired.getL pr hi
    have il := (List.getElem?_eq_some_iff.mp hi).1
    have rofl : ro ≠ fl := ne_of_none hro hfl
    have hro' := st _ _ hro
    obtain ⟨o1, o2⟩ := hrows one (List.mem_of_getElem? ho)
    have hF : FOk p N ((rows.take i).foldl (redStep p) []) := redGo_ok hp fun r hm => hrows r (List.mem_of_mem_take hm)
    have lF := redGo_len (p := p) (rows.take i) []
    have eNext : (rows.take (i + 1)).foldl (redStep p) [] = redStep p ((rows.take i).foldl (redStep p) []) one := by
      rw [List.take_add_one, ho, List.foldl_append]
      rfl
    rw [eNext]
    clear eNext
    have hlt : ((rows.take i).foldl (redStep p) []).length ≤ 1000 := by
      rw [List.length_take] at lF
      have : ([] : List (Nat × List Int)).length = 0 := rfl
      omega
    generalize (rows.take i).foldl (redStep p) [] = F at *
    have lz := Paired.length pz
    have p0 : 0 < p := by omega
    have lenJ : ∀ j, (redOne p (F.take j) one).length = N := fun j => redOne_len (p := p) (F.take j) one (fun f h => (hF f (List.mem_of_mem_take h)).1) o1
    have belJ : ∀ j, Bel p (redOne p (F.take j) one) := fun j => Bel.redOne p0 (F.take j) one o2
    refine ⟨_, rfl, fl, rfl, ⟨_, SqL.of hz⟩, for_list (K := K) (a := fl) (xs := zs) (fun j σ H2 => ∃ z4 z5 z6 ol, σ = [some (nI p), some (.ref rl), some (.ref fl), some (.ref ol), z4, z5, z6, y7, y8, y9, y10, y11, y12] ∧ Same H' H2 ∧ H2 ol = some (.lst ((redOne p (F.take j) one).map V.int)) ∧ ol ≠ fl)
      ⟨y4, y5, y6, ro, rfl, Same.refl _, hro', rofl⟩ (fun j σ H2 _ ⟨_, _, _, _, _, sm, _⟩ => SqL.of (sm _ _ hz)) ?_ ?_⟩
    · rintro j v σ H2 hj ⟨z4, z5, z6, ol, rfl, sm, hol, olfl⟩
      obtain ⟨f, hf, fq, fo, rfl, hfq, hfo, fofl⟩ := Paired.getL pz hj
      obtain ⟨f1, f2, f3, f4⟩ := hF f (List.mem_of_getElem? hf)
      have eS := redOne_succ (p := p) (one := one) hf
      rw [eS]
      clear eS
      have lc := lenJ j
      have bc := belJ j
      generalize redOne p (F.take j) one = cur at *
      have hc : cur[f.1]? = some (cur[f.1]'(by omega)) := List.getElem?_eq_getElem _
      generalize (cur[f.1]'(by omega)) = c at hc
      have hcd : cur.getD f.1 0 = c := by rw [List.getD_eq_getElem?_getD, hc]; rfl
      obtain ⟨c0, c1⟩ := bc c (List.mem_of_getElem? hc)
      rw [hcd]
      have hfo2 := sm _ _ hfo
      refine ⟨fq, _, rfl, SqT.of (sm _ _ hfq), rfl, nI f.1, _, rfl, .ref fo, _, rfl, rfl, ?_⟩
      refine ⟨_, rfl, _, rfl, ol, _, (f.1 : Int), .int c, rfl, rfl, SqL.of hol, atI_nat (j := f.1) (by rw [List.getElem?_map, hc]; rfl), ?_⟩
      refine ⟨_, rfl, rfl, _, rfl, ite2 (fun hb => ?_) (fun hb => ?_)⟩
      · have hne : c ≠ 0 := fun z => by rw [z] at hb; cases hb
        rw [if_pos hne]
        refine ⟨_, rfl, _, rfl, ol, fo, _, _, rfl, SqL.of hol, SqL.of hfo2, fun D hD => lc_genF (J := Itz K ol fo) (n := N) IntR (fun _ => true) (fun i => (axp p c cur f.2).getD i 0) (fun _ _ _ _ _ r => r) (by omega) hD (fun i H3 hi s3 => ?_) (fun H3 s3 => ?_) (fun i H3 x H4 hi s3 y => ?_) (fun H3 zs3 s3 hz3 p3 => ?_)⟩
        · exact ⟨_, _, _, _, SqL.of (s3 _ _ hol), SqL.of (s3 _ _ hfo2), List.getElem?_eq_getElem (by rw [List.length_map]; omega), List.getElem?_eq_getElem (by rw [List.length_map]; omega)⟩
        · exact ⟨_, _, SqL.of (s3 _ _ hol), SqL.of (s3 _ _ hfo2), .inl (by rw [List.length_map]; omega)⟩
        · obtain ⟨T, x1, y1, rfl, hT, rfl, g1, g2⟩ := y
          have g1 := g1 _ (SqL.of (s3 _ _ hol))
          have g2 := g2 _ (SqL.of (s3 _ _ hfo2))
          rw [List.getElem?_map] at g1 g2
          obtain ⟨a, ha, rfl⟩ := Option.map_eq_some_iff.mp g1
          obtain ⟨b, hb', rfl⟩ := Option.map_eq_some_iff.mp g2
          have sT := same_new (o := .tup [V.int a, V.int b]) hT
          refine ⟨sT, _, fun Kk q => ⟨T, _, rfl, SqT.of upd_same, rfl, _, _, rfl, _, _, rfl, rfl, q⟩, rfl, fun Q q => q _ (Same.refl _), fun _ H6 s6 Q q => ?_⟩
          refine ⟨_, rfl, _, rfl, _, rfl, c, b, rfl, rfl, .inl ⟨by omega, by omega⟩, a, c * b, rfl, rfl, _, rfl, _, _, rfl, rfl, by omega, q _ _ (Same.refl _) ?_⟩
          show V.int _ = V.int _
          rw [List.getD_eq_getElem?_getD, axp_get ha hb']
          rfl
        · have e3 : zs3 = (axp p c cur f.2).map V.int := by
            rw [IntR.all p3]
            congr 1
            have lA : N = (axp p c cur f.2).length := (axp_len (p := p) lc f1).symm
            rw [lA, List.filter_eq_self.mpr (fun _ _ => rfl)]
            exact getDd_rng 0 _
          rw [e3] at hz3
          exact ⟨_, _, _, D, rfl, sm.trans s3, hz3, (ne_of_none (sm _ _ hz) hD).symm⟩
      · have he : c = 0 := Classical.byContradiction fun z => hb (by
          rw [dec_int]
          simp [z])
        rw [if_neg (fun z => z he)]
        exact ⟨_, rfl, _, _, _, ol, rfl, sm, hol, olfl⟩
    · rintro σ H2 ⟨z4, z5, z6, ol, rfl, sm, hol, olfl⟩
      have e1 : F.take zs.length = F := List.take_of_length_le (by omega)
      have lc := lenJ zs.length
      have bc := belJ zs.length
      have eR : redStep p F one = match leadL (redOne p F one) with
        | [] => F
        | k :: _ => F ++ [(k, scl p (invP p ((redOne p F one).getD k 0)) (redOne p F one))] := rfl
      rw [eR]
      clear eR
      rw [e1] at hol lc bc
      clear lenJ belJ
      generalize redOne p F one = cur at *
      have hz2 := sm _ _ hz
      have pz2 : Paired (FpR fl H2) zs F := paired_mono (fun _ _ r => FpR.same sm r) pz
      refine ⟨_, rfl, ol, _, rfl, SqL.of hol, fun D hD => lc_genF (J := Ite K ol) (n := N) RN (fun i => decide (cur.getD i 0 ≠ 0)) (fun i => i) (fun _ _ _ _ _ r => r) (by omega) hD (fun i H3 hi s3 => ?_) (fun H3 s3 => ?_) (fun i H3 x H4 hi s3 y => ?_) (fun H3 lz3 s3 hlz p3 => ?_)⟩
      · exact ⟨_, _, SqL.of (s3 _ _ hol), List.getElem?_eq_getElem (by rw [List.length_map]; omega)⟩
      · exact ⟨_, SqL.of (s3 _ _ hol), by rw [List.length_map]; omega⟩
      · obtain ⟨T, x1, rfl, hT, rfl, g1⟩ := y
        have g1 := g1 _ (SqL.of (s3 _ _ hol))
        rw [List.getElem?_map] at g1
        obtain ⟨a, ha, rfl⟩ := Option.map_eq_some_iff.mp g1
        have had : cur.getD i 0 = a := by rw [List.getD_eq_getElem?_getD, ha]; rfl
        have sT := same_new (o := .tup [V.int (i : Nat), V.int a]) hT
        refine ⟨sT, _, fun Kk q => ⟨T, _, rfl, SqT.of upd_same, rfl, _, _, rfl, _, _, rfl, rfl, q⟩, rfl, fun Q q => ⟨_, rfl, rfl, _, ?_, q _ (Same.refl _)⟩, fun _ H6 s6 Q q => ⟨_, rfl, q _ _ (Same.refl _) rfl⟩⟩
        rw [had, dec_int]
        by_cases ha0 : a = 0
        · rw [ha0]
          rfl
        · rw [decide_eq_true ha0, beq_false_of_ne ha0]
          rfl
      have e3 : lz3 = nIs (leadL cur) := by
        rw [RN.all p3, List.map_id']
        unfold leadL
        rw [lc]
      subst e3
      have hol3 := s3 _ _ hol
      have hz3 := s3 _ _ hz2
      have Dfl : D ≠ fl := (ne_of_none hz2 hD).symm
      have leadOk : ∀ k r, leadL cur = k :: r → k < cur.length ∧ cur.getD k 0 ≠ 0 := fun k r h => lead_cons h
      obtain ⟨L, hL⟩ : ∃ L, L = leadL cur := ⟨_, rfl⟩
      rw [← hL] at hlz leadOk ⊢
      refine ⟨_, rfl, Nat.zero_le _, fun e he => ?_⟩
      have s4 := same_new (o := .lst []) he
      refine ⟨.list (L.map dN), .list [], .lst (SqL.of (s4 _ _ hlz)) (dp_nats _), .lst (SqL.of upd_same) .nil, sh_T L, rfl, _, rfl, ?_⟩
      have sm4 := (sm.trans s3).trans s4
      have hz4 := s4 _ _ hz3
      have hol4 := s4 _ _ hol3
      have hlz4 := s4 _ _ hlz
      have pz4 : Paired (FpR fl (upd H3 e (.lst []))) zs F := paired_mono (fun _ _ r => FpR.same (s3.trans s4) r) pz2
      generalize upd H3 e (.lst []) = H4 at *
      cases L with
      | nil => exact iteF ⟨_, _, _, _, _, _, _, _, _, _, zs, rfl, st.trans sm4, hz4, pz4⟩
      | cons k r =>
        refine iteT ?_
        obtain ⟨k1, k2⟩ := leadOk k r rfl
        have hx : cur[k]? = some (cur[k]'k1) := List.getElem?_eq_getElem k1
        generalize (cur[k]'k1) = x at hx
        have hxd : cur.getD k 0 = x := by rw [List.getD_eq_getElem?_getD, hx]; rfl
        rw [hxd] at k2
        obtain ⟨x0, x1⟩ := bc x (List.mem_of_getElem? hx)
        obtain ⟨ir, hir⟩ := invs_cons hp x0 x1 k2
        have hix : (cur.map V.int)[k]? = some (V.int x) := by rw [List.getElem?_map, hx]; rfl
        show _
        refine ⟨_, rfl, 1, (p : Int), rfl, ⟨by omega, by omega, by omega, by omega⟩, fun D2 hD2 => lc_genF (J := Itr 1 ((p : Int) - 1).toNat) (n := p - 1) RN (fun i : Nat => decide (((1 : Int) + (i : Nat)) * x % (p : Int) = 1)) (fun i => i + 1) (fun _ _ _ _ _ r => r) (by omega) hD2 (fun i H5 hi s5 => ?_) (fun H5 s5 => ?_) (fun i H5 v H6 hi s5 y => ?_) (fun H5 tz s5 htz p5 => ?_)⟩
        · show i < ((p : Int) - 1).toNat
          omega
        · show ((p : Int) - 1).toNat ≤ p - 1
          omega
        · obtain ⟨rfl, rfl⟩ := y
          refine ⟨Same.refl _, _, fun Kk q => q, rfl, fun Q q => ?_, fun _ H7 s7 Q q => ⟨_, rfl, q _ _ (Same.refl _) ?_⟩⟩
          · refine ⟨_, rfl, _, rfl, _, rfl, D, _, 0, nI k, rfl, rfl, SqL.of (s5 _ _ hlz4), atI_nat (j := 0) rfl, ol, _, (k : Int), .int x, rfl, rfl, SqL.of (s5 _ _ hol4), atI_nat (j := k) hix, _, x, rfl, rfl, .inr ⟨by omega, by omega⟩, _, rfl, _, _, rfl, rfl, by omega, rfl, _, ?_, q _ (Same.refl _)⟩
            rw [dec_int]
            congr 1
          · show V.int _ = V.int _
            congr 1
            omega
        have e5 : tz = nIs (invs p x) := RN.all p5
        rw [hir] at e5
        subst e5
        refine ⟨D2, _, 0, nI (invN p x), rfl, rfl, SqL.of htz, atI_nat (j := 0) rfl, ?_⟩
        have hz5 := s5 _ _ hz4
        have hol5 := s5 _ _ hol4
        have hlz5 := s5 _ _ hlz4
        refine ⟨_, rfl, .inl ⟨rfl, zs, SqL.of hz5⟩, _, rfl, D, _, 0, nI k, rfl, rfl, SqL.of hlz5, atI_nat (j := 0) rfl, _, rfl, ol, rfl, ⟨_, SqL.of hol5⟩, fun D3 hD3 => lc_genF (J := Itl K ol) (n := N) IntR (fun _ => true) (fun i => (scl p (invP p x) cur).getD i 0) (fun _ _ _ _ _ r => r) (by omega) hD3 (fun i H6 hi s6 => ?_) (fun H6 s6 => ?_) (fun i H6 v H7 hi s6 y => ?_) (fun H6 ws s6 hws p6 => ?_)⟩
        · exact ⟨_, _, SqL.of (s6 _ _ hol5), List.getElem?_eq_getElem (by rw [List.length_map]; omega)⟩
        · exact ⟨_, SqL.of (s6 _ _ hol5), by rw [List.length_map]; omega⟩
        · obtain ⟨rfl, g1⟩ := y
          have g1 := g1 _ (SqL.of (s6 _ _ hol5))
          rw [List.getElem?_map] at g1
          obtain ⟨a, ha, rfl⟩ := Option.map_eq_some_iff.mp g1
          obtain ⟨a0, a1⟩ := bc a (List.mem_of_getElem? ha)
          refine ⟨Same.refl _, _, fun Kk q => q, rfl, fun Q q => q _ (Same.refl _), fun _ H7 s7 Q q => ?_⟩
          refine ⟨_, rfl, _, rfl, _, a, rfl, rfl, .inr ⟨by omega, by omega⟩, _, rfl, _, _, rfl, rfl, by omega, q _ _ (Same.refl _) ?_⟩
          show V.int _ = V.int _
          unfold scl
          rw [List.getD_eq_getElem?_getD, List.getElem?_map, ha]
          rfl
        have e6 : ws = (scl p (invP p x) cur).map V.int := by
          rw [IntR.all p6]
          congr 1
          have lA : N = (scl p (invP p x) cur).length := by rw [scl_len]; exact lc.symm
          rw [lA, List.filter_eq_self.mpr (fun _ _ => rfl)]
          exact getDd_rng 0 _
        subst e6
        refine ⟨Nat.le_of_ble_eq_true rfl, fun tp htp => ?_⟩
        have s7 := same_new (o := .tup [nI k, V.ref D3]) htp
        have hz7 := s7 _ _ (s6 _ _ hz5)
        have hws7 := s7 _ _ hws
        have ktp : (upd H6 tp (.tup [nI k, V.ref D3])) tp = some (.tup [nI k, V.ref D3]) := upd_same
        have D3fl : D3 ≠ fl := (ne_of_none hz5 hD3).symm
        have pz7 : Paired (FpR fl (upd H6 tp (.tup [nI k, V.ref D3]))) zs F := paired_mono (fun _ _ r => FpR.same ((s5.trans s6).trans s7) r) pz4
        have st7 := ((sm4.trans s5).trans s6).trans s7
        refine ⟨fl, zs, .ref tp, rfl, rfl, hz7, by rw [sizeLine_eq]; omega, ?_⟩
        refine ⟨_, _, _, _, _, _, _, _, _, _, zs ++ [.ref tp], rfl, same_mut (st.trans st7) hfl, upd_same, ?_⟩
        show Paired _ _ (F ++ [(k, scl (p : Int) (invP p (cur.getD k 0)) cur)])
        rw [hxd]
        exact Paired.app (paired_mono (fun _ _ r => FpR.upd hz7 r) pz7) (Paired.one (FpR.upd hz7 ⟨tp, D3, rfl, ktp, hws7, D3fl⟩))
  · rintro σ H' ⟨y3, y4, y5, y6, y7, y8, y9, y10, y11, y12, zs, rfl, st, hz, pz⟩
    rw [List.take_of_length_le (by omega)] at pz
    have lz := Paired.length pz
    have lF := redGo_len (p := p) rows []
    have l0 : ([] : List (Nat × List Int)).length = 0 := rfl
    refine ⟨_, rfl, fl, rfl, ⟨_, SqL.of hz⟩, fun D hD => lc_genG (J := Itl K fl) (n := zs.length) (LIn D) (fun _ => true) (fun i => ((redM p rows).map (·.2)).getD i []) (fun _ _ _ _ s r => LIn.same s r) (fun _ _ _ _ _ _ r => LIn.upd r) (by omega) hD (fun i H6 hi s6 => ?_) (fun H6 s6 => ?_) (fun i H6 v H7 hi s6 hDl y => ?_) (fun H6 ws s6 hws p6 => ?_)⟩
    · exact ⟨_, _, SqL.of (s6 _ _ hz), List.getElem?_eq_getElem hi⟩
    · exact ⟨_, SqL.of (s6 _ _ hz), Nat.le_refl _⟩
    · obtain ⟨rfl, g1⟩ := y
      have g1 := g1 _ (SqL.of (s6 _ _ hz))
      obtain ⟨f, hf, fq, fo, rfl, hfq, hfo, fofl⟩ := Paired.getL pz g1
      have foD : fo ≠ D := ne_of_none hfo hD
      refine ⟨Same.refl _, _, fun Kk q => ⟨fq, _, rfl, SqT.of (s6 _ _ hfq), rfl, _, _, rfl, _, _, rfl, rfl, q⟩, rfl, fun Q q => q _ (Same.refl _), fun _ H7 s7 Q q => ⟨_, rfl, q _ _ (Same.refl _) ⟨fo, rfl, ?_, foD⟩⟩⟩
      have ef : ((redM p rows).map (·.2)).getD i [] = f.2 := by
        rw [List.getD_eq_getElem?_getD, List.getElem?_map, show (redM p rows)[i]? = some f from hf]
        rfl
      rw [ef]
      exact s7 _ _ (s6 _ _ hfo)
    · have e1 : ((List.range zs.length).filter fun _ => true).map (fun i => ((redM p rows).map (·.2)).getD i []) = (redM p rows).map (·.2) := by
        rw [List.filter_eq_self.mpr (fun _ _ => rfl)]
        have : zs.length = ((redM p rows).map (·.2)).length := by rw [List.length_map]; exact lz
        rw [this]
        exact getDd_rng [] _
      rw [e1] at p6
      exact q D H6 ws (st.trans s6) (st.free hD) hws (paired_mono (fun _ _ r => let ⟨l, e, h1, _⟩ := r; ⟨l, e, h1⟩) p6)
end
end Lt

set_option Elab.async false
set_option linter.all false
set_option maxRecDepth 100000
set_option maxHeartbeats 1000000
/-! dict(a list of pairs), the keys tuples -/
namespace L2
open PySem PySem.Spec PyProof.Rows
/-- a pair (key, value) -/
def PairT (H : Hp) (x : V) (p : List Key × V) : Prop := ∃ T b, x = .ref T ∧ H T = some (.tup [.ref b, p.2]) ∧ H b = some (.tup (p.1.map kV))
def rDictT : List V → Hp → VK → Prop := fun vs H Q => ∃ (l : Addr) (xs : List V) (ps : List (List Key × V)), vs = [.ref l] ∧ H l = some (.lst xs) ∧ Paired (PairT H) xs ps ∧ (ps.map (·.1)).Nodup ∧ ∀ d, H d = none → Q (.ref d) (upd H d (.dT ps))
section
variable {X : Cx} {H : Hp} {h : Heap}
theorem stored_new {Kt : Type} [DecidableEq Kt] : ∀ (ps xs : List (Kt × Addr × Value)), ((xs ++ ps).map (·.1)).Nodup → storedAllH xs ps = xs ++ ps
  | [], xs, _ => by rw [List.append_nil]; rfl
  | p :: ps, xs, hn => by
    have e : storedH xs p.1 p.2.1 p.2.2 = xs ++ [p] := by
      refine storedH_new ?_ _ _
      rw [List.map_append, List.map_cons] at hn
      have hk : p.1 ∉ xs.map (·.1) := fun hm => (List.nodup_append.mp hn).2.2 _ hm _ List.mem_cons_self rfl
      exact atKey_none_of_get fun j q e => hk (List.mem_map.mpr ⟨_, List.mem_of_getElem? e, rfl⟩)
    show storedAllH (storedH xs p.1 p.2.1 p.2.2) ps = _
    rw [e, stored_new ps (xs ++ [p]) (by rw [List.append_assoc]; exact hn), List.append_assoc]
    rfl
/-- what the pairs are in the heap -/
theorem pairsT_of (ok : HOk X.prog X.w H h) : ∀ {xs : List V} {ps : List (List Key × V)} {its : List Value}, Paired (PairT H) xs ps → Vals xs its →
    ∃ (Ts : List Addr) (qs : List (List Key × Addr × Value)), its = Ts.map Value.ref ∧ Ts.length = qs.length ∧ Paired (fun (p : List Key × V) (q : List Key × Addr × Value) => p.1 = q.1 ∧ H q.2.1 = some (.tup (p.1.map kV)) ∧ RelV p.2 q.2.2) ps qs ∧ ∀ (j : Nat) (T : Addr) (q : List Key × Addr × Value), Ts[j]? = some T → qs[j]? = some q → h.IsTuple T #[.ref q.2.1, q.2.2]
  | _, _, _, .nil, .nil => ⟨[], [], rfl, rfl, .nil, fun j T q e => by cases e⟩
  | _, _, _, .cons (b := p) ⟨T, b, ex, hT, hb⟩ pr, .cons r rv => by
    subst ex
    cases r
    obtain ⟨Ts, qs, e1, e2, e3, e4⟩ := pairsT_of ok pr rv
    obtain ⟨_, its, rt, it⟩ := (show ObjOk X.prog X.w H h T (.tup [.ref b, p.2]) from ok T _ hT)
    cases rt with
    | cons r1 rt =>
      cases rt with
      | cons r2 rt =>
        cases rt
        cases r1
        refine ⟨T :: Ts, (p.1, b, _) :: qs, by rw [e1]; rfl, by rw [List.length_cons, List.length_cons, e2], .cons ⟨rfl, hb, r2⟩ e3, fun j U q h1 h2 => ?_⟩
        cases j with
        | zero =>
          cases h1
          cases h2
          exact it
        | succ j => exact e4 j U q h1 h2
theorem call_dictT (hc : X.calm = true) (hu : X.A.units + 64 < cLine) : CallR X (.type "dict") rDictT := by
  intro pins s σ H vs us Q I r hq
  obtain ⟨l, xs, ps, rfl, hl, pr, nd, q⟩ := hq
  obtain ⟨u, rfl, rx⟩ := r.one
  cases rx
  obtain ⟨hz, its, n, rv, hg⟩ := (show ObjOk X.prog X.w H s.heap l (.lst xs) from I.hok l _ hl)
  obtain ⟨Ts, qs, e1, e2, e3, e4⟩ := pairsT_of I.hok pr rv
  have lq : ps.length = qs.length := Paired.length e3
  have lx : xs.length = ps.length := Paired.length pr
  have ek : qs.map (·.1) = ps.map (·.1) := by
    clear nd q pr lq lx e1 e2 e4
    induction e3 with
    | nil => rfl
    | cons a _ ih => rw [List.map_cons, List.map_cons, ih, a.1]
  have nq : (qs.map (·.1)).Nodup := by rw [ek]; exact nd
  let pv : List (Value × Value) := qs.map fun q => (Value.ref q.2.1, q.2.2)
  have P := PairArg.list (prog := X.prog) (w := X.w) l its.toArray (fun j => Ts.getD j 0) pv
  have lp : pv.length = qs.length := by rw [List.length_map]
  refine call_dict_pairsH (knd := tupleKind (mixKind X.prog X.w)) (ps := qs) P (I.ok.hd hc) ?_ ⟨⟨_, n, hg, rfl, rfl, rfl⟩, ?_, fun j k v hj => ?_⟩ ⟨lp.symm, fun i key v hr => ?_⟩ (fun h' hk x hx => ?_) (by rw [lp]; omega) fun h' tk hd hk => ?_
  · show X.A.units + 1 + 1 < cLine
    omega
  · show its.toArray.size = pv.length
    rw [List.size_toArray, e1, List.length_map, e2, lp]
  · rw [List.getElem?_map] at hj
    obtain ⟨x, hx, ex⟩ := Option.map_eq_some_iff.mp hj
    cases ex
    have hjl := (List.getElem?_eq_some_iff.mp hx).1
    have hT : Ts[j]? = some (Ts[j]'(by omega)) := List.getElem?_eq_getElem _
    have eT : Ts.getD j 0 = Ts[j]'(by omega) := by rw [List.getD_eq_getElem?_getD, hT]; rfl
    refine ⟨?_, .inl ?_⟩
    · show its.toArray[j]? = some (Value.ref (Ts.getD j 0))
      rw [eT, List.getElem?_toArray, e1, List.getElem?_map, hT]
      rfl
    · show s.heap.IsTuple (Ts.getD j 0) _
      rw [eT]
      exact e4 j _ x hT hx
  · have hr : pv[i]? = some (key, v) := hr
    rw [List.getElem?_map] at hr
    obtain ⟨x, hx, ex⟩ := Option.map_eq_some_iff.mp hr
    cases ex
    exact ⟨x.1, x.2.1, hx, rfl⟩
  · obtain ⟨j, hj⟩ := List.mem_iff_getElem?.mp hx
    obtain ⟨p, hp, a1, a2, _⟩ := Lt.Paired.getR e3 hj
    rw [← a1]
    have hlt := (I.hok _ _ a2).lt
    have kk := key_of I.hok a2
    obtain ⟨o, items, n, ho, r⟩ := kk
    exact ⟨o, items, n, hk _ _ (Nat.ne_of_lt hlt) (fun z => nomatch z) ho, r⟩
  · rw [stored_new qs [] (by rw [List.nil_append]; exact nq), List.nil_append] at hd
    obtain ⟨o, es, ep, h1, h2, h3, h4, _, h5⟩ := hd
    refine ⟨.ref s.heap.objs.size, _, I.laid (a := s.heap.objs.size) (o := .dT ps) (t' := tk) (fun b u e => hk b u (fun z => nomatch z) e) (Nat.le_refl _) ⟨by omega, ?_, qs, ?_, o, es, ep, h1, h2, h3, h4, h5⟩, rfl, q _ (I.hok.fresh (Nat.le_refl _))⟩
    · exact beq_eq_false_iff_ne.mpr (Nat.ne_of_gt I.big)
    · have hn := I.hok.fresh (Nat.le_refl s.heap.objs.size)
      exact L2.Paired.mapP e3 fun a b r => ⟨r.1, by rw [upd_ne (ne_of_none r.2.1 hn)]; exact r.2.1, r.2.2⟩
end
end L2

set_option Elab.async false
set_option linter.all false
set_option maxRecDepth 100000
set_option maxHeartbeats 1000000
/-! looking up in a dict whose keys are tuples: the sought tuple's object may be known -/
namespace L2
open PySem PySem.Spec PyProof.Rows
section
variable {X : Cx} {pins : List (Addr × Obj)} {σ : St} {H : Hp} {s : Shared} {a : Addr} {y v : V} {u r : Value} {o : Option V} {A : Around} {E : Value → Shared → Prop} {h : Heap}
theorem key_ofQ {P : Program} {w : World} {ks : List Key} (ok : HOk P w H h) (e : Lt.RT H a (ks.map kV)) : (tupleKind (mixKind P w)).is h ks a := by
  have hm : ObjOk P w H h a (.tup (ks.map kV)) := by
    rcases e with e | ⟨o, e⟩
    · exact ok a _ e
    · exact (show ObjOk P w H h a (.frz o (.tup (ks.map kV))) from ok a _ e).2
  obtain ⟨_, its, r, o, h1, h2, n, h3⟩ := hm
  exact ⟨o, its.toArray, n, h1, h2, h3, by simpa using items_are r⟩
def DGetQ (H : Hp) (a : Addr) (y : V) (r : Option V) : Prop := ∃ kvs k b, Rd H a (.dT kvs) ∧ y = .ref b ∧ Lt.RT H b (k.map kV) ∧ r = valV kvs k
theorem d_getItemQ {Q : Value → Shared → Prop} (hu : A.units + 1 < cLine) (I : Inv X pins σ H s) (g : DGetQ H a y (some v)) (ry : RelV y u) (h : ∀ w' s', Inv X pins σ H s' → RelV v w' → Q w' s') :
    wpAny (model X.prog X.w) A (getItem (.ref a) u) Q E s := by
  obtain ⟨kvs, k, b, e, ey, eb, l⟩ := g
  subst ey
  cases (show u = Value.ref b from ry)
  obtain ⟨z, hd, xs, rel, dd⟩ := dt_rd I.hok e
  obtain ⟨w', hw, rw'⟩ := RelO.some_of (v := v) (o := (atKey xs k).map (·.2)) (by rw [l]; exact rel.val k)
  obtain ⟨p, hp, hp2⟩ := Option.map_eq_some_iff.mp hw
  refine wpAny_getItem_heap (tupleKind_room_in1 hu) (key_ofQ I.hok eb) dd hp ?_
  rw [hp2]
  exact h w' _ (I.tok _) rw'
theorem d_notInQ {Q : Value → Shared → Prop} (hu : A.units + 1 < cLine) (I : Inv X pins σ H s) (g : DGetQ H a y o) (ry : RelV y u) (h : ∀ s', Inv X pins σ H s' → Q (.bool (!o.isSome)) s') :
    wpAny (model X.prog X.w) A (compareOp .NotIn u (.ref a)) Q E s := by
  obtain ⟨kvs, k, b, e, ey, eb, l⟩ := g
  subst ey
  cases (show u = Value.ref b from ry)
  obtain ⟨z, hd, xs, rel, dd⟩ := dt_rd I.hok e
  refine wpAny_notIn_heap (tupleKind_room_in1 hu) (key_ofQ I.hok eb) hd dd ?_
  have q := (rel.val k).isSome_eq
  rw [Option.isSome_map] at q
  rw [← q, ← l]
  exact h _ (I.tok _)
end
section
variable {X : Cx} {i e : Expr} {pos : Pos} {ty td : TE}
theorem dict_typeIsQ {pins : List (Addr × Obj)} {σ : St} {H : Hp} {s : Shared} {a : Addr} {y : V} {o : Option V} (I : Inv X pins σ H s) (g : DGetQ H a y o) : s.TypeIs (.ref a) "dict" := by
  obtain ⟨kvs, k, b, e, ey, eb, l⟩ := g
  obtain ⟨z, hd, xs, rel, dd⟩ := dt_rd I.hok e
  exact dd.typeIs
def tDGetQ (td ty : TE) : TE := fun σ H Q => td σ H fun x H1 => ty σ H1 fun y H2 => ∃ a v, x = .ref a ∧ DGetQ H2 a y (some v) ∧ Q v H2
def tDNotInQ (ty td : TE) : TE := fun σ H Q => ty σ H fun y H1 => td σ H1 fun x H2 => ∃ a o, x = .ref a ∧ DGetQ H2 a y o ∧ Q (.bl (!o.isSome)) H2
theorem pe_dgetQ {o : Expr} (hu : X.A.units + 1 < cLine) (ho : PE X o td) (hi : PE X i ty) (hs : NoSl i) : PE X (.Subscript o i pos) (tDGetQ td ty) := by
  refine ⟨fun pins s σ H Q I h => ?_⟩
  refine subD_of PySem.F.slot_dict_getitem.lookup hs (thn (ho.run pins s σ H _ I h) fun u s1 ⟨x, H1, I1, rx, q1⟩ => thn (hi.run pins s1 σ H1 _ I1 q1) fun iv s2 ⟨y, H2, I2, ry, a, v, ex, g, q2⟩ => ?_)
  subst ex
  obtain rfl : u = Value.ref a := rx
  exact ⟨dict_typeIsQ I2 g, d_getItemQ hu I2 g ry fun w' s3 I3 rw' => ⟨v, H2, I3, rw', q2⟩⟩
theorem pc_dnotinQ {o : Expr} (hu : X.A.units + 1 < cLine) (hi : PE X i ty) (ho : PE X o td) : PC X .NotIn i o (tDNotInQ ty td) := by
  refine ⟨fun pins s σ H Q I h => ?_⟩
  refine thn (hi.run pins s σ H _ I h) fun iv s1 ⟨y, H1, I1, ry, q1⟩ => thn (ho.run pins s1 σ H1 _ I1 q1) fun u s2 ⟨x, H2, I2, rx, a, ov, ex, g, q2⟩ => ?_
  subst ex
  obtain rfl : u = Value.ref a := rx
  exact d_notInQ hu I2 g ry fun s3 I3 => ⟨.bl (!ov.isSome), H2, I3, rfl, q2⟩
end
end L2

set_option Elab.async false
set_option linter.all false
set_option maxRecDepth 100000
set_option maxHeartbeats 4000000
/-! k07: how many differences the law counts, the text and its reading -/
namespace Lt
open PySem PySem.Spec PyProof.Rows L2
/-- a list of numbers as data -/
def dL (r : List Int) : PyData := .list (r.map PyData.int)
theorem LIs.dp {K : PySem.W.Frag} {H : Hp} : ∀ {xs : List V} {rows : List (List Int)}, Paired (LI H) xs rows → DpAll K H xs (rows.map dL)
  | _, _, .nil => .nil
  | _, _, .cons ⟨l, e, h⟩ t => by
    subst e
    exact .cons (.lst (SqL.of h) (dp_ints _)) (LIs.dp t)
theorem depth_iN : ∀ t : List Int, PyData.depthAll (t.map PyData.int) = 0
  | [] => rfl
  | n :: t => by
    show max (PyData.depth (PyData.int n)) (PyData.depthAll (t.map PyData.int)) = 0
    rw [depth_iN t]
    rfl
theorem can_iN : ∀ t : List Int, PyData.canLayAll0 (t.map PyData.int) = true
  | [] => rfl
  | n :: t => by
    show (PyData.canLay0 (PyData.int n) && PyData.canLayAll0 (t.map PyData.int)) = true
    rw [can_iN t]
    rfl
theorem depth_dL : ∀ t : List (List Int), PyData.depthAll (t.map dL) ≤ 1
  | [] => Nat.zero_le _
  | n :: t => by
    show max (PyData.depthAll (n.map PyData.int) + 1) (PyData.depthAll (t.map dL)) ≤ 1
    rw [depth_iN n]
    have := depth_dL t
    omega
theorem can_dL : ∀ t : List (List Int), PyData.canLayAll0 (t.map dL) = true
  | [] => rfl
  | n :: t => by
    show (PyData.canLayAll0 (n.map PyData.int) && PyData.canLayAll0 (t.map dL)) = true
    rw [can_dL t, can_iN n]
    rfl
theorem sh_dLs (t : List (List Int)) : SeqAt.shaped (.list (t.map dL)) = true := by
  show (PyData.canLayAll0 (t.map dL) && decide (PyData.depthAll (t.map dL) + 1 ≤ 64)) = true
  have := depth_dL t
  rw [can_dL, decide_eq_true (by omega)]
  rfl
theorem mvA_zero {T : List (List Nat)} {p : Nat} {g : List Nat} {one : List Int} : mvA T p g one 0 = List.replicate T.length 0 := by
  unfold mvA
  rw [← List.map_const']
  exact List.map_congr_left fun u _ => if_neg (by omega)
theorem mvA_step {T gs : List (List Nat)} {n p m : Nat} {g t : List Nat} {one : List Int} (C : Cld n (Mk gs n)) (hT : ∀ u, u ∈ T ↔ Mk gs n u) (nd : T.Nodup) (hg : Mk gs n g) (hm : T[m]? = some t) :
    prod t g ∈ T ∧ (mvA T p g one m)[T.idxOf (prod t g)]? = some 0 ∧ (mvA T p g one m).set (T.idxOf (prod t g)) (one.getD m 0 % (p : Int)) = mvA T p g one (m + 1) := by
  have ht : t ∈ T := List.mem_of_getElem? hm
  have tM := (hT t).mp ht
  have hml := (List.getElem?_eq_some_iff.mp hm).1
  have etm : T[m] = t := by rw [List.getElem?_eq_getElem hml] at hm; exact Option.some.inj hm
  have him : T.idxOf t = m := by rw [← etm]; exact List.Nodup.idxOf_getElem nd m hml
  have hu : prod t g ∈ T := (hT _).mpr (C.prod _ _ tM hg)
  have back : prod (prod t g) (inv g) = t := by
    rw [pas _ (C.isP _ tM) (C.isP _ hg), prod_inv_r (C.isP _ hg), prod_still_r (C.isP _ tM).lt]
  have hi := List.idxOf_lt_length_of_mem hu
  refine ⟨hu, ?_, ?_⟩
  · unfold mvA
    rw [List.getElem?_map, List.getElem?_eq_getElem hi, List.getElem_idxOf hi]
    show some (if T.idxOf (prod (prod t g) (inv g)) < m then _ else _) = some _
    rw [back, him, if_neg (by omega)]
  · apply List.ext_getElem?
    intro j
    rw [List.getElem?_set]
    by_cases hj : j < T.length
    · have ej : T[j]? = some T[j] := List.getElem?_eq_getElem hj
      have uM : Mk gs n T[j] := (hT _).mp (List.getElem_mem hj)
      unfold mvA
      rw [List.getElem?_map, List.getElem?_map, ej]
      by_cases e : T.idxOf (prod t g) = j
      · have euj : T[j] = prod t g := by subst e; exact List.getElem_idxOf hi
        rw [if_pos e, if_pos (by rw [List.length_map]; exact hi)]
        show some _ = some (if T.idxOf (prod T[j] (inv g)) < m + 1 then _ else _)
        rw [euj, back, him, if_pos (by omega)]
      · rw [if_neg e]
        show some (if T.idxOf (prod T[j] (inv g)) < m then _ else _) = some (if T.idxOf (prod T[j] (inv g)) < m + 1 then _ else _)
        have hne : T.idxOf (prod T[j] (inv g)) ≠ m := fun z => by
          have hv : prod T[j] (inv g) ∈ T := (hT _).mpr (C.prod _ _ uM (C.inv _ hg))
          have e1 : prod T[j] (inv g) = t := idx_inj hv ht (z.trans him.symm)
          have e2 : prod t g = T[j] := by
            rw [← e1, pas _ (C.isP _ uM) (C.isP _ hg).inv, prod_inv_l (C.isP _ hg), prod_still_r (C.isP _ uM).lt]
          exact e (by rw [e2]; exact List.Nodup.idxOf_getElem nd j hj)
        by_cases hlt : T.idxOf (prod T[j] (inv g)) < m
        · rw [if_pos hlt, if_pos (by omega)]
        · rw [if_neg hlt, if_neg (by omega)]
    · rw [if_neg (by omega), List.getElem?_eq_none (by rw [mvA_len]; omega), List.getElem?_eq_none (by rw [mvA_len]; omega)]
section
variable {P : Program} {w : World} {K : PySem.W.Frag} {mg : Str → Option Value} {base : Heap}
def spDies : Sp := fun vs H Q _ => ∃ (v : V) (ls : List (List Nat)) (n p told : Nat) (wa : Addr) (wx : List V) (T : List (List Nat)), vs = [v, .ref wa, nI p] ∧ TT H v ls ∧ GL ls n ∧ Few ls n 60 ∧ H wa = some (.lst wx) ∧ Paired (TK H) wx T ∧ T.Nodup ∧ (∀ u, u ∈ T ↔ Mk ls n u) ∧ p ∈ primes ∧
  nowM T ls n p told = [] ∧ (∀ k, k < told → nowM T ls n p k ≠ []) ∧ told < 60 ∧ ∀ H', Same H H' → Q (nI told) H'
abbrev dsN : List Str := ["lock", "whole", "prime_v", "turn", "nought", "spots", "now", "one", "many", "step", "later", "other", "moved", "number", "spot", "at", "left", "right"]
theorem sc_law_dies : FnScope dsN ["lock", "whole", "prime_v"] (defScope s_law_dies) := ⟨rfl, rfl, rfl, by decide +kernel, rfl, by decide +kernel, by decide +kernel⟩
theorem has_law_dies (T : Top K mg "_law_dies" s_law_dies ["lock", "whole", "prime_v"]) (B : Bi mg) (bz : mg "zip" = none) (bd : mg "dict" = none) (hP : Has P w K mg base CX0 1 "_law_behind" ["one", "other"] spProd) (hR : Has P w K mg base CX0 1 "_law_reduced" ["prime_v", "rows"] spReduced) : Has P w K mg base CX0 2 "_law_dies" ["lock", "whole", "prime_v"] spDies := by
  refine T.ok sc_law_dies (fun vs H Q E h => ?_) (fun f cdv A outer s H vs Q E hr h => ?_)
  · obtain ⟨v, ls, n, p, told, wa, wx, T0, rfl, _⟩ := h
    rfl
  obtain ⟨v, ls, n, p, told, wa, wx, T0, rfl, htt, hgl, hf, hwa, pw0, nd, hT, hp, hEnd, hGo, h60, q⟩ := h
  have hu := hu_of hr
  have hu64 := hr.units
  have hu65 : A.units + 3 + 65 < cLine := by have := hr.un; show A.units + 3 + 65 < cLine; have e : (A.deeper (envOfC "_law_dies" (defScope s_law_dies) s.heap.objs.size f cdv)).units = A.units + 3 := rfl; omega
  refine ⟨_, pss_cons (ps_par (i := 4) (j := 5) (by rfl) sc_law_dies.nd rfl rfl (by decide) rfl rfl (pa_cons
        (pe_bm PySem.F.plainAttrs_list PySem.F.slot_list_index PySem.F.type_list_index (mt_indexD hu65) (pv 1) (pa_cons (pe_tupRg (by rfl) (by rfl) B.tuple (prg_1 (by rfl) B.range (pe_callB call_len_seq (by rfl) B.len PySem.boot_len (pa_cons (pe_ix ix_tup (pv 0) pe_int (fun _ _ => rfl)) pa_nil)))) pa_nil))
        (pa_cons (pe_callTy (call_dictT (by rfl) hu64) (by rfl) bd PyProof.Rows.boot_dict (pa_cons
          (pe_lc (own := [("at", 15), ("turn", 3)]) (g := gTup K 2 (gCons (gName 15) (gCons (gName 3) gNil))) (te := tTup (tCons (tVar 3) (tCons (tVar 15) tNil))) (by rfl) sc_law_dies.nd
            (pi_enum (by rfl) B.enumerate (pa_cons (pv 1) pa_nil)) (blkOk_by (own := [("at", 15), ("turn", 3)]) (N := dsN) (sc := defScope s_law_dies) (by decide +kernel))
            (fun _ _ _ _ _ => pg_tup rfl (pgs_cons (pg_name (i := 15) sc_law_dies.nd rfl (Or.inl rfl)) (pgs_cons (pg_name (i := 3) sc_law_dies.nd rfl (Or.inl rfl)) pgs_nil))) (fun _ _ _ _ _ => pts_nil)
            (fun _ _ _ _ _ => pe_tup (pa_cons (pv 3) (pa_cons (pv 15) pa_nil)))) pa_nil)) pa_nil)) (by rfl))
    (pss_cons (ps_set (i := 6) sc_law_dies.nd rfl (Or.inl rfl) (pe_lst pa_nil))
    (pss_cons (ps_for PassesOwn.never rfl (pi_list (pv 1)) (pg_name (i := 3) sc_law_dies.nd rfl (Or.inl rfl))
      (pss_cons (ps_set (i := 7) sc_law_dies.nd rfl (Or.inl rfl) (pe_op op_rep (pe_lst (pa_cons pe_int pa_nil)) (pe_callB call_len_seq (by rfl) B.len PySem.boot_len (pa_cons (pv 1) pa_nil))))
      (pss_cons (ps_asg (pe_tup (pa_cons pe_int (pa_cons (pe_op op_sub (pv 2) pe_int) pa_nil))) (pg_tup (by rfl) (pgs_cons (pg_sub (pv 7) (pe_dgetQ hu (pv 5) (pv 3) (fun _ _ => rfl)) set_list) (pgs_cons (pg_sub (pv 7) (pv 4) set_list) pgs_nil))))
      (pss_one (ps_set (i := 6) sc_law_dies.nd rfl (Or.inl rfl) (pe_op op_cat (pv 6) (pe_ifExp (pt_cmpR op_ne (pe_dgetQ hu (pv 5) (pv 3) (fun _ _ => rfl)) (pv 4) (nomark _)) (pe_lst (pa_cons (pv 7) pa_nil)) (pe_lst pa_nil))))))))
    (pss_cons (ps_par (i := 6) (j := 8) (by rfl) sc_law_dies.nd rfl rfl (by decide) rfl rfl (pa_cons (pe_has hR hr (by rfl) (pa_cons (pv 2) (pa_cons (pv 6) pa_nil))) (pa_cons pe_int pa_nil)) (by rfl))
    (pss_cons (ps_for PassesOwn.never rfl (pi_range1 (by rfl) B.range (pa_cons pe_int pa_nil)) (pg_name (i := 9) sc_law_dies.nd rfl (Or.inl rfl))
      (pss_cons (ps_if (pt_cmpR (op_eqD hu64) (pv 6) (pe_lst pa_nil) (nomark _)) (pss_one (ps_ret (pv 8))) pss_nil)
      (pss_cons (ps_set (i := 10) sc_law_dies.nd rfl (Or.inl rfl) (pe_lst pa_nil))
      (pss_cons (ps_for PassesOwn.never rfl (pi_list (pv 6)) (pg_name (i := 7) sc_law_dies.nd rfl (Or.inl rfl))
        (pss_one (ps_for PassesOwn.never rfl (pi_tup (pv 0)) (pg_name (i := 11) sc_law_dies.nd rfl (Or.inl rfl))
          (pss_cons (ps_set (i := 12) sc_law_dies.nd rfl (Or.inl rfl) (pe_op op_rep (pe_lst (pa_cons pe_int pa_nil)) (pe_callB call_len_seq (by rfl) B.len PySem.boot_len (pa_cons (pv 1) pa_nil))))
          (pss_cons (ps_for PassesOwn.never rfl (pi_zip (by rfl) bz (pa_cons (pv 1) (pa_cons (pv 7) pa_nil))) (pg_tup (by rfl) (pgs_cons (pg_name (i := 3) sc_law_dies.nd rfl (Or.inl rfl)) (pgs_cons (pg_name (i := 13) sc_law_dies.nd rfl (Or.inl rfl)) pgs_nil)))
            (pss_cons (ps_set (i := 14) sc_law_dies.nd rfl (Or.inl rfl) (pe_dgetQ hu (pv 5) (pe_has hP hr (by rfl) (pa_cons (pv 3) (pa_cons (pv 11) pa_nil))) (fun _ _ => rfl)))
            (pss_one (ps_asg (pe_op op_mod (pe_op op_add (pe_ix ix_list (pv 12) (pv 14) (fun _ _ => rfl)) (pv 13)) (pv 2)) (pg_sub (pv 12) (pv 14) set_list)))))
          (pss_one (ps_expr (pe_bm PySem.F.plainAttrs_list PySem.F.slot_list_append PySem.F.type_list_append mt_append (pv 10) (pa_cons
            (pe_lc (own := [("left", 16), ("right", 17)]) (g := gTup K 2 (gCons (gName 16) (gCons (gName 17) gNil))) (te := tOp (rI (fun _ j => 0 < j) fun i j => .int (i % j)) (tOp (rI0 fun i j => .int (i - j)) (tVar 16) (tVar 17)) (tVar 2)) (by rfl) sc_law_dies.nd
              (pi_zip (by rfl) bz (pa_cons (pv 12) (pa_cons (pv 7) pa_nil))) (blkOk_by (own := [("left", 16), ("right", 17)]) (N := dsN) (sc := defScope s_law_dies) (by decide +kernel))
              (fun _ _ _ _ _ => pg_tup rfl (pgs_cons (pg_name (i := 16) sc_law_dies.nd rfl (Or.inl rfl)) (pgs_cons (pg_name (i := 17) sc_law_dies.nd rfl (Or.inl rfl)) pgs_nil))) (fun _ _ _ _ _ => pts_nil)
              (fun _ _ _ _ _ => pe_op op_mod (pe_op op_sub (pv 16) (pv 17)) (pv 2))) pa_nil)))))))))
      (pss_one (ps_par (i := 6) (j := 8) (by rfl) sc_law_dies.nd rfl rfl (by decide) rfl rfl (pa_cons (pe_has hR hr (by rfl) (pa_cons (pv 2) (pa_cons (pv 10) pa_nil))) (pa_cons (pe_op op_add (pv 8) pe_int) pa_nil)) (by rfl)))))))
    (pss_one (ps_ret pe_non)))))), ?_⟩
  obtain ⟨_, p2, p7⟩ := prime_in hp
  obtain ⟨l1, l4, n2, n9, hls⟩ := id hgl
  have C := cld_mk hls hf
  have hgM : ∀ g ∈ ls, Mk ls n g := fun g h => .one hls h
  have lT : T0.length ≤ 60 := hf.le nd fun t h => (hT t).mp h
  have lw := Paired.length pw0
  have hs0 : List.range n ∈ T0 := (hT _).mpr C.still
  have hTP : ∀ t ∈ T0, IsP n t := fun t h => C.isP _ ((hT t).mp h)
  -- nought
  obtain ⟨a0, vx, b0, rfl, ha0, pv0, h00, t00, hbt0, htl0⟩ := htt.head hgl
  refine ⟨_, rfl, .inl ⟨rfl, _, SqL.of hwa⟩, _, rfl, a0, vx, 0, .ref b0, rfl, rfl, SqT.of ha0, h00, b0, _, rfl, .inr hbt0.sq, ?_⟩
  have en : (nIs t00).length = n := by rw [nIs_len]; exact htl0
  rw [en]
  refine ⟨_, rfl, .of_le (by omega) (by omega) (by omega) (by omega), fun st hst => ?_⟩
  have s1 := same_new (o := .tup (rgV 0 (n : Int))) hst
  have kst : TK (upd H st (.tup (rgV 0 (n : Int)))) (.ref st) (List.range n) := ⟨st, rfl, by rw [upd_same, rgV_nat]⟩
  generalize upd H st (.tup (rgV 0 (n : Int))) = H1 at *
  have hwa1 := s1 _ _ hwa
  have pw1 : Paired (TK H1) wx T0 := paired_mono (fun _ _ r => TK.tm (.of s1) r) pw0
  have hi0 := List.idxOf_lt_length_of_mem hs0
  refine ⟨wa, .ref st, dT (List.range n), T0.map dT, T0.idxOf (List.range n), dT (List.range n), rfl, rfl, LT.dp ⟨wx, hwa1, paired_mono (fun _ _ r => TK.tn r) pw1⟩, kst.tn.dp, sh_LT _, sh_T _, ?_, ?_, fun m z hm hz => ?_, ?_⟩
  · rw [List.getElem?_map, List.getElem?_eq_getElem hi0, List.getElem_idxOf hi0]
    rfl
  · rw [eqv_dT]
    exact decide_eq_true rfl
  · rw [List.getElem?_map] at hz
    obtain ⟨t, ht, rfl⟩ := Option.map_eq_some_iff.mp hz
    rw [eqv_dT]
    refine decide_eq_false fun e => ?_
    have hml := (List.getElem?_eq_some_iff.mp ht).1
    have e2 : T0[m] = List.range n := by rw [List.getElem?_eq_getElem hml] at ht; rw [Option.some.inj ht]; exact e
    have := nd.idxOf_getElem m hml
    rw [e2] at this
    omega
  -- spots
  refine ⟨_, rfl, wa, wx, rfl, SqL.of hwa1, fun D hD => lc_genF (J := Ite K wa) (n := T0.length) (fun H v i => PairT H v (keyN (T0.getD i []), nI i)) (fun _ => true) (fun i => i) (fun _ _ _ _ e r => let ⟨a, b, h1, h2, h3⟩ := r; ⟨a, b, h1, e.1 _ _ h2, e.1 _ _ h3⟩) (by omega) hD (fun i H3 hi s3 => ?_) (fun H3 s3 => ?_) (fun i H3 x H4 hi s3 y => ?_) (fun H2 zs s2 hzs pz => ?_)⟩
  · exact ⟨wx, _, SqL.of (s3 _ _ hwa1), List.getElem?_eq_getElem (by omega)⟩
  · exact ⟨wx, SqL.of (s3 _ _ hwa1), by omega⟩
  · obtain ⟨T', x', rfl, hT', rfl, g1⟩ := y
    have g1 := g1 _ (SqL.of (s3 _ _ hwa1))
    obtain ⟨t, ht, tk⟩ := Paired.getL pw1 g1
    obtain ⟨b, rfl, hb⟩ := (TK.tm (.of s3) tk).key
    have et : T0.getD i [] = t := by rw [List.getD_eq_getElem?_getD, ht]; rfl
    have sT := same_new (o := .tup [V.int (i : Nat), V.ref b]) hT'
    refine ⟨sT, _, fun Kk q => ⟨T', _, rfl, SqT.of upd_same, rfl, _, _, rfl, _, _, rfl, rfl, q⟩, rfl, fun Q q => q _ (Same.refl _), fun _ H6 s6 Q q => ?_⟩
    refine ⟨_, rfl, _, rfl, Nat.le_of_ble_eq_true rfl, fun b2 hb2 => q _ _ (same_new hb2) ⟨b2, b, rfl, upd_same, ?_⟩⟩
    rw [et]
    exact same_new hb2 _ _ (s6 _ _ (sT _ _ hb))
  rw [List.filter_eq_self.mpr (fun _ _ => rfl), List.map_id'] at pz
  have pz' : Paired (PairT H2) zs ((List.range T0.length).map fun i => (keyN (T0.getD i []), nI i)) := by
    have go : ∀ {xs : List V} {l : List Nat}, Paired (fun v i => PairT H2 v (keyN (T0.getD i []), nI i)) xs l → Paired (PairT H2) xs (l.map fun i => (keyN (T0.getD i []), nI i)) := by
      intro xs l h
      induction h with
      | nil => exact .nil
      | cons r _ ih => exact .cons r ih
    exact go pz
  refine ⟨D, zs, _, rfl, hzs, pz', ?_, fun d hd => ?_⟩
  · rw [List.map_map]
    have e1 : ((List.range T0.length).map ((fun x => x.1) ∘ fun i => (keyN (T0.getD i []), nI i))) = T0.map keyN := by
      have : ((List.range T0.length).map ((fun x => x.1) ∘ fun i => (keyN (T0.getD i []), nI i))) = ((List.range T0.length).map fun i => T0.getD i []).map keyN := by
        rw [List.map_map]
        rfl
      rw [this, getDd_rng]
    rw [e1]
    exact List.Pairwise.map keyN (fun a b h => fun e => h (keyN_inj e)) nd
  have s3 := same_new (o := .dT ((List.range T0.length).map fun i => (keyN (T0.getD i []), nI i))) hd
  have kd : (upd H2 d (.dT ((List.range T0.length).map fun i => (keyN (T0.getD i []), nI i)))) d = some (.dT ((List.range T0.length).map fun i => (keyN (T0.getD i []), nI i))) := upd_same
  have st3 := (s1.trans s2).trans s3
  generalize upd H2 d (.dT ((List.range T0.length).map fun i => (keyN (T0.getD i []), nI i))) = H3 at *
  have look : ∀ (H' : Hp) (b : Addr) (t : List Nat), Same H3 H' → t ∈ T0 → RT H' b ((keyN t).map kV) → DGetQ H' d (.ref b) (some (nI (T0.idxOf t))) := fun H' b t sm ht hb => ⟨_, keyN t, b, .inl (sm _ _ kd), rfl, hb, (val_places nd ht).symm⟩
  have hwa3 := st3 _ _ hwa
  have ha3 := st3 _ _ ha0
  have pw3 : Paired (TK H3) wx T0 := paired_mono (fun _ _ r => TK.tm (.of st3) r) pw0
  have pv3 : Paired (TN H3) vx ls := TNs.tm (.of st3) pv0
  have rep0 : ∀ k : Nat, (List.replicate ((k : Nat) : Int).toNat [V.int 0]).flatten = (List.replicate k (0 : Int)).map V.int := fun k => by
    rw [Int.toNat_natCast]
    induction k with
    | zero => rfl
    | succ k ih => rw [List.replicate_succ, List.flatten_cons, ih, List.replicate_succ]; rfl
  refine ⟨_, _, rfl, ?_⟩
  -- the first rows
  refine ⟨Nat.zero_le _, fun nl hnl => ?_⟩
  have s4 := same_new (o := .lst []) hnl
  refine ⟨_, rfl, wa, rfl, ⟨_, SqL.of (s4 _ _ hwa3)⟩, for_list (K := K) (a := wa) (xs := wx) (fun i σ H' => ∃ y3 nl y7 xs, σ = [some (.ref a0), some (.ref wa), some (nI p), y3, some (nI (T0.idxOf (List.range n))), some (.ref d), some (.ref nl), y7, none, none, none, none, none, none, none, none, none, none] ∧ Same H3 H' ∧ H' nl = some (.lst xs) ∧ Paired (LI H') xs (((T0.take i).filter fun t => decide (t ≠ List.range n)).map fun t => row0 T0.length (T0.idxOf t) (T0.idxOf (List.range n)) p) ∧ xs.length ≤ i)
    ⟨none, nl, none, [], rfl, s4, upd_same, .nil, Nat.le_refl _⟩ (fun i σ H' _ ⟨_, _, _, _, _, st, _⟩ => SqL.of (st _ _ hwa3)) ?_ ?_⟩
  · rintro i x σ H' hi ⟨y3, nl, y7, xs, rfl, st, hnl, pxs, lxs⟩
    have il := (List.getElem?_eq_some_iff.mp hi).1
    obtain ⟨t, ht, tk⟩ := Paired.getL pw3 hi
    have htT := List.mem_of_getElem? ht
    obtain ⟨b, rfl, hb⟩ := (TK.tm (.of st) tk).key
    refine ⟨by show 1 ≤ sizeLine; decide, fun l hl => ?_⟩
    have s5 := same_new (o := .lst [V.int 0]) hl
    refine ⟨_, rfl, wa, wx, rfl, .inl (SqL.of (s5 _ _ (st _ _ hwa3))), l, (wx.length : Int), [V.int 0], rfl, rfl, upd_same, by omega, by omega, ?_, fun ol hol => ?_⟩
    · show 1 * (wx.length : Int).toNat ≤ sizeLine
      rw [sizeLine_eq]
      omega
    have s6 := same_new (o := .lst (List.replicate (wx.length : Int).toNat [V.int 0]).flatten) hol
    have kol : (upd (upd H' l (.lst [V.int 0])) ol (.lst (List.replicate (wx.length : Int).toNat [V.int 0]).flatten)) ol = some (.lst ((List.replicate T0.length (0 : Int)).map V.int)) := by rw [upd_same, rep0, lw]
    have s56 := s5.trans s6
    have ol0 : H' ol = none := s5.free hol
    generalize upd (upd H' l (.lst [V.int 0])) ol (.lst (List.replicate (wx.length : Int).toNat [V.int 0]).flatten) = H5 at *
    refine ⟨_, rfl, (p : Int), 1, rfl, rfl, Nat.le_of_ble_eq_true rfl, fun tp htp => ?_⟩
    have s7 := same_new (o := .tup [V.int 1, V.int ((p : Int) - 1)]) htp
    have hol7 := s7 _ _ kol
    have s57 := s56.trans s7
    have ktp : (upd H5 tp (.tup [V.int 1, V.int ((p : Int) - 1)])) tp = some (.tup [V.int 1, V.int ((p : Int) - 1)]) := upd_same
    generalize upd H5 tp (.tup [V.int 1, V.int ((p : Int) - 1)]) = H7 at *
    have hit := List.idxOf_lt_length_of_mem htT
    refine ⟨tp, _, rfl, SqT.of ktp, rfl, V.int 1, _, rfl, _, rfl, _, rfl, _, rfl, d, _, rfl, look H7 b t (st.trans s57) htT (.inl (s57 _ _ hb)), ?_⟩
    refine ⟨ol, _, ((T0.idxOf t : Nat) : Int), T0.idxOf t, rfl, rfl, hol7, Evl.ixN_nat (by rw [List.length_map, List.length_replicate]; exact hit), ?_⟩
    refine ⟨V.int ((p : Int) - 1), _, rfl, _, rfl, _, rfl, ol, _, ((T0.idxOf (List.range n) : Nat) : Int), T0.idxOf (List.range n), rfl, rfl, upd_same, Evl.ixN_nat (by rw [List.length_set, List.length_map, List.length_replicate]; exact hi0), rfl, ?_⟩
    have s8 : Same H' (upd (upd H7 ol (.lst (((List.replicate T0.length (0 : Int)).map V.int).set (T0.idxOf t) (V.int 1)))) ol (.lst ((((List.replicate T0.length (0 : Int)).map V.int).set (T0.idxOf t) (V.int 1)).set (T0.idxOf (List.range n)) (V.int ((p : Int) - 1))))) := same_mut (same_mut s57 ol0) ol0
    have kol8 : (upd (upd H7 ol (.lst (((List.replicate T0.length (0 : Int)).map V.int).set (T0.idxOf t) (V.int 1)))) ol (.lst ((((List.replicate T0.length (0 : Int)).map V.int).set (T0.idxOf t) (V.int 1)).set (T0.idxOf (List.range n)) (V.int ((p : Int) - 1))))) ol = some (.lst ((row0 T0.length (T0.idxOf t) (T0.idxOf (List.range n)) p).map V.int)) := by
      rw [upd_same]
      unfold row0
      rw [List.map_set, List.map_set]
    generalize upd (upd H7 ol (.lst (((List.replicate T0.length (0 : Int)).map V.int).set (T0.idxOf t) (V.int 1)))) ol (.lst ((((List.replicate T0.length (0 : Int)).map V.int).set (T0.idxOf t) (V.int 1)).set (T0.idxOf (List.range n)) (V.int ((p : Int) - 1)))) = H8 at *
    have hnl8 := s8 _ _ hnl
    refine ⟨_, rfl, _, rfl, _, rfl, d, _, rfl, look H8 b t (st.trans s8) htT (.inl (s8 _ _ hb)), _, rfl, rfl, _, rfl, ite2 (fun hb2 => ?_) (fun hb2 => ?_)⟩
    · have hne : t ≠ List.range n := fun z => by
        rw [z] at hb2
        simp at hb2
      refine ⟨_, rfl, by show 1 ≤ sizeLine; decide, fun l1 hl1 => ?_⟩
      have s9 := same_new (o := .lst [V.ref ol]) hl1
      have hol9 := s9 _ _ kol8
      refine ⟨nl, l1, xs, [V.ref ol], rfl, rfl, s9 _ _ hnl8, upd_same, by rw [sizeLine_eq]; show xs.length + 1 ≤ _; omega, fun l2 hl2 => ?_⟩
      have s10 := same_new (o := .lst (xs ++ [V.ref ol])) hl2
      refine ⟨_, l2, _, xs ++ [.ref ol], rfl, st.trans ((s8.trans s9).trans s10), upd_same, ?_, by rw [List.length_append]; show xs.length + 1 ≤ _; omega⟩
      rw [List.take_add_one, ht, List.filter_append, List.map_append]
      have ef : ([t].filter fun t => decide (t ≠ List.range n)) = [t] := by simp [hne]
      show Paired _ _ (_ ++ ([t].filter fun t => decide (t ≠ List.range n)).map _)
      rw [ef]
      exact Paired.app (paired_mono (fun _ _ r => LI.same ((s8.trans s9).trans s10) r) pxs) (Paired.one ⟨ol, rfl, s10 _ _ hol9⟩)
    · have heq : t = List.range n := Classical.byContradiction fun z => hb2 (by
        have : T0.idxOf t ≠ T0.idxOf (List.range n) := fun e => z (idx_inj htT hs0 e)
        have h2 : V.int ((T0.idxOf t : Nat) : Int) ≠ V.int ((T0.idxOf (List.range n) : Nat) : Int) := fun e => by
          injection e with e
          omega
        show (!decide (V.int ((T0.idxOf t : Nat) : Int) = V.int ((T0.idxOf (List.range n) : Nat) : Int))) = true
        rw [decide_eq_false h2]
        rfl)
      refine ⟨Nat.zero_le _, fun l1 hl1 => ?_⟩
      have s9 := same_new (o := .lst []) hl1
      refine ⟨nl, l1, xs, [], rfl, rfl, s9 _ _ hnl8, upd_same, by rw [sizeLine_eq]; show xs.length + 0 ≤ _; omega, fun l2 hl2 => ?_⟩
      have s10 := same_new (o := .lst (xs ++ [])) hl2
      refine ⟨_, l2, _, xs ++ [], rfl, st.trans ((s8.trans s9).trans s10), upd_same, ?_, by rw [List.length_append]; show xs.length + 0 ≤ _; omega⟩
      rw [List.take_add_one, ht, List.filter_append, List.map_append]
      have ef : ([t].filter fun t => decide (t ≠ List.range n)) = [] := by simp [heq]
      show Paired _ _ (_ ++ ([t].filter fun t => decide (t ≠ List.range n)).map _)
      rw [ef]
      exact Paired.app (paired_mono (fun _ _ r => LI.same ((s8.trans s9).trans s10) r) pxs) .nil
  rintro σ H' ⟨y3, nl, y7, xs, rfl, st, hnl, pxs, lxs⟩
  rw [lw, List.take_length] at pxs
  have pxs : Paired (LI H') xs (rows0 T0 n p) := pxs
  have rl0 : (rows0 T0 n p).length ≤ 1000 := by
    have := Paired.length pxs
    omega
  have rok0 : ∀ r ∈ rows0 T0 n p, r.length = T0.length ∧ Bel p r := fun r hr => by
    obtain ⟨t, _, rfl⟩ := List.mem_map.mp hr
    exact ⟨row0_len, row0_bel p2⟩
  refine ⟨_, rfl, _, rfl, p, T0.length, nl, xs, rows0 T0 n p, rfl, hp, by omega, hnl, pxs, rl0, rok0, fun nl2 H5 ys s5 hnl2 hys pys => ?_⟩
  refine ⟨_, _, rfl, ?_⟩
  have st5 := st.trans s5
  have k0 : told < 60 := h60
  refine ⟨60, rfl, by decide, by decide, for_range (lo := 0) (n := 60) (fun k σ H' => ∃ y3 nl y7 y9 y10 y11 y12 y13 y14 ys, σ = [some (.ref a0), some (.ref wa), some (nI p), y3, some (nI (T0.idxOf (List.range n))), some (.ref d), some (.ref nl), y7, some (nI k), y9, y10, y11, y12, y13, y14, none, none, none] ∧ Same H3 H' ∧ H' nl = some (.lst ys) ∧ Paired (LI H') ys (nowM T0 ls n p k) ∧ k ≤ told)
    ⟨_, nl2, _, _, _, _, _, _, _, ys, rfl, st5, hys, pys, Nat.zero_le _⟩ ?_ ?_⟩
  · rintro k σ H6 hk ⟨y3, nl, y7, y9, y10, y11, y12, y13, y14, ys, rfl, st6, hnl6, pys6, ktold⟩
    have lys := Paired.length pys6
    have nlen := now_len C hgM hT hp k
    have nok := (now_ok C hgM hT hp k).1
    have hEk : nowM T0 ls n p k = [] → k = told := fun e => by
      by_cases h : k < told
      · exact absurd e (hGo k h)
      · omega
    have hNk : nowM T0 ls n p k ≠ [] → k < told := fun e => by
      by_cases h : k = told
      · rw [h] at e
        exact absurd hEnd e
      · omega
    have eNext : nowM T0 ls n p (k + 1) = (redM p ((nowM T0 ls n p k).flatMap fun one => ls.map fun g => row1 T0 p g one)).map (·.2) := rfl
    rw [eNext]
    clear eNext
    generalize nowM T0 ls n p k = now at *
    refine ⟨_, rfl, Nat.zero_le _, fun e he => ?_⟩
    have s7 := same_new (o := .lst []) he
    refine ⟨.list (now.map dL), .list [], .lst (SqL.of (s7 _ _ hnl6)) (LIs.dp (paired_mono (fun _ _ r => LI.same s7 r) pys6)), .lst (SqL.of upd_same) .nil, sh_dLs now, rfl, _, rfl, ?_⟩
    have hnl7 := s7 _ _ hnl6
    have pys7 : Paired (LI (upd H6 e (.lst []))) ys now := paired_mono (fun _ _ r => LI.same s7 r) pys6
    have st7 := st6.trans s7
    generalize upd H6 e (.lst []) = H7 at *
    by_cases hnow : now = []
    · have ek := hEk hnow
      subst ek
      subst hnow
      exact iteT ⟨_, rfl, q _ (st3.trans st7)⟩
    have hkt := hNk hnow
    have eF : PyData.eqv (.list (now.map dL)) (.list []) = false := by
      cases now with
      | nil => exact absurd rfl hnow
      | cons a r => rfl
    rw [eF]
    refine iteF ?_
    refine ⟨Nat.zero_le _, fun ll hll => ?_⟩
    have s8 := same_new (o := .lst []) hll
    have k8 : (upd H7 ll (.lst [])) ll = some (.lst []) := upd_same
    generalize upd H7 ll (.lst []) = H8 at *
    refine ⟨_, rfl, nl, rfl, ⟨_, SqL.of (s8 _ _ hnl7)⟩, for_list (K := K) (a := nl) (xs := ys) (fun i σ H' => ∃ y3 y7 y11 y12 y13 y14 zs, σ = [some (.ref a0), some (.ref wa), some (nI p), y3, some (nI (T0.idxOf (List.range n))), some (.ref d), some (.ref nl), y7, some (nI k), some (.int ((0 : Int) + (k : Nat))), some (.ref ll), y11, y12, y13, y14, none, none, none] ∧ Same H7 H' ∧ H' ll = some (.lst zs) ∧ Paired (LIn ll H') zs ((now.take i).flatMap fun one => ls.map fun g => row1 T0 p g one) ∧ zs.length ≤ i * 4)
      ⟨y3, y7, y11, y12, y13, y14, [], rfl, s8, k8, .nil, Nat.le_refl _⟩ (fun i σ H' _ ⟨_, _, _, _, _, _, _, _, st, _⟩ => SqL.of (st _ _ hnl7)) ?_ ?_⟩
    · rintro i x σ H9 hi ⟨z3, z7, z11, z12, z13, z14, zs, rfl, sm, hzs, pzs, lzs⟩
      have il := (List.getElem?_eq_some_iff.mp hi).1
      obtain ⟨one, ho, ro, rfl, hro⟩ := Paired.getL pys7 hi
      obtain ⟨o1, o2, _⟩ := nok one (List.mem_of_getElem? ho)
      have eN : (now.take (i + 1)).flatMap (fun one => ls.map fun g => row1 T0 p g one) = (now.take i).flatMap (fun one => ls.map fun g => row1 T0 p g one) ++ ls.map fun g => row1 T0 p g one := by
        rw [List.take_add_one, ho, List.flatMap_append]
        congr 1
        show [one].flatMap _ = _
        rw [List.flatMap_cons, List.flatMap_nil, List.append_nil]
      rw [eN]
      clear eN
      generalize (now.take i).flatMap (fun one => ls.map fun g => row1 T0 p g one) = R0 at *
      have ha7 : H7 a0 = some (.tup vx) := st7 _ _ ha3
      refine ⟨_, rfl, a0, rfl, ⟨_, SqT.of (sm _ _ ha7)⟩, for_tup (K := K) (a := a0) (xs := vx) (fun j σ H' => ∃ y3 y11 y12 y13 y14 zs, σ = [some (.ref a0), some (.ref wa), some (nI p), y3, some (nI (T0.idxOf (List.range n))), some (.ref d), some (.ref nl), some (.ref ro), some (nI k), some (.int ((0 : Int) + (k : Nat))), some (.ref ll), y11, y12, y13, y14, none, none, none] ∧ Same H7 H' ∧ H' ll = some (.lst zs) ∧ Paired (LIn ll H') zs (R0 ++ (ls.take j).map fun g => row1 T0 p g one) ∧ zs.length ≤ i * 4 + j)
        ⟨z3, z11, z12, z13, z14, zs, rfl, sm, hzs, by rw [List.take_zero, List.map_nil, List.append_nil]; exact pzs, lzs⟩ (fun j σ H' _ ⟨_, _, _, _, _, _, _, st, _⟩ => SqT.of (st _ _ ha7)) ?_ ?_⟩
      · rintro j x σ H10 hj ⟨w3, w11, w12, w13, w14, zs, rfl, sm10, hzs10, pzs10, lzs10⟩
        have jl : j < 4 := by
          have := (List.getElem?_eq_some_iff.mp hj).1
          have := Paired.length pv3
          omega
        obtain ⟨g, hg, gk⟩ := Paired.getL pv3 hj
        have hgm := List.mem_of_getElem? hg
        have gP := hls g hgm
        have stA : Same H3 H10 := st7.trans sm10
        refine ⟨by show 1 ≤ sizeLine; decide, fun l hl => ?_⟩
        have s5 := same_new (o := .lst [V.int 0]) hl
        refine ⟨_, rfl, wa, wx, rfl, .inl (SqL.of (s5 _ _ (stA _ _ hwa3))), l, (wx.length : Int), [V.int 0], rfl, rfl, upd_same, by omega, by omega, ?_, fun ml hml => ?_⟩
        · show 1 * (wx.length : Int).toNat ≤ sizeLine
          rw [sizeLine_eq]
          omega
        have s6 := same_new (o := .lst (List.replicate (wx.length : Int).toNat [V.int 0]).flatten) hml
        have kml : (upd (upd H10 l (.lst [V.int 0])) ml (.lst (List.replicate (wx.length : Int).toNat [V.int 0]).flatten)) ml = some (.lst ((mvA T0 p g one 0).map V.int)) := by rw [upd_same, rep0, lw, mvA_zero]
        have s56 := s5.trans s6
        have ml0 : H10 ml = none := s5.free hml
        generalize upd (upd H10 l (.lst [V.int 0])) ml (.lst (List.replicate (wx.length : Int).toNat [V.int 0]).flatten) = H11 at *
        have hro10 := sm10 _ _ hro
        have hwa10 := stA _ _ hwa3
        refine ⟨_, rfl, _, rfl, wa, ro, _, _, rfl, SqL.of (s56 _ _ hwa10), SqL.of (s56 _ _ hro10), RZ.for_zipL (K := K) (a := wa) (b := ro) (xs := wx) (ys := one.map V.int) (by rw [List.length_map]; omega) (fun m σ H' => ∃ y3 y13 y14, σ = [some (.ref a0), some (.ref wa), some (nI p), y3, some (nI (T0.idxOf (List.range n))), some (.ref d), some (.ref nl), some (.ref ro), some (nI k), some (.int ((0 : Int) + (k : Nat))), some (.ref ll), some x, some (.ref ml), y13, y14, none, none, none] ∧ Same H10 H' ∧ H' ml = some (.lst ((mvA T0 p g one m).map V.int)))
          ⟨w3, w13, w14, rfl, s56, kml⟩ (fun m σ H' ⟨_, _, _, _, st, _⟩ => ⟨SqL.of (st _ _ hwa10), SqL.of (st _ _ hro10)⟩) ?_ ?_⟩
        · rintro m xt xo T' σ H12 hxt hxo ⟨u3, u13, u14, rfl, sm12, hml12⟩ hT'
          obtain ⟨t, ht, tk⟩ := Paired.getL pw3 hxt
          rw [List.getElem?_map] at hxo
          obtain ⟨c, hc, rfl⟩ := Option.map_eq_some_iff.mp hxo
          have htT := List.mem_of_getElem? ht
          have sT := same_new (o := .tup [xt, V.int c]) hT'
          have kT : (upd H12 T' (.tup [xt, V.int c])) T' = some (.tup [xt, V.int c]) := upd_same
          have hml13 := sT _ _ hml12
          have sm13 := sm12.trans sT
          generalize upd H12 T' (.tup [xt, V.int c]) = H13 at *
          have stB := stA.trans sm13
          obtain ⟨m1, m2, m3⟩ := mvA_step (p := p) (one := one) C hT nd (hgM g hgm) ht
          refine ⟨T', _, rfl, SqT.of kT, rfl, xt, _, rfl, V.int c, _, rfl, rfl, ?_⟩
          refine ⟨_, rfl, _, rfl, _, rfl, pr_call (TK.tn (TK.tm (.of stB) tk)) (TN.tm (.of stB) gk) (hTP t htT) gP (by omega) fun r H14 s14 hr => ?_⟩
          obtain ⟨b, rfl, hb⟩ := hr.key
          refine ⟨d, _, rfl, look H14 b (prod t g) (stB.trans s14) m1 (.inl hb), ?_⟩
          have hml14 := s14 _ _ hml13
          refine ⟨_, rfl, _, rfl, ml, _, ((T0.idxOf (prod t g) : Nat) : Int), .int 0, rfl, rfl, SqL.of hml14, atI_nat (by rw [List.getElem?_map, m2]; rfl), _, rfl, 0, c, rfl, rfl, _, rfl, _, _, rfl, rfl, by omega, _, rfl, _, rfl, ml, _, ((T0.idxOf (prod t g) : Nat) : Int), T0.idxOf (prod t g), rfl, rfl, hml14, Evl.ixN_nat (by rw [List.length_map, mvA_len]; exact List.idxOf_lt_length_of_mem m1), ?_⟩
          refine ⟨_, _, _, rfl, same_mut (sm13.trans s14) ml0, ?_⟩
          rw [upd_same, ← m3, List.map_set, Int.zero_add]
          have : one.getD m 0 = c := getD_of hc
          rw [this]
        · rintro σ H12 ⟨u3, u13, u14, rfl, sm12, hml12⟩
          rw [lw] at hml12
          have hro12 := sm12 _ _ hro10
          have hzs12 := sm12 _ _ hzs10
          refine ⟨_, rfl, .inl ⟨rfl, _, SqL.of hzs12⟩, _, rfl, _, rfl, ml, ro, _, _, rfl, SqL.of hml12, SqL.of hro12, fun D3 hD3 => lc_genF (J := Itz K ml ro) (n := T0.length) IntR (fun _ => true) (fun i => (row1 T0 p g one).getD i 0) (fun _ _ _ _ _ r => r) (by omega) hD3 (fun i H3 hi s3 => ?_) (fun H3 s3 => ?_) (fun i H3 x H4 hi s3 y => ?_) (fun H14 zs3 s14 hz14 p14 => ?_)⟩
          · exact ⟨_, _, _, _, SqL.of (s3 _ _ hml12), SqL.of (s3 _ _ hro12), List.getElem?_eq_getElem (by rw [List.length_map, mvA_len]; omega), List.getElem?_eq_getElem (by rw [List.length_map]; omega)⟩
          · exact ⟨_, _, SqL.of (s3 _ _ hml12), SqL.of (s3 _ _ hro12), .inl (by rw [List.length_map, mvA_len]; exact Nat.le_refl _)⟩
          · obtain ⟨T', x1, y1, rfl, hT', rfl, g1, g2⟩ := y
            have g1 := g1 _ (SqL.of (s3 _ _ hml12))
            have g2 := g2 _ (SqL.of (s3 _ _ hro12))
            rw [List.getElem?_map] at g1 g2
            obtain ⟨a, ha, rfl⟩ := Option.map_eq_some_iff.mp g1
            obtain ⟨b, hb', rfl⟩ := Option.map_eq_some_iff.mp g2
            have sT := same_new (o := .tup [V.int a, V.int b]) hT'
            refine ⟨sT, _, fun Kk q => ⟨T', _, rfl, SqT.of upd_same, rfl, _, _, rfl, _, _, rfl, rfl, q⟩, rfl, fun Q q => q _ (Same.refl _), fun _ H6 s6 Q q => ?_⟩
            refine ⟨_, rfl, _, rfl, a, b, rfl, rfl, _, rfl, _, _, rfl, rfl, by omega, q _ _ (Same.refl _) ?_⟩
            show V.int _ = V.int _
            unfold row1
            rw [getD_of (sbm_get ha hb')]
          have e3 : zs3 = (row1 T0 p g one).map V.int := by
            rw [IntR.all p14]
            congr 1
            have lA : T0.length = (row1 T0 p g one).length := (row1_len o1).symm
            rw [lA, List.filter_eq_self.mpr (fun _ _ => rfl)]
            exact getDd_rng 0 _
          subst e3
          have hzs14 := s14 _ _ hzs12
          have D3ll : D3 ≠ ll := (ne_of_none hzs12 hD3).symm
          refine ⟨ll, zs, .ref D3, rfl, rfl, hzs14, by rw [sizeLine_eq]; omega, ?_⟩
          have sm14 := (sm10.trans sm12).trans s14
          have stp : Same H7 (upd H14 ll (.lst (zs ++ [V.ref D3]))) := same_mut sm14 hll
          refine ⟨_, _, _, _, _, zs ++ [.ref D3], rfl, stp, upd_same, ?_, by rw [List.length_append]; show zs.length + 1 ≤ _; omega⟩
          rw [List.take_add_one, hg, List.map_append, ← List.append_assoc]
          exact Paired.app (paired_mono (fun _ _ r => LIn.upd (LIn.same (sm12.trans s14) r)) pzs10) (Paired.one (LIn.upd ⟨D3, rfl, hz14, D3ll⟩))
      · rintro σ H10 ⟨w3, w11, w12, w13, w14, zs, rfl, sm10, hzs10, pzs10, lzs10⟩
        have lvx := Paired.length pv3
        rw [lvx, List.take_length] at pzs10
        exact ⟨_, _, _, _, _, _, zs, rfl, sm10, hzs10, pzs10, by omega⟩
    · rintro σ H9 ⟨z3, z7, z11, z12, z13, z14, zs, rfl, sm, hzs, pzs, lzs⟩
      rw [lys, List.take_length] at pzs
      have lzz := Paired.length pzs
      refine ⟨_, rfl, _, rfl, p, T0.length, ll, zs, _, rfl, hp, by omega, hzs, paired_mono (fun _ _ r => let ⟨l, e, h1, _⟩ := r; ⟨l, e, h1⟩) pzs, by omega, fun r hr => ?_, fun nl2 H10 ys2 s10 hnl2 hys2 pys2 => ?_⟩
      · obtain ⟨one, ho, h2⟩ := List.mem_flatMap.mp hr
        obtain ⟨g, _, rfl⟩ := List.mem_map.mp h2
        exact ⟨row1_len (nok one ho).1, row1_bel (by omega)⟩
      refine ⟨_, rfl, (k : Int), 1, rfl, rfl, _, _, rfl, ?_⟩
      exact ⟨_, nl2, _, _, _, _, _, _, _, ys2, rfl, (st7.trans sm).trans s10, hys2, pys2, hkt⟩
  · rintro σ H6 ⟨y3, nl, y7, y9, y10, y11, y12, y13, y14, ys, rfl, st6, hnl6, pys6, ktold⟩
    have ktold : 60 ≤ told := ktold
    omega
end
end Lt

set_option Elab.async false
set_option linter.all false
set_option maxRecDepth 100000
set_option maxHeartbeats 1000000
/-! k07: the law's terms by weights are the program's, mathematics -/
namespace Lt
open PySem PySem.Spec PyProof.Rows L2
theorem lowerSerZ {ls T0 : List (List Nat)} {n m : Nat} {Ts : List (List (List Nat))} (hls : ∀ g ∈ ls, IsP n g) (hf : Few ls n m) (hT : ∀ t, t ∈ T0 ↔ Mk ls n t) (h : SerM (Mb true T0) n T0 Ts) : Ser ls n T0 Ts := by
  have inv : ∀ (i : Nat) A, Ts[i]? = some A → Tm1 ls ls n A := fun i => by
    induction i with
    | zero =>
      intro A e
      rw [h.head] at e
      rw [← Option.some.inj e]
      exact Tm1.whole hls hf hT
    | succ i ih =>
      intro B e
      have l := (List.getElem?_eq_some_iff.mp e).1
      have e1 : Ts[i]? = some (Ts[i]'(by omega)) := List.getElem?_eq_getElem _
      exact ((ih _ e1).next hls hls ((Nx.whole hls hf hT (ih _ e1)).mpr (h.step i _ B e1 e).1)).1
  exact ⟨h.head, fun i A B h1 h2 => ⟨(Nx.whole hls hf hT (inv i A h1)).mpr (h.step i A B h1 h2).1, (h.step i A B h1 h2).2⟩, fun i A h1 h2 => let ⟨B, x, y⟩ := h.stop i A h1 h2; ⟨B, (Nx.whole hls hf hT (inv i A h1)).mpr x, y⟩⟩
/-- each later term's turns are among an earlier one's -/
theorem ser_dec {ls T0 : List (List Nat)} {n m : Nat} {Ts : LLN} (hls : ∀ g ∈ ls, IsP n g) (hf : Few ls n m) (hT : ∀ t, t ∈ T0 ↔ Mk ls n t) (nd : T0.Nodup) (h : Ser ls n T0 Ts) : ∀ (d a : Nat), a + d < Ts.length → ∀ t ∈ Ts.getD (a + d) [], t ∈ Ts.getD a []
  | 0, a, _, t, ht => ht
  | d + 1, a, hl, t, ht => by
    have e1 : Ts[a + d]? = some (Ts[a + d]'(by omega)) := List.getElem?_eq_getElem _
    have e2 : Ts[a + d + 1]? = some (Ts[a + d + 1]'(by omega)) := List.getElem?_eq_getElem _
    have s := ((ser_len hls hf hT nd h (a + d) _ e1).1.next hls hls (h.step (a + d) _ _ e1 e2).1).2
    refine ser_dec hls hf hT nd h d a (by omega) t ?_
    rw [List.getD_eq_getElem?_getD, e1]
    refine s t ?_
    rw [← Nat.add_assoc, List.getD_eq_getElem?_getD, e2] at ht
    exact ht
theorem pw_mulZ {n : Nat} {t : List Nat} (h : IsP n t) (a : Nat) : ∀ b, pw n t (a * b) = pw n (pw n t a) b
  | 0 => by rw [Nat.mul_zero]; rfl
  | b + 1 => by
    rw [Nat.mul_succ, pw_add h, pw_mulZ h a b]
    rfl
theorem pw_stillZ {n : Nat} : ∀ k, pw n (List.range n) k = List.range n
  | 0 => rfl
  | k + 1 => by
    show prod (pw n (List.range n) k) (List.range n) = List.range n
    rw [pw_stillZ k]
    exact prod_still_l (by rw [List.length_range])
/-- how often the law takes a turn -/
def mStep (p i w m : Nat) : Nat := if i * m < w then m * p else m
def mIt (p i w : Nat) : Nat → Nat
  | 0 => 1
  | k + 1 => mStep p i w (mIt p i w k)
def lMany (p i w : Nat) : Nat := mIt p i w 6
theorem mIt_ok {p i w : Nat} : ∀ k, ∃ j, j ≤ k ∧ mIt p i w k = p ^ j ∧ (j = 0 ∨ i * p ^ (j - 1) < w) ∧ (w ≤ i * p ^ j ∨ j = k)
  | 0 => ⟨0, Nat.le_refl _, rfl, .inl rfl, .inr rfl⟩
  | k + 1 => by
    obtain ⟨j, h1, h2, h3, h4⟩ := mIt_ok (p := p) (i := i) (w := w) k
    show ∃ j, j ≤ k + 1 ∧ mStep p i w (mIt p i w k) = p ^ j ∧ _
    unfold mStep
    rw [h2]
    by_cases h : i * p ^ j < w
    · rw [if_pos h]
      refine ⟨j + 1, by omega, (Nat.pow_succ ..).symm, .inr (by rw [Nat.add_sub_cancel]; exact h), ?_⟩
      rcases h4 with z | z
      · omega
      · exact .inr (by omega)
    · rw [if_neg h]
      exact ⟨j, by omega, rfl, h3, .inl (by omega)⟩
theorem lMany_ok {p i w : Nat} (p2 : 2 ≤ p) (i1 : 1 ≤ i) (w39 : w ≤ 39) : ∃ j, j ≤ 6 ∧ lMany p i w = p ^ j ∧ (j = 0 ∨ i * p ^ (j - 1) < w) ∧ w ≤ i * p ^ j := by
  obtain ⟨j, h1, h2, h3, h4⟩ := mIt_ok (p := p) (i := i) (w := w) 6
  refine ⟨j, h1, h2, h3, ?_⟩
  rcases h4 with z | z
  · exact z
  · subst z
    have a1 : 2 ^ 6 ≤ p ^ 6 := Nat.pow_le_pow_left p2 6
    have a2 : 1 * p ^ 6 ≤ i * p ^ 6 := Nat.mul_le_mul_right _ i1
    have : (2 : Nat) ^ 6 = 64 := rfl
    omega
def lawMk (n p : Nat) (Ts : LLN) (w : Nat) : List (List Nat) := (List.range Ts.length).flatMap fun i => (Ts.getD i []).map fun t => pw n t (lMany p (i + 1) w)
theorem mkrs_in {n p w : Nat} {Ts : LLN} {t : List Nat} (p2 : 2 ≤ p) : ∀ (k f q : Nat), k < f → q * p ^ k < p * w → t ∈ powIn n Ts w (q * p ^ k) → t ∈ mkrs n p Ts w f q
  | _, 0, _, h, _, _ => absurd h (Nat.not_lt_zero _)
  | 0, f + 1, q, _, h, ht => by
    rw [Nat.pow_zero, Nat.mul_one] at h ht
    unfold mkrs
    rw [if_pos h]
    exact List.mem_append_left _ ht
  | k + 1, f + 1, q, hk, h, ht => by
    have e : q * p ^ (k + 1) = q * p * p ^ k := by rw [Nat.pow_succ, Nat.mul_assoc, Nat.mul_comm p]
    rw [e] at h ht
    have hq : q < p * w := by
      refine Nat.lt_of_le_of_lt ?_ h
      have h1 : q * 1 ≤ q * p := Nat.mul_le_mul_left _ (by omega)
      have h2 : q * p * 1 ≤ q * p * p ^ k := Nat.mul_le_mul_left _ (Nat.pow_pos (by omega))
      omega
    unfold mkrs
    rw [if_pos hq]
    exact List.mem_append_right _ (mkrs_in p2 k f (q * p) (by omega) h ht)
theorem mkrs_out {n p w : Nat} {Ts : LLN} {t : List Nat} : ∀ (f q : Nat), t ∈ mkrs n p Ts w f q → ∃ k, t ∈ powIn n Ts w (q * p ^ k)
  | 0, _, h => by cases h
  | f + 1, q, h => by
    unfold mkrs at h
    split at h
    · rcases List.mem_append.mp h with z | z
      · exact ⟨0, by rw [Nat.pow_zero, Nat.mul_one]; exact z⟩
      · obtain ⟨k, hk⟩ := mkrs_out f (q * p) z
        exact ⟨k + 1, by rw [Nat.pow_succ, Nat.mul_comm (p ^ k), ← Nat.mul_assoc]; exact hk⟩
    · cases h
theorem cdiv_le {w q i : Nat} (q1 : 1 ≤ q) (h : w ≤ i * q) : cdiv w q ≤ i := by
  unfold cdiv
  refine Nat.le_of_lt_succ ((Nat.div_lt_iff_lt_mul (by omega)).mpr ?_)
  rw [Nat.succ_mul]
  omega
theorem le_cdiv {w q : Nat} (q1 : 1 ≤ q) : w ≤ cdiv w q * q := by
  unfold cdiv
  have := Nat.div_add_mod (w + q - 1) q
  have h2 := Nat.mod_lt (w + q - 1) (show q > 0 by omega)
  rw [Nat.mul_comm] at this
  omega
theorem cdiv_pos {w q : Nat} (q1 : 1 ≤ q) (w1 : 1 ≤ w) : 1 ≤ cdiv w q := by
  unfold cdiv
  exact (Nat.le_div_iff_mul_le (by omega)).mpr (by omega)
/-- the last term is the still turn alone -/
def DiesZ (n : Nat) (Ts : LLN) : Prop := ∀ A, Ts.getLast? = some A → A.length = 1
theorem law_wMk {ls T0 : List (List Nat)} {n m p w : Nat} {Ts : LLN} (hls : ∀ g ∈ ls, IsP n g) (hf : Few ls n m) (hT : ∀ t, t ∈ T0 ↔ Mk ls n t) (nd : T0.Nodup) (h : Ser ls n T0 Ts) (hd : DiesZ n Ts) (p2 : 2 ≤ p) (w1 : 1 ≤ w) (w39 : w ≤ 39) :
    ∀ t, Mk (lawMk n p Ts w) n t ↔ Mk (wMk n p Ts w) n t := by
  have sl := ser_len hls hf hT nd h
  have dec := ser_dec hls hf hT nd h
  have inP : ∀ i, ∀ t ∈ Ts.getD i [], IsP n t := fun i t ht => by
    rw [List.getD_eq_getElem?_getD] at ht
    cases e : Ts[i]? with
    | none => rw [e] at ht; cases ht
    | some A =>
      rw [e] at ht
      exact ((sl i A e).1.sub t ht).isP hls
  have lP : ∀ x ∈ lawMk n p Ts w, IsP n x := fun x hx => by
    obtain ⟨i, _, h2⟩ := List.mem_flatMap.mp hx
    obtain ⟨t, ht, rfl⟩ := List.mem_map.mp h2
    exact pw_isP (inP i t ht) _
  have wP : ∀ x ∈ wMk n p Ts w, IsP n x := fun x hx => by
    obtain ⟨k, hk⟩ := mkrs_out 64 1 hx
    obtain ⟨t, ht, rfl⟩ := List.mem_map.mp hk
    exact pw_isP (inP _ t ht) _
  refine fun t => ⟨fun z => z.mono wP fun x hx => ?_, fun z => z.mono lP fun x hx => ?_⟩
  · obtain ⟨i, hi, h2⟩ := List.mem_flatMap.mp hx
    obtain ⟨y, hy, rfl⟩ := List.mem_map.mp h2
    have hi := List.mem_range.mp hi
    obtain ⟨j, j6, e, h3, h4⟩ := lMany_ok (i := i + 1) (w := w) p2 (by omega) w39
    rw [e]
    refine .one wP (mkrs_in p2 j 64 1 (by omega) ?_ ?_)
    · rw [Nat.one_mul]
      rcases h3 with z | z
      · subst z
        have : 2 * 1 ≤ p * w := Nat.mul_le_mul p2 w1
        rw [Nat.pow_zero]
        omega
      · cases j with
        | zero =>
          have : 2 * 1 ≤ p * w := Nat.mul_le_mul p2 w1
          rw [Nat.pow_zero]
          omega
        | succ j =>
          rw [Nat.add_sub_cancel] at z
          have h5 : 1 * p ^ j ≤ (i + 1) * p ^ j := Nat.mul_le_mul_right _ (by omega)
          rw [Nat.pow_succ, Nat.mul_comm]
          exact Nat.mul_lt_mul_of_pos_left (by omega) (by omega)
    · rw [Nat.one_mul]
      refine List.mem_map.mpr ⟨y, ?_, rfl⟩
      have q1 : 1 ≤ p ^ j := Nat.pow_pos (by omega)
      have c1 := cdiv_le q1 h4
      have c2 := cdiv_pos q1 w1
      have := dec (i - (min (cdiv w (p ^ j)) Ts.length - 1)) (min (cdiv w (p ^ j)) Ts.length - 1) (by omega) y
      rw [show min (cdiv w (p ^ j)) Ts.length - 1 + (i - (min (cdiv w (p ^ j)) Ts.length - 1)) = i by omega] at this
      exact this hy
  · obtain ⟨k, hk⟩ := mkrs_out 64 1 hx
    rw [Nat.one_mul] at hk
    obtain ⟨y, hy, rfl⟩ := List.mem_map.mp hk
    have q1 : 1 ≤ p ^ k := Nat.pow_pos (by omega)
    have c2 := cdiv_pos q1 w1
    have l1 : 1 ≤ Ts.length := by have := (List.getElem?_eq_some_iff.mp h.head).1; omega
    by_cases hc : cdiv w (p ^ k) ≤ Ts.length
    · have em : min (cdiv w (p ^ k)) Ts.length - 1 = cdiv w (p ^ k) - 1 := by omega
      rw [em] at hy
      have c3 := le_cdiv (w := w) q1
      obtain ⟨j, j6, e, h3, h4⟩ := lMany_ok (i := cdiv w (p ^ k)) (w := w) p2 c2 w39
      have hjk : j ≤ k := by
        rcases h3 with z | z
        · omega
        · refine Classical.byContradiction fun hn => ?_
          have h5 : p ^ k ≤ p ^ (j - 1) := Nat.pow_le_pow_right (by omega) (by omega)
          have h6 : cdiv w (p ^ k) * p ^ k ≤ cdiv w (p ^ k) * p ^ (j - 1) := Nat.mul_le_mul_left _ h5
          omega
      have hm : pw n y (p ^ j) ∈ lawMk n p Ts w := by
        refine List.mem_flatMap.mpr ⟨cdiv w (p ^ k) - 1, List.mem_range.mpr (by omega), List.mem_map.mpr ⟨y, hy, ?_⟩⟩
        rw [show cdiv w (p ^ k) - 1 + 1 = cdiv w (p ^ k) by omega, e]
      have e2 : p ^ k = p ^ j * p ^ (k - j) := by rw [← Nat.pow_add]; congr 1; omega
      have yP := inP _ y hy
      rw [e2, pw_mulZ yP]
      exact (Mk.one lP hm).pw lP _
    · have em : min (cdiv w (p ^ k)) Ts.length - 1 = Ts.length - 1 := by omega
      rw [em] at hy
      have e1 : Ts[Ts.length - 1]? = some (Ts[Ts.length - 1]'(by omega)) := List.getElem?_eq_getElem _
      have hA := sl _ _ e1
      have hl := hd _ (by rw [List.getLast?_eq_getElem?]; exact e1)
      rw [List.getD_eq_getElem?_getD, e1] at hy
      obtain ⟨x, ex⟩ := List.length_eq_one_iff.mp hl
      have hst := hA.1.still
      rw [ex] at hst
      have hy : y ∈ (Ts[Ts.length - 1]'(by omega)) := hy
      rw [ex] at hy
      rw [List.mem_singleton.mp hy, ← List.mem_singleton.mp hst, pw_stillZ]
      exact .still
theorem wCnt_lt {n p : Nat} {Ts : LLN} : ∀ (f w i : Nat), i < wCnt n p Ts f w → 1 < szS n (wMk n p Ts (w + i))
  | 0, _, _, h => absurd h (Nat.not_lt_zero _)
  | f + 1, w, i, h => by
    unfold wCnt at h
    split at h
    · rename_i h1
      cases i with
      | zero => exact h1
      | succ i =>
        have := wCnt_lt (n := n) (p := p) (Ts := Ts) f (w + 1) i (by omega)
        rw [show w + (i + 1) = w + 1 + i by omega]
        exact this
    · exact absurd h (Nat.not_lt_zero _)
theorem wCnt_end {n p : Nat} {Ts : LLN} : ∀ (f w : Nat), wCnt n p Ts f w < f → ¬ 1 < szS n (wMk n p Ts (w + wCnt n p Ts f w))
  | 0, _, h => absurd h (Nat.not_lt_zero _)
  | f + 1, w, h => by
    unfold wCnt at h ⊢
    split
    · rename_i h1
      rw [if_pos h1] at h
      have := wCnt_end (n := n) (p := p) (Ts := Ts) f (w + 1) (by omega)
      rw [show w + (wCnt n p Ts f (w + 1) + 1) = w + 1 + wCnt n p Ts f (w + 1) by omega]
      exact this
    · rename_i h1
      exact h1
/-- the number of terms is at most the told number -/
theorem wCnt_told {n p told : Nat} {Ts : LLN} (p2 : 2 ≤ p) (h : toldN n p Ts = told) : wCnt n p Ts 64 1 ≤ told := by
  have go : ∀ (l : List Nat), (∀ i ∈ l, 1 ≤ i) → l.length ≤ l.sum := fun l => by
    induction l with
    | nil => intro _; exact Nat.le_refl _
    | cons x l ih =>
      intro hl
      have h1 := hl x List.mem_cons_self
      have h2 := ih fun i hi => hl i (List.mem_cons_of_mem _ hi)
      rw [List.length_cons, List.sum_cons]
      omega
  have h1 := go ((List.range (wCnt n p Ts 64 1)).map fun i => expo p 64 (szS n (wMk n p Ts (i + 1)))) fun x hx => by
    obtain ⟨i, hi, rfl⟩ := List.mem_map.mp hx
    have := wCnt_lt 64 1 i (List.mem_range.mp hi)
    rw [Nat.add_comm] at this
    show 1 ≤ expo p (63 + 1) _
    unfold expo
    rw [if_pos this]
    exact Nat.succ_le_succ (Nat.zero_le _)
  rw [List.length_map, List.length_range] at h1
  have h3 : toldN n p Ts = (p - 1) * ((List.range (wCnt n p Ts 64 1)).map fun i => expo p 64 (szS n (wMk n p Ts (i + 1)))).sum := rfl
  have h4 : 1 * ((List.range (wCnt n p Ts 64 1)).map fun i => expo p 64 (szS n (wMk n p Ts (i + 1)))).sum ≤ (p - 1) * ((List.range (wCnt n p Ts 64 1)).map fun i => expo p 64 (szS n (wMk n p Ts (i + 1)))).sum := Nat.mul_le_mul_right _ (by omega)
  omega
end Lt

set_option Elab.async false
set_option linter.all false
set_option maxRecDepth 100000
set_option maxHeartbeats 2000000
/-! group_of, of makers whose objects may be known -/
namespace Lt
open PySem PySem.Spec PyProof.Rows L2
theorem TN.keyR {H : Hp} {v : V} {t : List Nat} (h : TN H v t) : ∃ b, v = .ref b ∧ RT H b ((keyN t).map kV) := by
  obtain ⟨a, e, ha⟩ := h
  refine ⟨a, e, ?_⟩
  have : (keyN t).map kV = nIs t := by
    unfold keyN nIs
    rw [List.map_map]
    rfl
  rw [this]
  exact ha
section
variable {P : Program} {w : World} {K : PySem.W.Frag} {mg : Str → Option Value} {base : Heap} {CP : Addr}
def spGroupR : Sp := fun vs H Q _ => ∃ (ml : Addr) (ms : List (List Nat)) (n : Nat), vs = [.ref ml, nI n] ∧ LT H ml ms ∧ (∀ g ∈ ms, IsP n g) ∧ 1 ≤ n ∧ n ≤ 9 ∧ Few ms n 63 ∧
  ∀ p fl tv few ts H', Same H H' → H' p = some (.tup [.ref fl, tv]) → H fl = none → LT H' fl few → TTK H' tv ts → (∀ g ∈ few, g ∈ ms) → few.length ≤ 63 → (∀ t, Mk few n t ↔ Mk ms n t) → ts.Nodup → (∀ t, t ∈ ts ↔ Mk ms n t) → Asc ts → Q (.ref p) H'
theorem has_group_ofR (T : Top K mg "group_of" s_group_of ["makers", "size"]) (B : Bi mg) (hS : Has P w K mg base CX0 1 "still_of" ["size"] spStill) (hW : Has P w K mg base CX0 2 "words_of" ["makers", "size"] spWordsL) : Has P w K mg base CX0 3 "group_of" ["makers", "size"] spGroupR := by
  refine T.ok sc_group_of (fun vs H Q E h => ?_) (fun f cdv A outer s H vs Q E hr h => ?_)
  · obtain ⟨ml, ms, n, rfl, _⟩ := h
    rfl
  · obtain ⟨ml, ms, n, rfl, ⟨mx, hml, pm⟩, hms, hn1, hn9, hf, q⟩ := h
    have hu := hu_of hr
    have hr1 : Room 1 _ := hr.mono (by decide)
    refine ⟨_, pss_cons (ps_set (i := 2) sc_group_of.nd rfl (Or.inl rfl) (pe_lst pa_nil))
      (pss_cons (ps_set (i := 3) sc_group_of.nd rfl (Or.inl rfl) (pe_lst (pa_cons (pe_has hS hr1 (by rfl) (pa_cons (pv 1) pa_nil)) pa_nil)))
      (pss_cons (ps_set (i := 4) sc_group_of.nd rfl (Or.inl rfl) (pe_dispT hu (pe_ix ix_list (pv 3) pe_int (fun _ _ => rfl)) pe_bl))
      (pss_cons (ps_for PassesOwn.never rfl (pi_list (pv 0)) (pg_name (i := 5) sc_group_of.nd rfl (Or.inl rfl))
        (pss_one (ps_if (pt_cmp (pc_dnotinQ hu (pv 5) (pv 4)))
          (pss_cons (ps_expr (pe_bm PySem.F.plainAttrs_list PySem.F.slot_list_append PySem.F.type_list_append mt_append (pv 2) (pa_cons (pv 5) pa_nil)))
          (pss_cons (ps_set (i := 4) sc_group_of.nd rfl (Or.inl rfl) (pe_has hW hr (by rfl) (pa_cons (pv 2) (pa_cons (pv 1) pa_nil))))
          (pss_one (ps_set (i := 3) sc_group_of.nd rfl (Or.inl rfl) (pe_callB (cr_sortDT (d := n) (B := 9) rfl hn1) (by rfl) B.sorted PyProof.Rows.boot_sorted (pa_cons (pv 4) pa_nil)))))) pss_nil)))
      (pss_one (ps_ret (pe_tup (pa_cons (pv 2) (pa_cons (pe_tupleOf (by rfl) B.tuple (pv 3)) pa_nil)))))))), ?_⟩
    refine ⟨Nat.zero_le _, fun fl hfl => ?_⟩
    have s1 := same_new (o := .lst []) hfl
    refine ⟨_, rfl, n, rfl, by omega, fun sv H1 s2 hsv => ?_⟩
    refine ⟨Nat.le_of_ble_eq_true rfl, fun tl htl => ?_⟩
    have s3 := same_new (o := .lst [sv]) htl
    obtain ⟨b, rfl, hb⟩ := hsv.key
    refine fun d hd => ?_
    have s4 := same_new (o := .dT []) hd
    have fl0 : H fl = none := hfl
    have hml1 := s2 _ _ (s1 _ _ hml)
    have fl1 := s2 _ _ (upd_same (H := H) (a := fl) (o := .lst []))
    have tl0 : H tl = none := (s1.trans s2).free htl
    have d0 : H d = none := ((s1.trans s2).trans s3).free hd
    have htd : tl ≠ d := fun z => by rw [← z, upd_same] at hd; cases hd
    have hfd : fl ≠ d := ne_of_none (s3 _ _ fl1) hd
    refine ⟨_, rfl, tl, [V.ref b], 0, .ref b, rfl, rfl, SqL.of (s4 _ _ upd_same), rfl, b, keyN (List.range n), rfl, upd_same, s4 _ _ (s3 _ _ hb), ?_⟩
    have sD : Same H (upd (upd (upd H1 tl (.lst [V.ref b])) d (.dT [])) d (.dT [(keyN (List.range n), V.bl true)])) := same_mut (((s1.trans s2).trans s3).trans s4) d0
    have tD : Tm H1 (upd (upd (upd H1 tl (.lst [V.ref b])) d (.dT [])) d (.dT [(keyN (List.range n), V.bl true)])) := (Tm.of (s3.trans s4)).trans (Tm.dT upd_same)
    refine ⟨_, rfl, ml, rfl, ⟨_, SqL.of (sD _ _ hml)⟩, for_list (K := K) (a := ml) (xs := mx)
      (fun i σ H' => ∃ x5 dl tl few ks ts, σ = [some (.ref ml), some (nI n), some (.ref fl), some (.ref tl), some (.ref dl), x5] ∧ Same H H' ∧ LT H' fl few ∧ DKs H' dl ks ∧ LK H' tl ts ∧ few.Nodup ∧ (∀ g ∈ few, g ∈ ms) ∧ (∀ g ∈ ms.take i, Mk few n g) ∧ (∀ t, t ∈ ks ↔ Mk few n t) ∧ ts.Nodup ∧ (∀ t, t ∈ ts ↔ Mk few n t) ∧ Asc ts)
      ⟨none, d, tl, [], [List.range n], [List.range n], rfl, sD, ⟨[], ?_, .nil⟩, ⟨[(keyN (List.range n), V.bl true)], upd_same, rfl⟩, ⟨[.ref b], ?_, .cons (TK.tm tD hsv) .nil⟩, List.nodup_nil, (fun g h => by cases h), (fun g h => by rw [List.take_zero] at h; cases h), fun t => ?_, List.nodup_cons.mpr ⟨List.not_mem_nil, List.nodup_nil⟩, fun t => ?_, List.pairwise_singleton ..⟩
      (fun i σ H' _ ⟨_, _, _, _, _, _, _, st, _⟩ => SqL.of (st _ _ hml)) ?_ ?_⟩
    · rw [upd_ne hfd, upd_ne hfd, s3 _ _ fl1]
    · rw [upd_ne htd, upd_ne htd, upd_same]
    · rw [List.mem_singleton]
      exact ⟨fun z => by rw [z]; exact .still, Mk.nil⟩
    · rw [List.mem_singleton]
      exact ⟨fun z => by rw [z]; exact .still, Mk.nil⟩
    · rintro i x σ H' hi ⟨x5, dl, tl, few, ks, ts, rfl, st, ⟨fx, hfx, pf⟩, ⟨kvs, hk, ek⟩, lts, fnd, fms, ftk, hks, tnd, hts, asc⟩
      obtain ⟨g, hg, hgk⟩ := Paired.getL pm hi
      have gms := List.mem_of_getElem? hg
      have hgk' := TN.tm (.of st) hgk
      obtain ⟨gb, rfl, hgb⟩ := TN.keyR hgk'
      refine ⟨_, rfl, _, rfl, dl, _, rfl, ⟨kvs, keyN g, gb, .inl hk, rfl, hgb, rfl⟩, _, rfl, ?_⟩
      rw [dks_isSome ek]
      have ftake : ∀ (few' : List (List Nat)), (∀ x ∈ few', IsP n x) → (∀ x ∈ few, x ∈ few') → Mk few' n g → ∀ g ∈ ms.take (i + 1), Mk few' n g := fun few' h1 h2 h3 g' hg' => by
        rw [List.take_add_one, hg] at hg'
        rcases List.mem_append.mp hg' with z | z
        · exact (ftk g' z).mono h1 fun y hy => .one h1 (h2 y hy)
        · rw [List.mem_singleton.mp z]
          exact h3
      have fP : ∀ x ∈ few, IsP n x := fun x hx => hms x (fms x hx)
      by_cases hin : g ∈ ks
      · rw [decide_eq_true hin]
        exact iteF ⟨_, _, _, few, ks, ts, rfl, st, ⟨fx, hfx, pf⟩, ⟨kvs, hk, ek⟩, lts, fnd, fms, ftake few fP (fun _ h => h) ((hks g).mp hin), hks, tnd, hts, asc⟩
      · rw [decide_eq_false hin]
        refine iteT ?_
        have flen : few.length ≤ 63 := hf.le fnd fun t h => .one hms (fms t h)
        refine ⟨_, rfl, .inl ⟨rfl, _, SqL.of hfx⟩, _, rfl, fl, fx, .ref gb, rfl, rfl, hfx, by rw [sizeLine_eq, Paired.length pf]; omega, ?_⟩
        have tA := Tm.lst (o := .lst (fx ++ [V.ref gb])) hfx
        have stA : Same H (upd H' fl (.lst (fx ++ [V.ref gb]))) := same_mut st hfl
        have ltA : LT (upd H' fl (.lst (fx ++ [V.ref gb]))) fl (few ++ [g]) := ⟨_, upd_same, Paired.app (TNs.tm tA pf) (Paired.one (TN.tm tA hgk'))⟩
        have fms' : ∀ y ∈ few ++ [g], y ∈ ms := fun y hy => (List.mem_append.mp hy).elim (fms y) fun z => by rw [List.mem_singleton.mp z]; exact gms
        have fP' : ∀ y ∈ few ++ [g], IsP n y := fun y hy => hms y (fms' y hy)
        have sub : ∀ t, Mk (few ++ [g]) n t → Mk ms n t := fun t h => h.mono hms fun y hy => .one hms (fms' y hy)
        refine ⟨_, rfl, _, rfl, fl, few ++ [g], n, rfl, ltA, fP', by omega, by rw [List.length_append]; show few.length + 1 ≤ 1000; omega, fun d2 H2 L s5 hd2 dw hW => ?_⟩
        obtain ⟨aa, eL, eLl, l63⟩ := (hf.sub sub).wd (by omega) hW
        have hP2 := wd_isP fP' hW
        obtain ⟨kv2, hk2, pk2⟩ := dw
        refine ⟨_, rfl, d2, kv2, numL L, rfl, .inl hk2, keysI pk2, by rw [List.length_map]; omega, fun k hk => ?_, fun bs ks' p pmm so pr hp => ?_⟩
        · obtain ⟨y, hy, rfl⟩ := List.mem_map.mp hk
          exact ⟨by rw [List.length_map, (hP2 y hy).len], bd_iN (hP2 y hy) hn9⟩
        · obtain ⟨ts2, rfl⟩ := turns_back (L := L) fun k hk => pmm.mem_iff.mp hk
          have pm2 : ts2.Perm (L.map (·.1)) := perm_iN (by
            rw [List.map_map]
            exact pmm)
          have s6 := same_new (o := .lst (bs.map V.ref)) hp
          have full : ∀ t, t ∈ L.map (·.1) ↔ Mk (few ++ [g]) n t := fun t => by
            rw [eL]
            exact qq_full (Nat.le_of_eq (by rw [← eL]; exact eLl)) t
          have hgn : g ∉ few := fun z => hin ((hks g).mpr (.one fP z))
          exact ⟨_, d2, p, few ++ [g], L.map (·.1), ts2, rfl, (stA.trans s5).trans s6, LT.same (s5.trans s6) ltA, (DW.same ⟨kv2, hk2, pk2⟩ s6).dks, ⟨_, upd_same, TKs.tm (.of s6) (tns_of pr)⟩, nodup_snoc fnd hgn, fms',
            ftake (few ++ [g]) fP' (fun y hy => List.mem_append.mpr (.inl hy)) (.one fP' (List.mem_append.mpr (.inr List.mem_cons_self))), full, (List.Perm.nodup_iff pm2).mpr (by rw [eL]; exact qq_nd _ n aa), fun t => (pm2.mem_iff).trans (full t), (List.pairwise_map (f := iN) (R := fun x y => TS.code 9 x ≤ TS.code 9 y)).mp so⟩
    · rintro σ H' ⟨x5, dl, tl, few, ks, ts, rfl, st, ltf, _, ⟨tx, htx, ptx⟩, fnd, fms, ftk, hks, tnd, hts, asc⟩
      rw [Paired.length pm, List.take_length] at ftk
      have fP : ∀ x ∈ few, IsP n x := fun x hx => hms x (fms x hx)
      have eq : ∀ t, Mk few n t ↔ Mk ms n t := fun t => ⟨fun h => h.mono hms fun y hy => .one hms (fms y hy), fun h => h.mono fP ftk⟩
      refine ⟨_, rfl, _, rfl, .inl ⟨tl, tx, rfl, SqL.of htx, fun tp htp => ?_⟩⟩
      have s7 := same_new (o := .tup tx) htp
      refine ⟨Nat.le_of_ble_eq_true rfl, fun p hp => ?_⟩
      have s8 := same_new (o := .tup [V.ref fl, V.ref tp]) hp
      exact q p fl (.ref tp) few ts _ ((st.trans s7).trans s8) upd_same fl0 (LT.same (s7.trans s8) ltf) ⟨tp, tx, rfl, s8 _ _ upd_same, TKs.tm (.of (s7.trans s8)) ptx⟩ fms (hf.le fnd fun t h => .one hms (fms t h)) eq tnd (fun t => (hts t).trans (eq t)) asc
end
end Lt

set_option Elab.async false
set_option linter.all false
set_option maxRecDepth 100000
set_option maxHeartbeats 2000000
/-! power_of and made_by, of turns whose objects may be known -/
namespace Lt
open PySem PySem.Spec PyProof.Rows L2
section
variable {P : Program} {w : World} {K : PySem.W.Frag} {mg : Str → Option Value} {base : Heap}
def spPowerN : Sp := fun vs H Q _ => ∃ (v : V) (t : List Nat) (n k : Nat), vs = [v, nI k] ∧ TN H v t ∧ IsP n t ∧ n ≤ 9 ∧ 1 ≤ k ∧ k ≤ 10000000 ∧ ∀ r H', Same H H' → TN H' r (pw n t k) → Q r H'
theorem has_power_ofN (T : Top K mg "power_of" s_power_of ["turn", "many"]) (B : Bi mg) (hP : Has P w K mg base CX0 1 "product_of" ["one", "other"] spProd) : Has P w K mg base CX0 2 "power_of" ["turn", "many"] spPowerN := by
  refine T.ok sc_power_of (fun vs H Q E h => ?_) (fun f cdv A outer s H vs Q E hr h => ?_)
  · obtain ⟨v, t, n, k, rfl, _⟩ := h
    rfl
  · obtain ⟨v, t, n, k, rfl, ht, hP', n9, k1, km, q⟩ := h
    have hr1 : Room 1 _ := hr.mono (by decide)
    refine ⟨_, pss_cons (ps_set (i := 2) sc_power_of.nd rfl (Or.inl rfl) (pv 0))
      (pss_cons (ps_for PassesOwn.never rfl (pi_range1 (by rfl) B.range (pa_cons (pe_op op_sub (pv 1) pe_int) pa_nil)) (pg_name (i := 3) sc_power_of.nd rfl (Or.inl rfl))
        (pss_one (ps_set (i := 2) sc_power_of.nd rfl (Or.inl rfl) (pe_has hP hr1 (by rfl) (pa_cons (pv 2) (pa_cons (pv 0) pa_nil))))))
      (pss_one (ps_ret (pv 2)))), ?_⟩
    refine ⟨_, rfl, _, rfl, (k : Int), 1, rfl, rfl, _, rfl, by omega, by omega, for_range (lo := 0) (n := ((k : Int) - 1).toNat) (fun i σ H' => ∃ r y3, σ = [some v, some (nI k), some r, y3] ∧ Same H H' ∧ TN H' r (pw n t (i + 1))) ⟨v, none, rfl, Same.refl _, by rw [pw_one hP']; exact ht⟩ ?_ ?_⟩
    · rintro i σ H' hi ⟨r, y3, rfl, sm, hr'⟩
      exact ⟨_, rfl, _, rfl, pr_call hr' (ht.tm (.of sm)) (pw_isP hP' _) hP' (by omega) fun r2 H5 s5 hr2 => ⟨r2, _, rfl, sm.trans s5, hr2.tn⟩⟩
    · rintro σ H' ⟨r, y3, rfl, sm, hr'⟩
      have e : ((k : Int) - 1).toNat + 1 = k := by omega
      rw [e] at hr'
      exact ⟨_, rfl, q r H' sm hr'⟩
def spMadeByR : Sp := fun vs H Q _ => ∃ (ml : Addr) (ms : List (List Nat)) (n : Nat), vs = [.ref ml] ∧ LT H ml ms ∧ (∀ g ∈ ms, IsP n g) ∧ 1 ≤ ms.length ∧ 1 ≤ n ∧ n ≤ 9 ∧ Few ms n 63 ∧
  ∀ p fl tv few ts H', Same H H' → H' p = some (.tup [.ref fl, tv]) → H fl = none → LT H' fl few → TTK H' tv ts → few.length ≤ 63 → (∀ t, Mk few n t ↔ Mk ms n t) → (∀ g ∈ few, g ∈ ms) → SpU n ms ts → Q (.ref p) H'
theorem has_made_byR (T : Top K mg "made_by" s_made_by ["makers"]) (B : Bi mg) (hG : Has P w K mg base CX0 3 "group_of" ["makers", "size"] spGroupR) : Has P w K mg base CX0 4 "made_by" ["makers"] spMadeByR := by
  refine T.ok sc_made_by (fun vs H Q E h => ?_) (fun f cdv A outer s H vs Q E hr h => ?_)
  · obtain ⟨ml, ms, n, rfl, _⟩ := h
    rfl
  · obtain ⟨ml, ms, n, rfl, lk, hP, h1, n1, n9, hf, q⟩ := h
    refine ⟨_, pss_one (ps_ret (pe_has hG hr (by rfl) (pa_cons (pv 0) (pa_cons (pe_callB call_len_seq (by rfl) B.len PySem.boot_len (pa_cons (pe_ix ix_list (pv 0) pe_int (fun _ _ => rfl)) pa_nil)) pa_nil)))), ?_⟩
    obtain ⟨xs, hx, px⟩ := id lk
    have lx := Paired.length px
    have h0 : xs[0]? = some (xs[0]'(by omega)) := List.getElem?_eq_getElem _
    generalize (xs[0]'(by omega)) = x at h0
    obtain ⟨t, ht, b, rfl, hb⟩ := Paired.getL px h0
    have tP := hP t (List.mem_of_getElem? ht)
    refine ⟨_, rfl, _, rfl, ml, xs, 0, .ref b, rfl, rfl, SqL.of hx, atI_nat (j := 0) h0, b, _, rfl, .inr hb.sq, ml, ms, n, by rw [nIs_len, tP.len]; rfl, lk, hP, n1, n9, hf, fun p fl tv few ts H' s1 hp hfl hlk htt hfm hfl63 hmk nd mem asc => q p fl tv few ts H' s1 hp hfl hlk htt hfl63 hmk hfm ⟨nd, asc, mem⟩⟩
end
end Lt

set_option Elab.async false
set_option linter.all false
set_option maxRecDepth 100000
set_option maxHeartbeats 2000000
/-! weights.py: longest_first, the given turns' objects of any kind -/
namespace Lt
open PySem PySem.Spec PyProof.Rows L2
def TTR (R : Hp → V → List Nat → Prop) (H : Hp) (v : V) (ts : List (List Nat)) : Prop := ∃ a xs, v = .ref a ∧ H a = some (.tup xs) ∧ Paired (R H) xs ts
def CzQ (R : Hp → V → List Nat → Prop) (H : Hp) (v : V) (c : Cz) : Prop := ∃ p gv t, v = .ref p ∧ H p = some (.tup [gv, t]) ∧ TTR R H gv c.1 ∧ TN H t c.2
def KzQ (R : Hp → V → List Nat → Prop) (H : Hp) (v : V) (c : Kz) : Prop := ∃ p gv t, v = .ref p ∧ H p = some (.tup [gv, t, nI c.2.2]) ∧ TTR R H gv c.1 ∧ TN H t c.2.1
section
variable {R : Hp → V → List Nat → Prop} (Rm : ∀ (H H' : Hp) (v : V) (t : List Nat), Tm H H' → R H v t → R H' v t)
include Rm
theorem TTR.tm {H H' : Hp} {v : V} {ts : List (List Nat)} (e : Tm H H') (h : TTR R H v ts) : TTR R H' v ts := let ⟨a, xs, e1, h1, h2⟩ := h; ⟨a, xs, e1, e.1 _ _ h1, paired_mono (fun _ _ r => Rm _ _ _ _ e r) h2⟩
theorem CzQ.tm {H H' : Hp} {v : V} {c : Cz} (e : Tm H H') (h : CzQ R H v c) : CzQ R H' v c := let ⟨p, gv, t, h1, h2, h3, h4⟩ := h; ⟨p, gv, t, h1, e.1 _ _ h2, TTR.tm Rm e h3, h4.tm e⟩
theorem KzQ.tm {H H' : Hp} {v : V} {c : Kz} (e : Tm H H') (h : KzQ R H v c) : KzQ R H' v c := let ⟨p, gv, t, h1, h2, h3, h4⟩ := h; ⟨p, gv, t, h1, e.1 _ _ h2, TTR.tm Rm e h3, h4.tm e⟩
end
section
variable {P : Program} {w : World} {K : PySem.W.Frag} {mg : Str → Option Value} {base : Heap}
def spLongestR (R : Hp → V → List Nat → Prop) : Sp := fun vs H Q _ => ∃ (v : V) (lv : Addr) (xs : List V) (ls : List (List Nat)) (n p wt : Nat) (Ts : LLN) (lvl : List Cz), vs = [nI p, v, .ref lv] ∧ TTTK H v Ts ∧ TsOk ls n Ts ∧ WOk ls n p Ts ∧ H lv = some (.lst xs) ∧ Paired (CzQ R H) xs lvl ∧ 1 ≤ lvl.length ∧ lvl.length ≤ 200 ∧
  (lvl.headD ([], [])).1.length = wt ∧ 1 ≤ wt ∧ wt ≤ 9 ∧ ((lfPow n p Ts wt 64 1).length < 64 ∧ ∀ q ∈ lfPws n p Ts wt, q ≤ 64) ∧ (∀ c ∈ lvl, Mk ls n c.2 ∧ ∀ g ∈ c.1, g ∈ ls) ∧
  ∀ a H' ys, Same H H' → H a = none → H' a = some (.lst ys) → Paired (KzQ R H') ys (lfM n p Ts lvl) → ys.length ≤ 20000 → Q (.ref a) H'
theorem has_longest_firstR {R : Hp → V → List Nat → Prop} (Rm : ∀ (H H' : Hp) (v : V) (t : List Nat), Tm H H' → R H v t → R H' v t) (T : Top K mg "longest_first" s_longest_first ["base", "terms", "level"]) (B : Bi mg) (hW : Has P w K mg base CX0 5 "weighed_term" ["base", "terms", "weight"] spWTerm) (hM : Has P w K mg base CX0 4 "weighed_makers" ["base", "terms", "weight"] spWMk)
    (hI : Has P w K mg base CX0 3 "powers_in" ["terms", "weight", "power"] spPowIn) (hB : Has P w K mg base CX0 4 "made_by" ["makers"] spMadeByR) (hP : Has P w K mg base CX0 2 "power_of" ["turn", "many"] spPowerN) : Has P w K mg base CX0 6 "longest_first" ["base", "terms", "level"] (spLongestR R) := by
  refine T.ok sc_longest_first (fun vs H Q E h => ?_) (fun f cdv A outer s H vs Q E hr h => ?_)
  · obtain ⟨v, lv, xs, ls, n, p, wt, Ts, lvl, rfl, _⟩ := h
    rfl
  obtain ⟨v, lv, xs, ls, n, p, wt, Ts, lvl, rfl, tt, ok, W, hlv, plv, l1, l200, hwt, w1, w9, pw0, hin, q⟩ := h
  have hu := hr.units
  have hr5 : Room 5 (cxOf CX0 P w K mg base lfN "longest_first" (defScope s_longest_first) f cdv A outer s H E).nox.A := hr.mono (by decide)
  have hr4 : Room 4 (cxOf CX0 P w K mg base lfN "longest_first" (defScope s_longest_first) f cdv A outer s H E).nox.A := hr.mono (by decide)
  have hr3 : Room 3 (cxOf CX0 P w K mg base lfN "longest_first" (defScope s_longest_first) f cdv A outer s H E).nox.A := hr.mono (by decide)
  have hr2 : Room 2 (cxOf CX0 P w K mg base lfN "longest_first" (defScope s_longest_first) f cdv A outer s H E).nox.A := hr.mono (by decide)
  have hu65 : (cxOf CX0 P w K mg base lfN "longest_first" (defScope s_longest_first) f cdv A outer s H E).nox.A.units + 65 < cLine := by
    have := hr.un
    show (A.deeper _).units + 65 < cLine
    omega
  refine ⟨_, pss_cons (ps_set (i := 3) sc_longest_first.nd rfl (Or.inl rfl) (pe_callB call_len_seq (by rfl) B.len PySem.boot_len (pa_cons (pe_ix ix_tup (pe_ix ix_list (pv 2) pe_int (fun _ _ => rfl)) pe_int (fun _ _ => rfl)) pa_nil)))
    (pss_cons (ps_set (i := 4) sc_longest_first.nd rfl (Or.inl rfl) (pe_lst (pa_cons pe_int pa_nil)))
    (pss_cons (ps_while PassesOwn.never (pt_cmpR op_gt (pe_callB call_len_seq (by rfl) B.len PySem.boot_len (pa_cons (pe_has hW hr5 (by rfl) (pa_cons (pv 0) (pa_cons (pv 1) (pa_cons (pe_op op_mulN (pe_op op_mulN (pv 3) (pe_ix ix_list (pv 4) (pe_un un_neg pe_int) (fun _ _ => rfl))) (pv 0)) pa_nil)))) pa_nil)) pe_int (nomark _))
      (pss_one (ps_expr (pe_bm PySem.F.plainAttrs_list PySem.F.slot_list_append PySem.F.type_list_append mt_append (pv 4) (pa_cons (pe_op op_mulN (pe_ix ix_list (pv 4) (pe_un un_neg pe_int) (fun _ _ => rfl)) (pv 0)) pa_nil)))))
    (pss_cons (ps_set (i := 5) sc_longest_first.nd rfl (Or.inl rfl) (pe_lst pa_nil))
    (pss_cons (ps_for PassesOwn.never rfl (pi_range3 (by rfl) B.range (pa_cons (pe_callB call_len_seq (by rfl) B.len PySem.boot_len (pa_cons (pv 4) pa_nil)) (pa_cons pe_int (pa_cons (pe_un un_neg pe_int) pa_nil)))) (pg_name (i := 6) sc_longest_first.nd rfl (Or.inl rfl))
      (pss_cons (ps_set (i := 7) sc_longest_first.nd rfl (Or.inr rfl) (pe_ix ix_list (pv 4) (pe_op op_sub (pv 6) pe_int) (fun _ _ => rfl)))
      (pss_cons (ps_set (i := 8) sc_longest_first.nd rfl (Or.inl rfl) (pe_has hM hr4 (by rfl) (pa_cons (pv 0) (pa_cons (pv 1) (pa_cons (pe_op op_add (pe_op op_mulN (pv 3) (pv 7)) pe_int) pa_nil)))))
      (pss_cons (ps_for PassesOwn.never rfl (pi_list (pe_slice sl_list (pv 4) po_none (po_some (pe_op op_sub (pv 6) pe_int)))) (pg_name (i := 9) sc_longest_first.nd rfl (Or.inl rfl))
        (pss_one (ps_expr (pe_bm PySem.F.plainAttrs_list PySem.F.slot_list_extend PySem.F.type_list_extend mt_extend (pv 8) (pa_cons (pe_has hI hr3 (by rfl) (pa_cons (pv 1) (pa_cons (pe_op op_mulN (pv 3) (pv 7)) (pa_cons (pv 9) pa_nil)))) pa_nil)))))
      (pss_cons (ps_expr (pe_bm PySem.F.plainAttrs_list PySem.F.slot_list_extend PySem.F.type_list_extend mt_extend (pv 8) (pa_cons (pe_lc (own := [("_", 14), ("turn", 10)]) (g := gTup K 3 (gCons (gName 14) (gCons (gName 10) (gCons (gName 14) gNil)))) (te := tCall spPowerN [] E0 (tCons (tVar 10) (tCons (tVar 7) tNil))) (by rfl) sc_longest_first.nd (pi_list (pv 5))
          (blkOk_by (own := [("_", 14), ("turn", 10)]) (N := lfN) (sc := defScope s_longest_first) (by decide +kernel))
          (fun _ _ _ _ _ => pg_tup rfl (pgs_cons (pg_name (i := 14) sc_longest_first.nd rfl (Or.inl rfl)) (pgs_cons (pg_name (i := 10) sc_longest_first.nd rfl (Or.inl rfl)) (pgs_cons (pg_name (i := 14) sc_longest_first.nd rfl (Or.inl rfl)) pgs_nil)))) (fun _ _ _ _ _ => pts_nil)
          (fun _ _ _ _ _ => pe_has hP hr2 (by rfl) (pa_cons (pv 10) (pa_cons (pv 7) pa_nil)))) pa_nil)))
      (pss_cons (ps_asg (pe_has hB hr4 (by rfl) (pa_cons (pv 8) pa_nil)) (pg_tup (by rfl) (pgs_cons (pg_name (i := 8) sc_longest_first.nd rfl (Or.inl rfl)) (pgs_cons (pg_name (i := 11) sc_longest_first.nd rfl (Or.inl rfl)) pgs_nil))))
      (pss_one (ps_for PassesOwn.never rfl (pi_list (pv 2)) (pg_tup rfl (pgs_cons (pg_name (i := 12) sc_longest_first.nd rfl (Or.inl rfl)) (pgs_cons (pg_name (i := 10) sc_longest_first.nd rfl (Or.inl rfl)) pgs_nil)))
        (pss_cons (ps_set (i := 13) sc_longest_first.nd rfl (Or.inl rfl) (pe_has hP hr2 (by rfl) (pa_cons (pv 10) (pa_cons (pv 7) pa_nil))))
        (pss_one (ps_if (pt_cmpR (op_notInDT hu65) (pv 13) (pv 11) (by rfl))
          (pss_cons (ps_expr (pe_bm PySem.F.plainAttrs_list PySem.F.slot_list_append PySem.F.type_list_append mt_append (pv 5) (pa_cons (pe_tup (pa_cons (pv 12) (pa_cons (pv 10) (pa_cons (pv 6) pa_nil)))) pa_nil)))
          (pss_one (ps_asg (pe_has hB hr4 (by rfl) (pa_cons (pe_op op_cat (pv 8) (pe_lst (pa_cons (pv 13) pa_nil))) pa_nil)) (pg_tup (by rfl) (pgs_cons (pg_name (i := 8) sc_longest_first.nd rfl (Or.inl rfl)) (pgs_cons (pg_name (i := 11) sc_longest_first.nd rfl (Or.inl rfl)) pgs_nil))))))
          pss_nil)))))))))))
    (pss_one (ps_ret (pv 5))))))), ?_⟩
  have lx := Paired.length plv
  have hls := ok.hls
  have hx0 : xs[0]? = some (xs[0]'(by omega)) := List.getElem?_eq_getElem _
  generalize (xs[0]'(by omega)) = x0 at hx0
  obtain ⟨c0, hc0, tp0, gv0, t0, rfl, htp0, hgv0, ht0⟩ := Paired.getL plv hx0
  have hw0 : c0.1.length = wt := by
    cases lvl with
    | nil => cases hc0
    | cons a r =>
      cases Option.some.inj hc0
      exact hwt
  obtain ⟨ga, gx, rfl, hga, pg⟩ := id hgv0
  have eg : gx.length = wt := (Paired.length pg).trans hw0
  refine ⟨_, rfl, lv, xs, 0, .ref tp0, rfl, rfl, SqL.of hlv, atI_nat (j := 0) hx0, tp0, _, 0, .ref ga, rfl, rfl, SqT.of htp0, rfl, ga, gx, rfl, .inr (SqT.of hga), ?_⟩
  rw [eg]
  refine ⟨Nat.le_of_ble_eq_true rfl, fun pl hpl => ?_⟩
  have s1 := same_new (o := .lst [V.int 1]) hpl
  obtain ⟨pwl, pwq⟩ := pw0
  have p2 := W.p2
  have p63 := W.p63
  have nIsA : ∀ (a : List Nat) (b : Nat), nIs (a ++ [b]) = nIs a ++ [nI b] := fun a b => by unfold nIs; rw [List.map_append]; rfl
  have hinG : LvG ls n lvl := hin
  refine ⟨fun m σ H' => ∃ (pre : List Nat) (q f : Nat), σ = [some (nI p), some v, some (.ref lv), some (nI wt), some (.ref pl), none, none, none, none, none, none, none, none, none, none] ∧ Same H H' ∧ H' pl = some (.lst (nIs (pre ++ [q]))) ∧ pre ++ (q :: lfPow n p Ts wt f q) = lfPws n p Ts wt ∧ (lfPow n p Ts wt f q).length < f ∧ 1 ≤ q ∧ m = f,
    ⟨64, [], 1, 64, rfl, s1, upd_same, rfl, pwl, Nat.le_refl _, rfl⟩, ?_⟩
  rintro m σ H1 ⟨pre, qq, f, rfl, sm, hp1, hpre, hlf, hqpos, rfl⟩
  have qin : qq ∈ lfPws n p Ts wt := by rw [← hpre]; exact List.mem_append_right _ List.mem_cons_self
  have q64 := pwq qq qin
  have plen : pre.length + 1 ≤ (lfPws n p Ts wt).length := by rw [← hpre, List.length_append, List.length_cons]; omega
  have pwl65 : (lfPws n p Ts wt).length ≤ 64 := by
    show (lfPow n p Ts wt 64 1).length + 1 ≤ 64
    omega
  have wq1 : 1 ≤ wt * qq := Nat.mul_le_mul w1 hqpos
  have wqb : wt * qq ≤ 576 := Nat.mul_le_mul w9 q64
  have wqp1 : 1 ≤ wt * qq * p := Nat.mul_le_mul wq1 (by omega : 1 ≤ p)
  have wqpb : wt * qq * p ≤ 36288 := Nat.mul_le_mul wqb p63
  obtain ⟨g', rfl⟩ : ∃ g', m = g' + 1 := ⟨m - 1, by omega⟩
  have hstep : lfPow n p Ts wt (g' + 1) qq = if 1 < szS n (wMk n p Ts (wt * qq * p)) then (qq * p) :: lfPow n p Ts wt g' (qq * p) else [] := rfl
  refine ⟨_, rfl, _, rfl, _, rfl, _, rfl, 1, rfl, pl, _, -1, nI qq, rfl, rfl, SqL.of hp1, by rw [nIsA]; exact atI_last _ _, wt, qq, rfl, rfl, by omega, _, rfl, wt * qq, p, rfl, rfl, by omega, v, ls, n, p, wt * qq * p, Ts, rfl, tt.tm (.of sm), ok, p2, p63, wqp1, by omega, fun r us H2 s2 htt sp => ?_⟩
  obtain ⟨ua, ux, rfl, hua, pu⟩ := htt
  have hlen := sp.len (ok.few' (ok.wP (p := p) _))
  have lu := Paired.length pu
  refine ⟨ua, ux, rfl, .inr (SqT.of hua), (ux.length : Int), 1, rfl, rfl, decide (1 < us.length), congrArg V.bl (decide_eq_decide.mpr (by omega)), ?_⟩
  have sm2 := sm.trans s2
  have hp2 := s2 _ _ hp1
  by_cases h1 : 1 < us.length
  · rw [decide_eq_true h1]
    rw [if_pos (by rw [← hlen]; exact h1)] at hstep
    refine iteT ⟨fun σ3 H3 => σ3 = [some (nI p), some v, some (.ref lv), some (nI wt), some (.ref pl), none, none, none, none, none, none, none, none, none, none] ∧ Same H H3 ∧ H3 pl = some (.lst (nIs (pre ++ [qq] ++ [qq * p]))), fun σ3 H3 ⟨e1, e2, e3⟩ => ⟨g', Nat.lt_succ_self _, pre ++ [qq], qq * p, g', e1, e2, e3, ?_, ?_, Nat.mul_le_mul hqpos (by omega : 1 ≤ p), rfl⟩, ?_⟩
    · rw [← hpre, hstep, List.append_assoc]
      rfl
    · rw [hstep, List.length_cons] at hlf
      omega
    · refine ⟨_, rfl, .inl ⟨rfl, _, SqL.of hp2⟩, _, rfl, 1, rfl, pl, _, -1, nI qq, rfl, rfl, SqL.of hp2, by rw [nIsA]; exact atI_last _ _, _, rfl, qq, p, rfl, rfl, by omega, pl, _, nI (qq * p), rfl, rfl, hp2, ?_, rfl, same_mut sm2 hpl, ?_⟩
      · rw [nIs_len, List.length_append, sizeLine_eq]
        show pre.length + 1 < _
        omega
      · rw [upd_same, nIsA (pre ++ [qq])]
  rw [decide_eq_false h1]
  rw [if_neg (by rw [← hlen]; exact h1)] at hstep
  rw [hstep] at hpre
  refine iteF ?_
  rw [hpre] at hp2
  generalize hpws : lfPws n p Ts wt = pws at *
  clear hp1 hstep hlf
  have ppos : ∀ q ∈ pws, 1 ≤ q := fun q hq => lfPws_pos (by omega : 1 ≤ p) wt (n := n) (Ts := Ts) q (by rw [hpws]; exact hq)
  refine ⟨Nat.zero_le _, fun kl hkl => ?_⟩
  have s3 := same_new (o := .lst []) hkl
  have kl0 := hkl
  have hkp : kl ≠ pl := (ne_of_none hp2 hkl).symm
  refine ⟨_, rfl, pl, _, rfl, .inl (SqL.of (s3 _ _ hp2)), ?_⟩
  rw [nIs_len]
  refine ⟨1, rfl, (pws.length : Int), 0, -1, ((pws.length : Int) - 0).toNat, rfl, RgC.neg (by omega) (by omega) (by omega) (by omega), for_rangeC (lo := (pws.length : Int)) (c := -1) (n := ((pws.length : Int) - 0).toNat)
    (fun i σ H' => ∃ y6 y7 y8 y9 y10 y11 y12 y13 y14 ks kept, σ = [some (nI p), some v, some (.ref lv), some (nI wt), some (.ref pl), some (.ref kl), y6, y7, y8, y9, y10, y11, y12, y13, y14] ∧ Same H2 H' ∧ H' kl = some (.lst ks) ∧ Paired (KzQ R H') ks kept ∧ lfOut n p Ts wt pws lvl (pws.length - i) kept = lfM n p Ts lvl ∧ KeG ls n kept ∧ kept.length ≤ 200 * i)
    ⟨none, none, none, none, none, none, none, none, none, [], [], rfl, s3, upd_same, .nil, ?_, (fun k hk => by cases hk), Nat.zero_le _⟩ ?_ ?_⟩
  · unfold lfM
    dsimp only
    rw [hwt, hpws]
    rfl
  · rintro i σ H' hi ⟨y6, y7, y8, y9, y10, y11, y12, y13, y14, ks, kept, rfl, st, hks, pks, hout, hke, hkl⟩
    obtain ⟨j, hj⟩ : ∃ j, pws.length - i = j + 1 := ⟨pws.length - i - 1, by omega⟩
    have hjl : j < pws.length := by omega
    have hiL : i ≤ 64 := by omega
    have ev : ((pws.length : Nat) : Int) + (i : Nat) * -1 = ((j + 1 : Nat) : Int) := by omega
    have ej : ((j + 1 : Nat) : Int) - 1 = ((j : Nat) : Int) := by omega
    rw [ev]
    rw [hj] at hout
    have hpj : pws[j]? = some (pws.getD j 1) := by rw [List.getD_eq_getElem?_getD, List.getElem?_eq_getElem hjl]; rfl
    have qin := List.mem_of_getElem? hpj
    have hout2 : lfOut n p Ts wt pws lvl j (lfIn n (pws.getD j 1) (j + 1) lvl (lfBase n p Ts wt pws j kept) kept) = lfM n p Ts lvl := hout
    have q1 := ppos _ qin
    have q64 := pwq _ qin
    generalize hq : pws.getD j 1 = q at *
    have hp5 := st _ _ hp2
    refine ⟨_, rfl, _, rfl, ((j + 1 : Nat) : Int), 1, rfl, rfl, ?_⟩
    dsimp only
    rw [ej]
    refine ⟨pl, nIs pws, (j : Int), nI q, rfl, rfl, SqL.of hp5, atI_nat (by rw [nIs_get, hpj]; rfl), ?_⟩
    have wq1 : 1 ≤ wt * q := Nat.mul_le_mul w1 q1
    have wqb : wt * q ≤ 576 := Nat.mul_le_mul w9 q64
    have st0 : Same H H' := sm2.trans st
    refine ⟨_, rfl, _, rfl, _, rfl, _, rfl, wt, q, rfl, rfl, by omega, ((wt * q : Nat) : Int), 1, rfl, rfl, v, ls, n, p, wt * q + 1, Ts, rfl, tt.tm (.of st0), ok, p2, p63, by omega, by omega, fun ml H5 s5 hml lk5 hl5 => ?_⟩
    have nml : ml ≠ kl := (ne_of_none hks hml).symm
    refine ⟨_, rfl, _, rfl, ((j + 1 : Nat) : Int), 1, rfl, rfl, (j : Int), ?_, pl, nIs pws, rfl, SqL.of (s5 _ _ hp5), fun c hc => ?_⟩
    · dsimp only
      rw [ej]
    have ecut : cutV (nIs pws) none (some ((j : Nat) : Int)) = nIs (pws.take j) := by
      rw [cut_take _ (by rw [nIs_len]; omega)]
      unfold nIs
      rw [List.map_take]
    rw [ecut]
    have sc := same_new (o := .lst (nIs (pws.take j))) hc
    have kc : (upd H5 c (.lst (nIs (pws.take j)))) c = some (.lst (nIs (pws.take j))) := upd_same
    have ncm : c ≠ ml := by
      obtain ⟨_, z, _⟩ := lk5
      exact (ne_of_none z hc).symm
    have lk6 := lk5.same sc
    have s56 := s5.trans sc
    generalize upd H5 c (.lst (nIs (pws.take j))) = H6 at *
    refine ⟨c, rfl, ⟨_, SqL.of kc⟩, for_list (K := K) (a := c) (xs := nIs (pws.take j)) (fun k σ H'' => ∃ y9, σ = [some (nI p), some v, some (.ref lv), some (nI wt), some (.ref pl), some (.ref kl), some (nI (j + 1)), some (nI q), some (.ref ml), y9, y10, y11, y12, y13, y14] ∧ Same H' H'' ∧ H'' c = some (.lst (nIs (pws.take j))) ∧ LK H'' ml (wMk n p Ts (wt * q + 1) ++ ((pws.take j).take k).flatMap (powIn n Ts (wt * q))))
      ⟨y9, rfl, s56, kc, by rw [List.take_zero, List.flatMap_nil, List.append_nil]; exact lk6⟩ (fun k σ H'' _ ⟨_, _, _, hc', _⟩ => SqL.of hc') ?_ ?_⟩
    · rintro k x σ H'' hk ⟨y9', rfl, s7, hc7, ⟨mx, hmx, pmx⟩⟩
      have hkj : k < j := by
        have := (List.getElem?_eq_some_iff.mp hk).1
        rw [nIs_len, List.length_take] at this
        omega
      rw [nIs_get] at hk
      obtain ⟨less, hless, rfl⟩ := Option.map_eq_some_iff.mp hk
      have lin : less ∈ pws := List.mem_of_mem_take (List.mem_of_getElem? hless)
      have l64 := pwq _ lin
      refine ⟨_, rfl, .inl ⟨rfl, _, SqL.of hmx⟩, _, rfl, _, rfl, _, rfl, wt, q, rfl, rfl, by omega, _, rfl, v, ls, n, wt * q, less, Ts, rfl, tt.tm (.of (st0.trans s7)), ok, wq1, by omega, ppos _ lin, by omega, fun a H7 s8 ha ⟨zs, hz, pz⟩ => ?_⟩
      have hm7 := s8 _ _ hmx
      have lmx := Paired.length pmx
      have lz := Paired.length pz
      have lp := powIn_len ok (wt * q) less
      have lf := flat_le ok (wt * q) ((pws.take j).take k)
      rw [List.length_append] at lmx
      rw [List.length_take, List.length_take] at lf
      have tL := Tm.lst (o := .lst (mx ++ zs)) hm7
      refine ⟨ml, a, mx, zs, rfl, rfl, hm7, hz, by rw [sizeLine_eq]; omega, _, rfl, same_mut (s7.trans s8) hml, (upd_ne ncm).trans (s8 _ _ hc7), _, upd_same, ?_⟩
      have e : wMk n p Ts (wt * q + 1) ++ ((pws.take j).take (k + 1)).flatMap (powIn n Ts (wt * q)) = (wMk n p Ts (wt * q + 1) ++ ((pws.take j).take k).flatMap (powIn n Ts (wt * q))) ++ powIn n Ts (wt * q) less := by
        rw [List.take_add_one, hless, List.flatMap_append, List.append_assoc]
        congr 2
        exact List.append_nil _
      rw [e]
      exact Paired.app (TKs.tm ((Tm.of s8).trans tL) pmx) (TKs.tm tL pz)
    rintro σ H'' ⟨y9', rfl, s7, hc7, ⟨mx, hmx, pmx⟩⟩
    rw [nIs_len, List.take_length] at pmx
    have hks7 := s7 _ _ hks
    have lks := Paired.length pks
    have eB : lfBase n p Ts wt pws j kept = (wMk n p Ts (wt * q + 1) ++ (pws.take j).flatMap (powIn n Ts (wt * q))) ++ kept.map fun k => pw n k.2.1 q := by
      unfold lfBase
      rw [hq]
    refine ⟨_, rfl, .inl ⟨rfl, _, SqL.of hmx⟩, _, rfl, kl, rfl, ⟨_, SqL.of hks7⟩, fun D hD => lc_genF (J := Itl K kl) (n := ks.length) TN (fun _ => true) (fun i => (kept.map fun k => pw n k.2.1 q).getD i []) (fun _ _ _ _ e r => TN.tm e r) (by omega) hD (fun i H3 hi s3 => ⟨ks, _, SqL.of (s3 _ _ hks7), List.getElem?_eq_getElem hi⟩) (fun H3 s3 => ⟨ks, SqL.of (s3 _ _ hks7), Nat.le_refl _⟩) (fun i H3 x' H4 hi s3 y => ?_) (fun H3 zs s3 hz pr => ?_)⟩
    · obtain ⟨rfl, hx'⟩ := y
      have hx' := hx' _ (SqL.of (s3 _ _ hks7))
      obtain ⟨kz, hkz, kp, kgv, kt, rfl, hkp', kgv', kt'⟩ := Lt.Paired.getL pks hx'
      have s07 := s7.trans s3
      have ek : (kept.map fun k => pw n k.2.1 q).getD i [] = pw n kz.2.1 q := by rw [List.getD_eq_getElem?_getD, List.getElem?_map, hkz]; rfl
      rw [ek]
      have ktP := (hke kz (List.mem_of_getElem? hkz)).1.isP hls
      refine ⟨Same.refl _, _, fun Kk q => ⟨kp, _, rfl, SqT.of (s07 _ _ hkp'), rfl, _, _, rfl, _, _, rfl, _, _, rfl, rfl, q⟩, rfl, fun Q q => q _ (Same.refl _), fun _ H5 s5 Q q' => ⟨_, rfl, _, rfl, kt, kz.2.1, n, q, rfl, kt'.tm (.of (s07.trans s5)), ktP, ok.n9, q1, by omega, fun r H6 s6 tk => q' r H6 s6 tk⟩⟩
    have e1 : ((List.range ks.length).filter fun _ => true).map (fun i => (kept.map fun k => pw n k.2.1 q).getD i []) = kept.map fun k => pw n k.2.1 q := by
      rw [List.filter_eq_self.mpr fun _ _ => rfl, show ks.length = (kept.map fun k => pw n k.2.1 q).length by rw [List.length_map, lks]]
      exact getDd_rng _ _
    rw [e1] at pr
    have hm3 := s3 _ _ hmx
    have lmx := Paired.length pmx
    have lz := Paired.length pr
    have lf := flat_le ok (wt * q) (pws.take j)
    rw [List.length_append] at lmx
    rw [List.length_map] at lz
    rw [List.length_take] at lf
    refine ⟨ml, D, mx, zs, rfl, rfl, hm3, hz, by rw [sizeLine_eq]; omega, ?_⟩
    have tL := Tm.lst (o := .lst (mx ++ zs)) hm3
    have lkB : LT (upd H3 ml (.lst (mx ++ zs))) ml (lfBase n p Ts wt pws j kept) := by
      rw [eB]
      exact ⟨_, upd_same, Paired.app (paired_mono (fun _ _ r => r.tn) (TKs.tm ((Tm.of s3).trans tL) pmx)) (TNs.tm tL pr)⟩
    have stB : Same H' (upd H3 ml (.lst (mx ++ zs))) := same_mut (s7.trans s3) hml
    generalize upd H3 ml (.lst (mx ++ zs)) = HB at *
    have inB := in_base (p := p) hls ok.inG wt pws j hke
    have posB : 1 ≤ (lfBase n p Ts wt pws j kept).length := by
      have := wMk_pos (p := p) (k := wt * q + 1) ok.l1 ok.pos p2 (by omega)
      rw [eB, List.length_append, List.length_append]
      omega
    refine ⟨_, rfl, ml, _, n, rfl, lkB, fun g hg => (inB g hg).isP hls, posB, ok.n1, ok.n9, ok.few' inB, fun b fl tv fs us H8 s8 hb hfl lkf ttv l63 hmk hfm sp => ?_⟩
    refine ⟨b, _, rfl, SqT.of hb, rfl, .ref fl, _, rfl, tv, _, rfl, rfl, ?_⟩
    have st8 : Same H' H8 := stB.trans s8
    have hlv8 := (st0.trans st8) _ _ hlv
    have nfl : fl ≠ kl := (ne_of_none (stB _ _ hks) hfl).symm
    refine ⟨_, rfl, lv, rfl, ⟨_, SqL.of hlv8⟩, for_list (K := K) (a := lv) (xs := xs) (fun k σ H'' => ∃ y10 y12 y13 fl kn ms fs us ks2 kept2, σ = [some (nI p), some v, some (.ref lv), some (nI wt), some (.ref pl), some (.ref kl), some (nI (j + 1)), some (nI q), some (.ref fl), y9', y10, some kn, y12, y13, y14] ∧ Same H2 H'' ∧ H'' kl = some (.lst ks2) ∧ Paired (KzQ R H'') ks2 kept2 ∧ kept2.length ≤ 200 * i + k ∧ KeG ls n kept2 ∧
        lfIn n q (j + 1) (lvl.drop k) ms kept2 = lfIn n q (j + 1) lvl (lfBase n p Ts wt pws j kept) kept ∧ LT H'' fl fs ∧ fl ≠ kl ∧ fs.length ≤ 63 ∧ (∀ t, Mk fs n t ↔ Mk ms n t) ∧ (∀ t ∈ fs, Mk ls n t) ∧ (∀ t ∈ ms, Mk ls n t) ∧ TTK H'' kn us ∧ SpU n ms us)
      ⟨_, _, _, fl, tv, _, fs, us, ks, kept, rfl, st.trans st8, st8 _ _ hks, paired_mono (fun _ _ r => KzQ.tm Rm (.of st8) r) pks, hkl, hke, by rw [List.drop_zero], lkf, nfl, l63, hmk, fun t ht => inB t (hfm t ht), inB, ttv, sp⟩ (fun k σ H'' _ ⟨_, _, _, _, _, _, _, _, _, _, _, z, _⟩ => SqL.of ((sm2.trans z) _ _ hlv)) ?_ ?_⟩
    · rintro k x σ H9 hk ⟨z10, z12, z13, fl9, kn, ms, fs9, us9, ks2, kept2, rfl, st9, hks2, pks2, hk2, hke2, hlf9, ⟨fx, hfx, pfx⟩, nfl9, l63', hmk9, hfs9, hms9, ttk9, sp9⟩
      obtain ⟨c, hck, cp, cgv, ct, rfl, hcp, cgv', ct'⟩ := Paired.getL plv hk
      have st09 := sm2.trans st9
      obtain ⟨cm1, cm2⟩ := hin c (List.mem_of_getElem? hck)
      have tP := cm1.isP hls
      have hkl' := (List.getElem?_eq_some_iff.mp hck).1
      have lks2 := Paired.length pks2
      have lfx := Paired.length pfx
      refine ⟨cp, _, rfl, SqT.of (st09 _ _ hcp), rfl, cgv, _, rfl, ct, _, rfl, rfl, ?_⟩
      refine ⟨_, rfl, _, rfl, ct, c.2, n, q, rfl, ct'.tm (.of st09), tP, ok.n9, q1, by omega, fun r H10 s10 kr => ?_⟩
      have ttk10 := TTK.tm2 (.of s10) ttk9
      refine ⟨_, rfl, _, rfl, dT (pw n c.2 q), us9.map dT, kr.dp, ttk10.tt.dp, sh_T _, sh_TT _, !decide (pw n c.2 q ∈ us9), by rw [any_dT], ?_⟩
      have hdrop : lvl.drop k = c :: lvl.drop (k + 1) := by
        rw [List.drop_eq_getElem_cons hkl']
        rw [List.getElem?_eq_getElem hkl'] at hck
        rw [Option.some.inj hck]
      have hfew := ok.few' hms9
      have eqin : inS n ms (pw n c.2 q) = decide (pw n c.2 q ∈ us9) := by
        have := (inS_mk hfew (by decide) (t := pw n c.2 q)).trans (sp9.mem _).symm
        cases e1 : inS n ms (pw n c.2 q) with
        | true => exact (decide_eq_true (this.mp e1)).symm
        | false => exact (decide_eq_false fun z => by rw [this.mpr z] at e1; cases e1).symm
      rw [hdrop] at hlf9
      have hstp : lfIn n q (j + 1) (c :: lvl.drop (k + 1)) ms kept2 = if inS n ms (pw n c.2 q) then lfIn n q (j + 1) (lvl.drop (k + 1)) ms kept2 else lfIn n q (j + 1) (lvl.drop (k + 1)) (ms ++ [pw n c.2 q]) (kept2 ++ [(c.1, c.2, j + 1)]) := rfl
      rw [hstp, eqin] at hlf9
      by_cases hiu : pw n c.2 q ∈ us9
      · rw [decide_eq_true hiu] at hlf9 ⊢
        rw [if_pos rfl] at hlf9
        exact iteF ⟨_, _, _, fl9, kn, ms, fs9, us9, ks2, kept2, rfl, st9.trans s10, s10 _ _ hks2, paired_mono (fun _ _ r => KzQ.tm Rm (.of s10) r) pks2, by omega, hke2, hlf9, ⟨fx, s10 _ _ hfx, TNs.tm (.of s10) pfx⟩, nfl9, l63', hmk9, hfs9, hms9, ttk10, sp9⟩
      · rw [decide_eq_false hiu] at hlf9 ⊢
        rw [if_neg (by decide)] at hlf9
        refine iteT ⟨_, rfl, .inl ⟨rfl, ks2, SqL.of (s10 _ _ hks2)⟩, _, rfl, _, rfl, _, rfl, Nat.le_of_ble_eq_true rfl, fun tp htp => ?_⟩
        have s11 := same_new (o := .tup [cgv, ct, nI (j + 1)]) htp
        have hk11 := s11 _ _ (s10 _ _ hks2)
        refine ⟨kl, ks2, .ref tp, rfl, rfl, hk11, by rw [sizeLine_eq]; omega, ?_⟩
        have tL := Tm.lst (o := .lst (ks2 ++ [V.ref tp])) hk11
        have tm12 := (Tm.of (s10.trans s11)).trans tL
        have ktp := tL.1 _ _ (show (upd H10 tp (.tup [cgv, ct, nI (j + 1)])) tp = some (.tup [cgv, ct, nI (j + 1)]) from upd_same)
        have hk12 : (upd (upd H10 tp (.tup [cgv, ct, nI (j + 1)])) kl (.lst (ks2 ++ [V.ref tp]))) kl = some (.lst (ks2 ++ [V.ref tp])) := upd_same
        have st12 : Same H2 (upd (upd H10 tp (.tup [cgv, ct, nI (j + 1)])) kl (.lst (ks2 ++ [V.ref tp]))) := same_mut (st9.trans (s10.trans s11)) kl0
        have kr12 := (kr.tm (.of s11)).tm tL
        have hfx12 : (upd (upd H10 tp (.tup [cgv, ct, nI (j + 1)])) kl (.lst (ks2 ++ [V.ref tp]))) fl9 = some (.lst fx) := (upd_ne nfl9).trans ((s10.trans s11) _ _ hfx)
        have pfx12 := TNs.tm tm12 pfx
        have pks12 : Paired (KzQ R (upd (upd H10 tp (.tup [cgv, ct, nI (j + 1)])) kl (.lst (ks2 ++ [V.ref tp])))) (ks2 ++ [V.ref tp]) (kept2 ++ [(c.1, c.2, j + 1)]) :=
          Paired.app (paired_mono (fun _ _ r => KzQ.tm Rm tm12 r) pks2) (Paired.one ⟨tp, cgv, ct, rfl, ktp, TTR.tm Rm ((Tm.of st09).trans tm12) cgv', ct'.tm ((Tm.of st09).trans tm12)⟩)
        generalize upd (upd H10 tp (.tup [cgv, ct, nI (j + 1)])) kl (.lst (ks2 ++ [V.ref tp])) = H12 at *
        refine ⟨_, rfl, _, rfl, Nat.le_of_ble_eq_true rfl, fun d hd => ?_⟩
        have s13 := same_new (o := .lst [r]) hd
        refine ⟨fl9, d, fx, [r], rfl, rfl, s13 _ _ hfx12, upd_same, by rw [sizeLine_eq]; show fx.length + 1 ≤ _; omega, fun e he => ?_⟩
        have s14 := same_new (o := .lst (fx ++ [r])) he
        have s1314 := s13.trans s14
        have mr : Mk ls n (pw n c.2 q) := cm1.pw hls q
        have inN : ∀ t ∈ fs9 ++ [pw n c.2 q], Mk ls n t := fun t ht => (List.mem_append.mp ht).elim (hfs9 t) fun z => by rw [List.mem_singleton.mp z]; exact mr
        have inM : ∀ t ∈ ms ++ [pw n c.2 q], Mk ls n t := fun t ht => (List.mem_append.mp ht).elim (hms9 t) fun z => by rw [List.mem_singleton.mp z]; exact mr
        have fP : ∀ t ∈ fs9 ++ [pw n c.2 q], IsP n t := fun t ht => (inN t ht).isP hls
        have mP : ∀ t ∈ ms ++ [pw n c.2 q], IsP n t := fun t ht => (inM t ht).isP hls
        have both : ∀ t, Mk (fs9 ++ [pw n c.2 q]) n t ↔ Mk (ms ++ [pw n c.2 q]) n t := fun t => by
          refine ⟨fun h => h.mono mP fun g hg => ?_, fun h => h.mono fP fun g hg => ?_⟩
          · rcases List.mem_append.mp hg with z | z
            · exact ((hmk9 g).mp (.one (fun x hx => fP x (List.mem_append_left _ hx)) z)).mono mP fun y hy => .one mP (List.mem_append_left _ hy)
            · exact .one mP (List.mem_append_right _ z)
          · rcases List.mem_append.mp hg with z | z
            · exact ((hmk9 g).mpr (.one (fun x hx => mP x (List.mem_append_left _ hx)) z)).mono fP fun y hy => .one fP (List.mem_append_left _ hy)
            · exact .one fP (List.mem_append_right _ z)
        refine ⟨e, fs9 ++ [pw n c.2 q], n, rfl, ⟨_, upd_same, Paired.app (TNs.tm (.of s1314) pfx12) (Paired.one (kr12.tm (.of s1314)))⟩, fP, by rw [List.length_append]; show 1 ≤ fs9.length + 1; omega, ok.n1, ok.n9, ok.few' inN, fun b2 fl2 tv2 fs2 us2 H15 s15 hb2 hfl2 lkf2 ttv2 l632 hmk2 hfm2 sp2 => ?_⟩
        have s1215 := s1314.trans s15
        refine ⟨b2, _, rfl, SqT.of hb2, rfl, .ref fl2, _, rfl, tv2, _, rfl, rfl, ?_⟩
        refine ⟨_, _, _, fl2, tv2, ms ++ [pw n c.2 q], fs2, us2, ks2 ++ [.ref tp], kept2 ++ [(c.1, c.2, j + 1)], rfl, st12.trans s1215, s1215 _ _ hk12, paired_mono (fun _ _ r => KzQ.tm Rm (.of s1215) r) pks12, ?_, fun z hz => ?_, hlf9, lkf2, (ne_of_none (s1314 _ _ hk12) hfl2).symm, l632, fun t => (hmk2 t).trans (both t), fun t ht => inN t (hfm2 t ht), inM, ttv2, ⟨sp2.nd, sp2.asc, fun t => (sp2.mem t).trans (both t)⟩⟩
        · rw [List.length_append]
          show kept2.length + 1 ≤ _
          omega
        · rcases List.mem_append.mp hz with y | y
          · exact hke2 z y
          · rw [List.mem_singleton.mp y]
            exact ⟨cm1, cm2⟩
    · rintro σ H9 ⟨z10, z12, z13, fl9, kn, ms, fs9, us9, ks2, kept2, rfl, st9, hks2, pks2, hk2, hke2, hlf9, _⟩
      have e0 : lvl.drop xs.length = [] := List.drop_eq_nil_of_le (by omega)
      rw [e0] at hlf9
      have e2 : kept2 = lfIn n q (j + 1) lvl (lfBase n p Ts wt pws j kept) kept := hlf9
      refine ⟨_, _, _, _, _, _, _, _, _, ks2, kept2, rfl, st9, hks2, pks2, ?_, hke2, by omega⟩
      rw [show pws.length - (i + 1) = j by omega, e2]
      exact hout2
  · rintro σ H' ⟨y6, y7, y8, y9, y10, y11, y12, y13, y14, ks, kept, rfl, st, hks, pks, hout, hke, hkl⟩
    have e0 : pws.length - ((pws.length : Int) - 0).toNat = 0 := by omega
    rw [e0] at hout
    have e1 : kept = lfM n p Ts lvl := hout
    have lks := Paired.length pks
    have e2 : ((pws.length : Int) - 0).toNat ≤ 64 := by omega
    subst e1
    exact ⟨_, rfl, q kl H' ks (sm2.trans st) (sm2.free kl0) hks pks (by omega)⟩
end
end Lt

set_option Elab.async false
set_option linter.all false
set_option maxRecDepth 100000
set_option maxHeartbeats 2000000
/-! weights.py: chains, the given turns' objects of any kind -/
namespace Lt
open PySem PySem.Spec PyProof.Rows L2
def FzQ (R : Hp → V → List Nat → Prop) (H : Hp) (v : V) (f : Fz) : Prop := ∃ p gv, v = .ref p ∧ H p = some (.tup [gv, nI f.2]) ∧ TTR R H gv f.1
theorem FzQ.tm {R : Hp → V → List Nat → Prop} (Rm : ∀ (H H' : Hp) (v : V) (t : List Nat), Tm H H' → R H v t → R H' v t) {H H' : Hp} {v : V} {c : Fz} (e : Tm H H') (h : FzQ R H v c) : FzQ R H' v c := let ⟨p, gv, h1, h2, h3⟩ := h; ⟨p, gv, h1, e.1 _ _ h2, TTR.tm Rm e h3⟩
section
variable {P : Program} {w : World} {K : PySem.W.Frag} {mg : Str → Option Value} {base : Heap} {CP : Addr}
def spChainsR (R : Hp → V → List Nat → Prop) (CP : Addr) : Sp := fun vs H Q E => ∃ (v : V) (ls : List (List Nat)) (n : Nat), vs = [v] ∧ Good H v ls n ∧ TTR R H v ls ∧ (primeOf (LL ls n).length = none → Bad0 CP H E) ∧
  (∀ p, primeOf (LL ls n).length = some p → PLk ls n p ∧ ∀ a H' T0 Ts xs, Same H H' → T0.Nodup → Asc T0 → (∀ t, t ∈ T0 ↔ Mk ls n t) → Ser ls n T0 Ts → H' a = some (.tup xs) → Paired (FzQ R H') xs (chLev n p Ts ls 8).2 → xs.length ≤ 200000 → Q (.ref a) H')
theorem has_chainsR {R : Hp → V → List Nat → Prop} (Rm : ∀ (H H' : Hp) (v : V) (t : List Nat), Tm H H' → R H v t → R H' v t) (Rn : ∀ (H : Hp) (v : V) (t : List Nat), R H v t → TN H v t) (T : Top K mg "chains" s_chains ["lock"]) (B : Bi mg) (hO : Has P w K mg base (L2.CX P w) 8 "own_prime" ["lock"] (spOwn CP)) (hL : Has P w K mg base CX0 7 "lower" ["lock"] spLowerK) (hF : Has P w K mg base CX0 6 "longest_first" ["base", "terms", "level"] (spLongestR R))
    (hB : Has P w K mg base CX0 2 "bracket_of" ["one", "other"] spBracket) : Has P w K mg base (L2.CX P w) 9 "chains" ["lock"] (spChainsR R CP) := by
  refine T.okX sc_chains (fun vs H Q E h => ?_) (fun f cdv A outer s H vs Q E hr h => ?_)
  · obtain ⟨v, ls, n, rfl, _⟩ := h
    rfl
  obtain ⟨v, ls, n, rfl, g, ⟨va, vx, rfl, hva, pvx⟩, qN, q⟩ := h
  have hr8 : Room 8 (cxOf (L2.CX P w) P w K mg base chN "chains" (defScope s_chains) f cdv A outer s H E).A := hr.mono (by decide)
  have hr7 : Room 7 (cxOf (L2.CX P w) P w K mg base chN "chains" (defScope s_chains) f cdv A outer s H E).A := hr.mono (by decide)
  have hr6 : Room 6 (cxOf (L2.CX P w) P w K mg base chN "chains" (defScope s_chains) f cdv A outer s H E).A := hr.mono (by decide)
  have hr2 : Room 2 (cxOf (L2.CX P w) P w K mg base chN "chains" (defScope s_chains) f cdv A outer s H E).A := hr.mono (by decide)
  refine ⟨_, pss_cons (ps_set (i := 1) sc_chains.nd rfl (Or.inl rfl) (pe_hasX (E := E) hO hr8 (by rfl) (passes_call (takes_of rfl rfl rfl rfl) (fun _ _ _ _ h => h)) (pa_cons (pv 0) pa_nil)))
    (pss_cons (ps_set (i := 2) sc_chains.nd rfl (Or.inl rfl) (pe_has hL hr7 (by rfl) (pa_cons (pv 0) pa_nil)))
    (pss_cons (ps_setLc (i := 3) (own := [("given", 6)]) (g := gName 6) (te := tTup (tCons (tTup (tCons (tVar 6) tNil)) (tCons (tVar 6) tNil))) (by rfl) sc_chains.nd rfl rfl (sw_true rfl rfl rfl (by decide +kernel)) (pi_tup (pv 0)) (blkOk_by (own := [("given", 6)]) (N := chN) (sc := defScope s_chains) (by decide +kernel))
        (fun _ _ _ _ _ => pg_name (i := 6) sc_chains.nd rfl (Or.inl rfl)) (fun _ _ _ _ _ => pts_nil) (fun _ _ _ _ _ => pe_tup (pa_cons (by exact pe_tup (pa_cons (pv 6) pa_nil)) (pa_cons (pv 6) pa_nil))))
    (pss_cons (ps_set (i := 4) sc_chains.nd rfl (Or.inl rfl) (pe_lst pa_nil))
    (pss_cons (ps_while (passes_of rfl) (pt_truth (pv 3) (by intro _; rfl))
      (pss_cons (ps_set (i := 5) sc_chains.nd rfl (Or.inl rfl) (pe_has hF hr6 (by rfl) (pa_cons (pv 1) (pa_cons (pv 2) (pa_cons (pv 3) pa_nil)))))
      (pss_cons (ps_expr (pe_bm PySem.F.plainAttrs_list PySem.F.slot_list_extend PySem.F.type_list_extend mt_extend (pv 4) (pa_cons (pe_lc (own := [("givens", 7), ("_", 8), ("length", 9)]) (g := gTup K 3 (gCons (gName 7) (gCons (gName 8) (gCons (gName 9) gNil)))) (te := tTup (tCons (tVar 7) (tCons (tVar 9) tNil))) (by rfl) sc_chains.nd (pi_list (pv 5))
          (blkOk_by (own := [("givens", 7), ("_", 8), ("length", 9)]) (N := chN) (sc := defScope s_chains) (by decide +kernel))
          (fun _ _ _ _ _ => pg_tup rfl (pgs_cons (pg_name (i := 7) sc_chains.nd rfl (Or.inl rfl)) (pgs_cons (pg_name (i := 8) sc_chains.nd rfl (Or.inl rfl)) (pgs_cons (pg_name (i := 9) sc_chains.nd rfl (Or.inl rfl)) pgs_nil)))) (fun _ _ _ _ _ => pts_nil)
          (fun _ _ _ _ _ => pe_tup (pa_cons (pv 7) (pa_cons (pv 9) pa_nil)))) pa_nil)))
      (pss_one (ps_setLc2 (i := 3) (own := [("givens", 7), ("turn", 10), ("_", 8), ("given", 6)]) (vs1 := [6]) (wi1 := iTup K (tVar 0)) (g := gTup K 3 (gCons (gName 7) (gCons (gName 10) (gCons (gName 8) gNil)))) (g1 := gName 6) (te := tTup (tCons (tOp (rCatA K) (tVar 7) (tTup (tCons (tVar 6) tNil))) (tCons (tCall spBracket [] E0 (tCons (tVar 10) (tCons (tVar 6) tNil))) tNil))) (by rfl) sc_chains.nd rfl rfl (sw_true rfl rfl rfl (by decide +kernel)) (pi_list (pv 5))
        (blkOk_by (own := [("givens", 7), ("turn", 10), ("_", 8), ("given", 6)]) (N := chN) (sc := defScope s_chains) (by decide +kernel)) (by decide)
        (fun _ _ _ _ _ => pg_tup rfl (pgs_cons (pg_name (i := 7) sc_chains.nd rfl (Or.inl rfl)) (pgs_cons (pg_name (i := 10) sc_chains.nd rfl (Or.inl rfl)) (pgs_cons (pg_name (i := 8) sc_chains.nd rfl (Or.inl rfl)) pgs_nil)))) (fun _ _ _ _ _ => pts_nil) (fun _ _ _ _ _ => by exact (pi_tup (pv 0))) (fun _ _ _ _ _ => pg_name (i := 6) sc_chains.nd rfl (Or.inl rfl)) (fun _ _ _ _ _ => pts_nil)
        (fun _ _ _ _ _ => pe_tup (pa_cons (by exact pe_op op_catA (pv 7) (pe_tup (pa_cons (pv 6) pa_nil))) (pa_cons (pe_has hB hr2 (by rfl) (pa_cons (pv 10) (pa_cons (pv 6) pa_nil))) pa_nil))))))))
    (pss_one (ps_ret (pe_tupleOf (by rfl) B.tuple (pv 4)))))))), ?_⟩
  refine ⟨_, rfl, .ref va, ls, n, rfl, g, qN, fun p hp H1 s1 => ?_⟩
  obtain ⟨⟨_, wo⟩, q⟩ := q p hp
  refine ⟨_, rfl, .ref va, ls, n, rfl, g.same s1, fun r H2 T0 Ts s2 tts nd0 asc0 mem0 hser => ?_⟩
  have W := wo T0 Ts nd0 mem0 hser
  have ok := tsOk_of g mem0 nd0 hser
  have hls := ok.hls
  have s12 := s1.trans s2
  have hva2 := s12 _ _ hva
  have pvx2 : Paired (R H2) vx ls := paired_mono (fun _ _ r => Rm _ _ _ _ (.of s12) r) pvx
  have lvx := Paired.length pvx
  have l4 : ls.length ≤ 4 := g.gl.2.1
  refine ⟨_, rfl, va, rfl, ⟨_, SqT.of hva2⟩, fun D hD => lc_tupM (xs := vx) (CzQ R) (ls.map fun g => ([g], g)) (fun _ _ _ _ e r => CzQ.tm Rm e r) (SqT.of hva2) (fun H' sm => SqT.of (sm _ _ hva2)) (by omega) (by rw [List.length_map, lvx]) hD (fun x => rfl) (fun i x b hi hb H' sm Q' q' => ?_) (fun H3 zs s3 hz pr => ?_)⟩
  · obtain ⟨t, ht, tk⟩ := Paired.getL pvx2 hi
    rw [List.getElem?_map, ht] at hb
    have hb := (Option.some.inj hb).symm
    subst hb
    refine ⟨_, rfl, Nat.le_of_ble_eq_true rfl, fun p1 hp1 => ⟨_, rfl, Nat.le_of_ble_eq_true rfl, fun p2 hp2 => ?_⟩⟩
    have sa := same_new (o := .tup [x]) hp1
    have sb := same_new (o := .tup [V.ref p1, x]) hp2
    exact q' _ _ (sa.trans sb) ⟨p2, .ref p1, x, rfl, upd_same, ⟨p1, [x], rfl, sb _ _ upd_same, .cons (Rm _ _ _ _ (.of (sm.trans (sa.trans sb))) tk) .nil⟩, Rn _ _ _ (Rm _ _ _ _ (.of (sm.trans (sa.trans sb))) tk)⟩
  refine ⟨Nat.zero_le _, fun fl hfl => ?_⟩
  have s4 := same_new (o := .lst []) hfl
  have s03 := s12.trans s3
  have fl0 : H fl = none := s03.free hfl
  have ndf : D ≠ fl := ne_of_none hz hfl
  refine ⟨fun m σ H' => ∃ (i : Nat) (lv : Addr) (xs zs : List V) (y5 y6 y7 y8 y9 y10 : Option V), σ = [some (.ref va), some (nI p), some r, some (.ref lv), some (.ref fl), y5, y6, y7, y8, y9, y10] ∧ Same H H' ∧ TTTK H' r Ts ∧ H' lv = some (.lst xs) ∧ Paired (CzQ R H') xs (chLev n p Ts ls i).1 ∧ H' fl = some (.lst zs) ∧ Paired (FzQ R H') zs (chLev n p Ts ls i).2 ∧ zs.length ≤ 20000 * i ∧ lv ≠ fl ∧ i ≤ 8 ∧ m = 8 - i,
    ⟨8, 0, D, zs, [], _, _, _, _, _, _, rfl, s03.trans s4, tts.tm (.of (s3.trans s4)), s4 _ _ hz, paired_mono (fun _ _ r => CzQ.tm Rm (.of s4) r) pr, upd_same, .nil, Nat.zero_le _, ndf, by decide, rfl⟩, ?_⟩
  rintro m σ H5 ⟨i, lv, xs, ws, y5, y6, y7, y8, y9, y10, rfl, st, tts5, hlv, plv, hws, pws, lws, nlf, hi8, rfl⟩
  have lxs := Paired.length plv
  have lwz := Paired.length pws
  refine ⟨_, rfl, !xs.isEmpty, .inl ⟨xs, SqL.of hlv, rfl⟩, ?_⟩
  by_cases hxe : xs = []
  · subst hxe
    refine iteF ⟨_, rfl, .inl ⟨fl, ws, rfl, SqL.of hws, fun rp hrp => ?_⟩⟩
    have s6 := same_new (o := .tup ws) hrp
    have e0 : (chLev n p Ts ls i).1 = [] := List.length_eq_zero_iff.mp lxs.symm
    have e8 := ch_stop e0 (8 - i)
    rw [show i + (8 - i) = 8 by omega] at e8
    refine q rp _ T0 Ts ws (st.trans s6) nd0 asc0 mem0 hser upd_same ?_ ?_
    · rw [e8]
      exact paired_mono (fun _ _ r => FzQ.tm Rm (.of s6) r) pws
    · have := Nat.mul_le_mul_left 20000 hi8
      omega
  have hxl : 1 ≤ xs.length := by
    cases xs with
    | nil => exact absurd rfl hxe
    | cons a r => exact Nat.succ_le_succ (Nat.zero_le _)
  have hi7 : i < 8 := by
    by_cases z : i = 8
    · rw [z, W.stop] at lxs
      have e : ([] : List Cz).length = 0 := rfl
      omega
    · omega
  have hne : xs.isEmpty = false := by
    cases xs with
    | nil => exact absurd rfl hxe
    | cons a r => rfl
  rw [hne]
  have hlvG := in_chLevK hls ok.few (p := p) (Ts := Ts) i
  have hwt : ((chLev n p Ts ls i).1.headD ([], [])).1.length = i + 1 := by
    have := ch_wt n p Ts ls i
    cases e : (chLev n p Ts ls i).1 with
    | nil => rw [e] at lxs; have e : ([] : List Cz).length = 0 := rfl; omega
    | cons c r => exact this c (by rw [e]; exact List.mem_cons_self)
  generalize hlev : (chLev n p Ts ls i).1 = lev at *
  generalize hfnd : (chLev n p Ts ls i).2 = fnd at *
  generalize hkept : lfM n p Ts lev = kept
  have hnext : chLev n p Ts ls (i + 1) = (nxLev ls kept, fnd ++ kept.map fun k => (k.1, k.2.2)) := by
    rw [chLev_succ, hlev, hfnd, hkept]
  have kwt : ∀ k ∈ kept, k.1.length = i + 1 := by
    rw [← hkept]
    refine lfOut_wt n p Ts _ (i + 1) _ (fun c hc => ch_wt n p Ts ls i c (by rw [hlev]; exact hc)) _ [] (fun k hk => by cases hk)
  have keG : KeG ls n kept := by
    rw [← hkept]
    exact in_lfM hls hlvG
  have hll := W.lv i hi8
  rw [hlev] at hll
  refine iteT ⟨fun σ3 H3' => ∃ (lv : Addr) (xs zs : List V) (y5 y6 y7 y8 y9 y10 : Option V), σ3 = [some (.ref va), some (nI p), some r, some (.ref lv), some (.ref fl), y5, y6, y7, y8, y9, y10] ∧ Same H H3' ∧ TTTK H3' r Ts ∧ H3' lv = some (.lst xs) ∧ Paired (CzQ R H3') xs (nxLev ls kept) ∧ H3' fl = some (.lst zs) ∧ Paired (FzQ R H3') zs (fnd ++ kept.map fun k => (k.1, k.2.2)) ∧ zs.length ≤ 20000 * (i + 1) ∧ lv ≠ fl,
    fun σ3 H3' ⟨a1, a2, a3, a4, a5, a6, a7, a8, a9, e1, e2, e3, e4, e5, e6, e7, e8, e9⟩ => ⟨8 - (i + 1), by omega, i + 1, a1, a2, a3, a4, a5, a6, a7, a8, a9, e1, e2, e3, e4, by rw [hnext]; exact e5, e6, by rw [hnext]; exact e7, e8, e9, by omega, rfl⟩, ?_⟩
  refine ⟨_, rfl, _, rfl, _, rfl, r, lv, xs, ls, n, p, i + 1, Ts, lev, rfl, tts5, ok, W, hlv, plv, by omega, hll, hwt, by omega, by omega, W.pw i hi8 (by rw [hlev]; intro z; rw [z] at lxs; have : ([] : List Cz).length = 0 := rfl; omega), hlvG, fun a H6 ys s6 ha hys pys lys => ?_⟩
  rw [hkept] at pys
  have lky := Paired.length pys
  have hws6 := s6 _ _ hws
  have naf : a ≠ fl := (ne_of_none hws ha).symm
  refine ⟨_, rfl, .inl ⟨rfl, ws, SqL.of hws6⟩, _, rfl, a, rfl, ⟨_, SqL.of hys⟩, fun D2 hD2 => lc_genF (J := Itl K a) (n := ys.length) (FzQ R) (fun _ => true) (fun i => (kept.map fun k => (k.1, k.2.2)).getD i ([], 0)) (fun _ _ _ _ e r => FzQ.tm Rm e r) (by omega) hD2 (fun i H3 hi s3 => ⟨ys, _, SqL.of (s3 _ _ hys), List.getElem?_eq_getElem hi⟩) (fun H3 s3 => ⟨ys, SqL.of (s3 _ _ hys), Nat.le_refl _⟩) (fun i H3 x' H4 hi s3 y => ?_) (fun H7 zs2 s7 hz2 pr2 => ?_)⟩
  · obtain ⟨rfl, hx'⟩ := y
    have hx' := hx' _ (SqL.of (s3 _ _ hys))
    obtain ⟨kz, hkz, kp, kgv, kt, rfl, hkp', kgv', kt'⟩ := Lt.Paired.getL pys hx'
    have ek : (kept.map fun k => (k.1, k.2.2)).getD i ([], 0) = (kz.1, kz.2.2) := by rw [List.getD_eq_getElem?_getD, List.getElem?_map, hkz]; rfl
    rw [ek]
    refine ⟨Same.refl _, _, fun Kk q => ⟨kp, _, rfl, SqT.of (s3 _ _ hkp'), rfl, _, _, rfl, _, _, rfl, _, _, rfl, rfl, q⟩, rfl, fun Q q => q _ (Same.refl _), fun _ H5 s5 Q q' => ⟨_, rfl, _, rfl, Nat.le_of_ble_eq_true rfl, fun tp htp => ?_⟩⟩
    have s8 := same_new (o := .tup [kgv, nI kz.2.2]) htp
    exact q' _ _ s8 ⟨tp, kgv, rfl, upd_same, TTR.tm Rm (.of (s3.trans (s5.trans s8))) kgv'⟩
  have e1 : ((List.range ys.length).filter fun _ => true).map (fun i => (kept.map fun k => (k.1, k.2.2)).getD i ([], 0)) = kept.map fun k => (k.1, k.2.2) := by
    rw [List.filter_eq_self.mpr fun _ _ => rfl, show ys.length = (kept.map fun k => (k.1, k.2.2)).length by rw [List.length_map, lky]]
    exact getDd_rng _ _
  rw [e1] at pr2
  have lz2 := Paired.length pr2
  rw [List.length_map] at lz2
  have hws7 := s7 _ _ hws6
  have b20 := Nat.mul_le_mul_left 20000 hi8
  refine ⟨fl, D2, ws, zs2, rfl, rfl, hws7, hz2, by rw [sizeLine_eq]; omega, ?_⟩
  have tL := Tm.lst (o := .lst (ws ++ zs2)) hws7
  have hfl8 : (upd H7 fl (.lst (ws ++ zs2))) fl = some (.lst (ws ++ zs2)) := upd_same
  have pfl8 := Paired.app (paired_mono (fun _ _ r => FzQ.tm Rm ((Tm.of (s6.trans s7)).trans tL) r) pws) (paired_mono (fun _ _ r => FzQ.tm Rm tL r) pr2)
  have hys8 : (upd H7 fl (.lst (ws ++ zs2))) a = some (.lst ys) := (upd_ne naf).trans (s7 _ _ hys)
  have pys8 := paired_mono (fun _ _ r => KzQ.tm Rm ((Tm.of s7).trans tL) r) pys
  have st8 : Same H (upd H7 fl (.lst (ws ++ zs2))) := same_mut (st.trans (s6.trans s7)) fl0
  have tts8 := tts5.tm ((Tm.of (s6.trans s7)).trans tL)
  generalize upd H7 fl (.lst (ws ++ zs2)) = H8 at *
  have hva8 := st8 _ _ hva
  have pvx8 : Paired (R H8) vx ls := paired_mono (fun _ _ r => Rm _ _ _ _ (.of st8) r) pvx
  refine ⟨_, rfl, a, rfl, ⟨_, SqL.of hys8⟩, fun D3 hD3 => ?_⟩
  let Pv : Nat → Hp → Prop := fun i H' => Same H8 H' ∧ ∃ zs, H' D3 = some (.lst zs) ∧ Paired (CzQ R H') zs (nxLev ls (kept.take i))
  refine ⟨fun i m H' => m = ys.length - i ∧ i ≤ ys.length ∧ Pv i H', ⟨ys.length, rfl, Nat.zero_le _, same_new hD3, [], upd_same, .nil⟩, ?_⟩
  rintro k m H9 ⟨rfl, hk, st9, zs9, hz9, pz9⟩
  by_cases hlt : k < ys.length
  · refine .inr ⟨⟨ys, ys[k], SqL.of (st9 _ _ hys8), by simp [hlt]⟩, Pv (k + 1), fun H' p' => ⟨ys.length - (k + 1), by omega, rfl, hlt, p'⟩, fun x H' y => ?_⟩
    obtain ⟨e, y⟩ := y
    subst e
    have hx := y ys (SqL.of (st9 _ _ hys8))
    obtain ⟨kz, hkz, kp, kgv, kt, rfl, hkp', ⟨ga, gx, rfl, hga, pgx⟩, kt'⟩ := Lt.Paired.getL pys8 hx
    have kzin := List.mem_of_getElem? hkz
    have kzP := (keG kz kzin).1.isP hls
    have kzl := kwt kz kzin
    have lgx := Paired.length pgx
    refine ⟨kp, _, rfl, SqT.of (st9 _ _ hkp'), rfl, _, _, rfl, _, _, rfl, _, _, rfl, rfl, rfl, iteT (B := Pv (k + 1) H') ?_⟩
    let Pw : Nat → Hp → Prop := fun j H' => Same H8 H' ∧ ∃ zs, H' D3 = some (.lst zs) ∧ Paired (CzQ R H') zs (nxLev ls (kept.take k) ++ (ls.take j).map fun g => (kz.1 ++ [g], cm kz.2.1 g))
    refine ⟨_, rfl, va, rfl, ⟨_, SqT.of (st9 _ _ hva8)⟩, fun j m H' => m = vx.length - j ∧ j ≤ vx.length ∧ Pw j H', ⟨vx.length, rfl, Nat.zero_le _, st9, zs9, hz9, by rw [List.take_zero, List.map_nil, List.append_nil]; exact pz9⟩, ?_⟩
    rintro j m H10 ⟨rfl, hj, st10, zs10, hz10, pz10⟩
    by_cases hlj : j < vx.length
    · refine .inr ⟨⟨vx, vx[j], SqT.of (st10 _ _ hva8), by simp [hlj]⟩, Pw (j + 1), fun H' p' => ⟨vx.length - (j + 1), by omega, rfl, hlj, p'⟩, fun x2 H'' y2 => ?_⟩
      obtain ⟨e, y2⟩ := y2
      subst e
      have hx2 := y2 vx (SqT.of (st10 _ _ hva8))
      obtain ⟨g, hg, hgk⟩ := Lt.Paired.getL pvx8 hx2
      have gP := hls g (List.mem_of_getElem? hg)
      refine ⟨rfl, iteT (B := Pw (j + 1) H'') ?_⟩
      refine ⟨_, rfl, _, rfl, Nat.le_of_ble_eq_true rfl, fun p1 hp1 => ?_⟩
      have s11 := same_new (o := .tup [x2]) hp1
      have k11 : (upd H'' p1 (.tup [x2])) p1 = some (.tup [x2]) := upd_same
      generalize upd H'' p1 (.tup [x2]) = H11 at *
      have hga11 := (st10.trans s11) _ _ hga
      refine ⟨ga, p1, gx, [x2], rfl, rfl, SqT.of hga11, SqT.of k11, by rw [sizeLine_eq]; show gx.length + 1 ≤ _; omega, (fun z => by rw [z] at lgx; have : ([] : List V).length = 0 := rfl; omega), (fun _ z => by cases z), fun _ _ p2 hp2 => ?_⟩
      have s12' := same_new (o := .tup (gx ++ [x2])) hp2
      have k12 : (upd H11 p2 (.tup (gx ++ [x2]))) p2 = some (.tup (gx ++ [x2])) := upd_same
      generalize upd H11 p2 (.tup (gx ++ [x2])) = H12 at *
      have s1012 := s11.trans s12'
      have st12 := st10.trans s1012
      refine ⟨_, rfl, _, rfl, kt, x2, kz.2.1, g, n, rfl, kt'.tm (.of st12), Rn _ _ _ (Rm _ _ _ _ (.of st12) hgk), kzP, gP, by have := ok.n9; omega, fun v H13 s13 hv => ⟨Nat.le_of_ble_eq_true rfl, fun p3 hp3 => ?_⟩⟩
      have s14 := same_new (o := .tup [V.ref p2, v]) hp3
      have k14 : (upd H13 p3 (.tup [V.ref p2, v])) p3 = some (.tup [V.ref p2, v]) := upd_same
      generalize upd H13 p3 (.tup [V.ref p2, v]) = H14 at *
      have s1214 := s13.trans s14
      have s1014 := s1012.trans s1214
      have hz14 := s1014 _ _ hz10
      have tD : Tm H14 (upd H14 D3 (.lst (zs10 ++ [V.ref p3]))) := Tm.lst hz14
      have lz10 := Paired.length pz10
      rw [List.length_append, nx_len, List.length_map, List.length_take, List.length_take] at lz10
      have lb : min k kept.length * ls.length ≤ 20000 * 4 := Nat.mul_le_mul (by omega) l4
      refine ⟨zs10, hz14, by rw [sizeLine_eq]; omega, same_mut (st10.trans s1014) hD3, zs10 ++ [.ref p3], upd_same, ?_⟩
      rw [List.take_add_one, hg, List.map_append, ← List.append_assoc]
      refine Paired.app (paired_mono (fun _ _ r => CzQ.tm Rm ((Tm.of s1014).trans tD) r) pz10) (Paired.one ⟨p3, .ref p2, v, rfl, tD.1 _ _ k14, ⟨p2, _, rfl, tD.1 _ _ (s1214 _ _ k12), ?_⟩, ((hv.tm (.of s14)).tm tD).tn⟩)
      exact Paired.app (paired_mono (fun _ _ r => Rm _ _ _ _ ((Tm.of (st12.trans s1214)).trans tD) r) pgx) (Paired.one (Rm _ _ _ _ ((Tm.of (st12.trans s1214)).trans tD) hgk))
    · have e : j = vx.length := by omega
      subst e
      rw [lvx, List.take_length] at pz10
      refine .inl ⟨⟨vx, SqT.of (st10 _ _ hva8), Nat.le_refl _⟩, st10, zs10, hz10, ?_⟩
      have en : nxLev ls (kept.take (k + 1)) = nxLev ls (kept.take k) ++ ls.map fun g => (kz.1 ++ [g], cm kz.2.1 g) := by
        unfold nxLev
        rw [List.take_add_one, hkz, List.flatMap_append]
        congr 1
        exact List.append_nil _
      rw [en]
      exact pz10
  · have e : k = ys.length := by omega
    subst e
    rw [lky, List.take_length] at pz9
    have naf3 : D3 ≠ fl := (ne_of_none hfl8 hD3).symm
    exact .inl ⟨⟨ys, SqL.of (st9 _ _ hys8), Nat.le_refl _⟩, D3, zs9, ws ++ zs2, _, _, _, _, _, _, rfl, st8.trans st9, tts8.tm (.of st9), hz9, pz9, st9 _ _ hfl8, paired_mono (fun _ _ r => FzQ.tm Rm (.of st9) r) pfl8, by rw [List.length_append]; omega, naf3⟩
end
end Lt

set_option Elab.async false
set_option linter.all false
set_option maxRecDepth 100000
set_option maxHeartbeats 2000000
/-! k07: the law's powers, and the commutators of chains -/
namespace Lt
open PySem PySem.Spec PyProof.Rows L2
section
variable {P : Program} {w : World} {K : PySem.W.Frag} {mg : Str → Option Value} {base : Heap}
def spLawSwapG : Sp := fun vs H Q _ => ∃ (a b : V) (x y : List Nat) (n : Nat), vs = [a, b] ∧ TF H a x ∧ TF H b y ∧ IsP n x ∧ IsP n y ∧ n ≤ 1000 ∧ ∀ v H', Same H H' → TF H' v (cm x y) → Q v H'
theorem has_law_swapG (T : Top K mg "_law_swap" s_law_swap ["one", "other"]) (hP : Has P w K mg base CX0 1 "_law_behind" ["one", "other"] spProd) (hF : Has P w K mg base CX0 1 "_law_behind" ["one", "other"] spProdF) (hB : Has P w K mg base CX0 1 "_law_back" ["turn"] spLawBack) : Has P w K mg base CX0 2 "_law_swap" ["one", "other"] spLawSwapG := by
  refine T.ok sc_law_swap (fun vs H Q E h => ?_) (fun f cdv A outer s H vs Q E hr h => ?_)
  · obtain ⟨a, b, x, y, n, rfl, _⟩ := h
    rfl
  · obtain ⟨a, b, x, y, n, rfl, ha, hb, hx, hy, hn, q⟩ := h
    refine ⟨_, pss_one (ps_ret (pe_has hF hr (by rfl) (pa_cons (pe_has hP hr (by rfl) (pa_cons (pv 0) (pa_cons (pv 1) pa_nil))) (pa_cons (pe_has hP hr (by rfl) (pa_cons (pe_has hB hr (by rfl) (pa_cons (pv 0) pa_nil)) (pa_cons (pe_has hB hr (by rfl) (pa_cons (pv 1) pa_nil)) pa_nil))) pa_nil)))), ?_⟩
    refine ⟨_, rfl, _, rfl, pr_call ha.tn hb.tn hx hy hn fun u1 H1 s1 h1 => ?_⟩
    refine ⟨_, rfl, a, x, n, rfl, ha.tm (.of s1), hx, hn, fun u2 H2 s2 h2 => ?_⟩
    refine ⟨_, rfl, b, y, n, rfl, hb.tm (.of (s1.trans s2)), hy, hn, fun u3 H3 s3 h3 => ?_⟩
    refine pr_call (h2.tm (.of s3)).tn h3.tn hx.inv hy.inv hn fun u4 H4 s4 h4 => ?_
    refine ⟨u1, u4, _, _, rfl, (h1.tm (.of ((s2.trans s3).trans s4))).tn, h4.tn, fun i hi => by rw [(hx.inv.prod hy.inv).len]; exact (hx.prod hy).lt i hi, by rw [(hx.prod hy).len]; exact hn, fun u5 H5 s5 h5 => ?_⟩
    rw [cm_eq hx hy] at h5
    exact q u5 H5 ((((s1.trans s2).trans s3).trans s4).trans s5) h5
def spLawPow : Sp := fun vs H Q _ => ∃ (v : V) (t : List Nat) (n k : Nat), vs = [v, nI k] ∧ TN H v t ∧ IsP n t ∧ n ≤ 9 ∧ k ≤ 10000000 ∧ ∀ r H', Same H H' → TK H' r (pw n t k) → Q r H'
theorem sc_law_power : FnScope ["turn", "many", "found", "step"] ["turn", "many"] (defScope s_law_power) := ⟨rfl, rfl, rfl, by decide +kernel, rfl, by decide +kernel, by decide +kernel⟩
theorem has_law_power (T : Top K mg "_law_power" s_law_power ["turn", "many"]) (B : Bi mg) (hP : Has P w K mg base CX0 1 "_law_behind" ["one", "other"] spProd) : Has P w K mg base CX0 2 "_law_power" ["turn", "many"] spLawPow := by
  refine T.ok sc_law_power (fun vs H Q E h => ?_) (fun f cdv A outer s H vs Q E hr h => ?_)
  · obtain ⟨v, t, n, k, rfl, _⟩ := h
    rfl
  · obtain ⟨v, t, n, k, rfl, ht, hP', n9, km, q⟩ := h
    have hr1 : Room 1 _ := hr.mono (by decide)
    refine ⟨_, pss_cons (ps_set (i := 2) sc_law_power.nd rfl (Or.inl rfl) (pe_tupRg (by rfl) (by rfl) B.tuple (prg_1 (by rfl) B.range (pe_callB call_len_seq (by rfl) B.len PySem.boot_len (pa_cons (pv 0) pa_nil)))))
      (pss_cons (ps_for PassesOwn.never rfl (pi_range1 (by rfl) B.range (pa_cons (pv 1) pa_nil)) (pg_name (i := 3) sc_law_power.nd rfl (Or.inl rfl))
        (pss_one (ps_set (i := 2) sc_law_power.nd rfl (Or.inl rfl) (pe_has hP hr1 (by rfl) (pa_cons (pv 2) (pa_cons (pv 0) pa_nil))))))
      (pss_one (ps_ret (pv 2)))), ?_⟩
    obtain ⟨a, rfl, ha⟩ := id ht
    have hl := hP'.len
    have hn9 : (nIs t).length ≤ 9 := by rw [nIs_len, hl]; exact n9
    refine ⟨_, rfl, a, nIs t, rfl, .inr ha.sq, _, rfl, .of_le (by omega) (by omega) (by omega) (by omega), fun p hp => ?_⟩
    have s1 := same_new (o := .tup (rgV 0 ((nIs t).length : Int))) hp
    have k1 : TK (upd H p (.tup (rgV 0 ((nIs t).length : Int)))) (.ref p) (List.range n) := ⟨p, rfl, by rw [upd_same, nIs_len, hl, rgV_nat]⟩
    generalize upd H p (.tup (rgV 0 ((nIs t).length : Int))) = H1 at *
    refine ⟨_, rfl, (k : Int), rfl, by omega, by omega, for_range (lo := 0) (n := (k : Int).toNat) (fun i σ H' => ∃ r y3, σ = [some (.ref a), some (nI k), some r, y3] ∧ Same H H' ∧ TK H' r (pw n t i)) ⟨.ref p, none, rfl, s1, k1⟩ ?_ ?_⟩
    · rintro i σ H' hi ⟨r, y3, rfl, sm, hr'⟩
      exact ⟨_, rfl, _, rfl, pr_call hr'.tn (ht.tm (.of sm)) (pw_isP hP' _) hP' (by omega) fun r2 H5 s5 hr2 => ⟨r2, _, rfl, sm.trans s5, hr2⟩⟩
    · rintro σ H' ⟨r, y3, rfl, sm, hr'⟩
      rw [Int.toNat_natCast] at hr'
      exact ⟨_, rfl, q r H' sm hr'⟩
/-- a chain's commutator, from the left -/
def cmsL (gs : List (List Nat)) : List Nat := gs.tail.foldl cm (gs.headD [])
def BsR (p : Nat) (H : Hp) (v : V) (f : Fz) : Prop := ∃ q t, v = .ref q ∧ H q = some (.tup [t, nI (p ^ f.2), nI f.1.length]) ∧ TF H t (cmsL f.1)
theorem BsR.tm {p : Nat} {H H' : Hp} {v : V} {f : Fz} (e : Tm H H') (h : BsR p H v f) : BsR p H' v f := let ⟨q, t, h1, h2, h3⟩ := h; ⟨q, t, h1, e.1 _ _ h2, TF.tm e h3⟩
def spBases : Sp := fun vs H Q _ => ∃ (a : Addr) (xs : List V) (fs : List Fz) (n p : Nat), vs = [.ref a, nI p] ∧ H a = some (.tup xs) ∧ Paired (FzQ TF H) xs fs ∧ (∀ f ∈ fs, f.1 ≠ [] ∧ f.1.length ≤ 9 ∧ f.2 ≤ 6 ∧ ∀ g ∈ f.1, IsP n g) ∧ n ≤ 9 ∧ p ≤ 7 ∧ xs.length ≤ 200000 ∧
  ∀ l H' ys, Same H H' → H l = none → H' l = some (.lst ys) → Paired (BsR p H') ys fs → Q (.ref l) H'
abbrev bsN : List Str := ["told", "prime_v", "found", "given", "long", "turn", "many", "other", "step"]
theorem sc_law_bases : FnScope bsN ["told", "prime_v"] (defScope s_law_bases) := ⟨rfl, rfl, rfl, by decide +kernel, rfl, by decide +kernel, by decide +kernel⟩
theorem has_law_bases (T : Top K mg "_law_bases" s_law_bases ["told", "prime_v"]) (B : Bi mg) (hW : Has P w K mg base CX0 2 "_law_swap" ["one", "other"] spLawSwapG) : Has P w K mg base CX0 3 "_law_bases" ["told", "prime_v"] spBases := by
  refine T.ok sc_law_bases (fun vs H Q E h => ?_) (fun f cdv A outer s H vs Q E hr h => ?_)
  · obtain ⟨a, xs, fs, n, p, rfl, _⟩ := h
    rfl
  · obtain ⟨a, xs, fs, n, p, rfl, ha, px, hfs, n9, p7, xl, q⟩ := h
    have hr2 : Room 2 _ := hr.mono (by decide)
    refine ⟨_, pss_cons (ps_set (i := 2) sc_law_bases.nd rfl (Or.inl rfl) (pe_lst pa_nil))
      (pss_cons (ps_for PassesOwn.never rfl (pi_tup (pv 0)) (pg_tup (by rfl) (pgs_cons (pg_name (i := 3) sc_law_bases.nd rfl (Or.inl rfl)) (pgs_cons (pg_name (i := 4) sc_law_bases.nd rfl (Or.inl rfl)) pgs_nil)))
        (pss_cons (ps_par (i := 5) (j := 6) (by rfl) sc_law_bases.nd rfl rfl (by decide) rfl rfl (pa_cons (pe_ix ix_tup (pv 3) pe_int (fun _ _ => rfl)) (pa_cons pe_int pa_nil)) (by rfl))
        (pss_cons (ps_for PassesOwn.never rfl (pi_tup (pe_slice sl_tupA (pv 3) (po_some pe_int) po_none)) (pg_name (i := 7) sc_law_bases.nd rfl (Or.inl rfl))
          (pss_one (ps_set (i := 5) sc_law_bases.nd rfl (Or.inl rfl) (pe_has hW hr2 (by rfl) (pa_cons (pv 5) (pa_cons (pv 7) pa_nil))))))
        (pss_cons (ps_for PassesOwn.never rfl (pi_range1 (by rfl) B.range (pa_cons (pv 4) pa_nil)) (pg_name (i := 8) sc_law_bases.nd rfl (Or.inl rfl))
          (pss_one (ps_set (i := 6) sc_law_bases.nd rfl (Or.inl rfl) (pe_op op_mulN (pv 6) (pv 1)))))
        (pss_one (ps_expr (pe_bm PySem.F.plainAttrs_list PySem.F.slot_list_append PySem.F.type_list_append mt_append (pv 2) (pa_cons (pe_tup (pa_cons (pv 5) (pa_cons (pv 6) (pa_cons (pe_callB call_len_seq (by rfl) B.len PySem.boot_len (pa_cons (pv 3) pa_nil)) pa_nil)))) pa_nil))))))))
      (pss_one (ps_ret (pv 2)))), ?_⟩
    refine ⟨Nat.zero_le _, fun fl hfl => ?_⟩
    have s0 := same_new (o := .lst []) hfl
    have k0 : (upd H fl (.lst [])) fl = some (.lst []) := upd_same
    have lx := Paired.length px
    generalize upd H fl (.lst []) = H1 at *
    refine ⟨_, rfl, a, rfl, ⟨_, SqT.of (s0 _ _ ha)⟩, for_tup (K := K) (a := a) (xs := xs) (fun i σ H' => ∃ y3 y4 y5 y6 y7 y8 zs, σ = [some (.ref a), some (nI p), some (.ref fl), y3, y4, y5, y6, y7, y8] ∧ Same H H' ∧ H' fl = some (.lst zs) ∧ Paired (BsR p H') zs (fs.take i))
      ⟨none, none, none, none, none, none, [], rfl, s0, k0, .nil⟩ (fun i σ H' _ ⟨_, _, _, _, _, _, _, _, st, _⟩ => SqT.of (st _ _ ha)) ?_ ?_⟩
    · rintro i x σ H' hi ⟨y3, y4, y5, y6, y7, y8, zs, rfl, st, hz, pz⟩
      obtain ⟨f, hf, fp, fgv, rfl, hfp, ga, gx, rfl, hga, pgx⟩ := Paired.getL px hi
      obtain ⟨f1, f2, f3, f4⟩ := hfs f (List.mem_of_getElem? hf)
      have lgx := Paired.length pgx
      have g1 : 1 ≤ f.1.length := by
        cases e : f.1 with
        | nil => exact absurd e f1
        | cons a r => exact Nat.succ_le_succ (Nat.zero_le _)
      have h0 : gx[0]? = some (gx[0]'(by omega)) := List.getElem?_eq_getElem _
      generalize (gx[0]'(by omega)) = x0 at h0
      obtain ⟨t0, ht0, hk0⟩ := Paired.getL pgx h0
      have t0P := f4 t0 (List.mem_of_getElem? ht0)
      have hd0 : f.1.headD [] = t0 := by
        cases e : f.1 with
        | nil => exact absurd e f1
        | cons a r => rw [e] at ht0; exact Option.some.inj ht0
      have hga' := st _ _ hga
      refine ⟨fp, _, rfl, SqT.of (st _ _ hfp), rfl, .ref ga, _, rfl, nI f.2, _, rfl, rfl, ?_⟩
      refine ⟨_, rfl, ga, gx, 0, x0, rfl, rfl, SqT.of hga', atI_nat (j := 0) h0, _, _, rfl, ?_⟩
      refine ⟨_, rfl, 1, rfl, ?_⟩
      refine ⟨ga, gx, rfl, SqT.of hga', (fun z => by have z1 := z.1; rw [show (1 : Int) = ((1 : Nat) : Int) from rfl, HT.sIx_nat] at z1; omega), fun _ c1 hc1 => ?_⟩
      rw [cut_drop1]
      have s5 := same_new (o := .tup (gx.drop 1)) hc1
      have k5 : (upd H' c1 (.tup (gx.drop 1))) c1 = some (.tup (gx.drop 1)) := upd_same
      have hz5 := s5 _ _ hz
      have st5 := st.trans s5
      generalize upd H' c1 (.tup (gx.drop 1)) = H5 at *
      have hk5 := TF.tm (.of st5) hk0
      have pgx5 : Paired (TF H5) gx f.1 := TFs.tm (.of st5) pgx
      have stepP : ∀ (l : List (List Nat)) (t : List Nat), IsP n t → (∀ g ∈ l, IsP n g) → IsP n (l.foldl cm t) := fun l => by
        induction l with
        | nil => intro t h _; exact h
        | cons g l ih => intro t h hl; exact ih (cm t g) (h.cm (hl g List.mem_cons_self)) fun y hy => hl y (List.mem_cons_of_mem _ hy)
      refine ⟨c1, rfl, ⟨_, SqT.of k5⟩, for_tup (K := K) (a := c1) (xs := gx.drop 1) (fun j σ H6 => ∃ tv y7, σ = [some (.ref a), some (nI p), some (.ref fl), some (.ref ga), some (nI f.2), some tv, some (nI 1), y7, y8] ∧ Same H5 H6 ∧ TF H6 tv ((f.1.tail.take j).foldl cm t0))
        ⟨x0, y7, rfl, Same.refl _, hk5⟩ (fun j σ H6 _ ⟨_, _, _, sm, _⟩ => SqT.of (sm _ _ k5)) ?_ ?_⟩
      · rintro j y σ H6 hj ⟨tv, z7, rfl, sm, htv⟩
        rw [List.getElem?_drop] at hj
        obtain ⟨g, hg, hkg⟩ := Paired.getL pgx5 hj
        have gP := f4 g (List.mem_of_getElem? hg)
        have tP : IsP n ((f.1.tail.take j).foldl cm t0) := stepP _ _ t0P fun y hy => f4 y (List.mem_of_mem_tail (List.mem_of_mem_take hy))
        have hgt : f.1.tail[j]? = some g := by rw [List.getElem?_tail, Nat.add_comm]; exact hg
        refine ⟨_, rfl, _, rfl, tv, y, _, g, n, rfl, htv, TF.tm (.of sm) hkg, tP, gP, by omega, fun v H7 s7 hv => ⟨v, _, rfl, sm.trans s7, ?_⟩⟩
        rw [List.take_add_one, hgt, List.foldl_append]
        exact hv
      · rintro σ H6 ⟨tv, z7, rfl, sm, htv⟩
        rw [List.take_of_length_le (by rw [List.length_tail, List.length_drop]; omega)] at htv
        have ecm : cmsL f.1 = f.1.tail.foldl cm t0 := by unfold cmsL; rw [hd0]
        rw [← ecm] at htv
        have st6 := st5.trans sm
        have hz6 := sm _ _ hz5
        refine ⟨_, rfl, (f.2 : Int), rfl, by omega, by omega, for_range (lo := 0) (n := (f.2 : Int).toNat) (fun j σ H7 => ∃ y8, σ = [some (.ref a), some (nI p), some (.ref fl), some (.ref ga), some (nI f.2), some tv, some (nI (p ^ j)), z7, y8] ∧ H7 = H6)
          ⟨y8, rfl, rfl⟩ ?_ ?_⟩
        · rintro j σ H7 hj ⟨w8, rfl, rfl⟩
          have hj6 : j ≤ 6 := by omega
          have hb : p ^ j * p ≤ 7 ^ 6 * 7 := Nat.mul_le_mul (Nat.le_trans (Nat.pow_le_pow_left p7 j) (Nat.pow_le_pow_right (by decide) hj6)) p7
          have hpj : p ^ j ≤ 7 ^ 6 := Nat.le_trans (Nat.pow_le_pow_left p7 j) (Nat.pow_le_pow_right (by decide) hj6)
          have e6 : (7 : Nat) ^ 6 = 117649 := by decide
          have e7 : (7 : Nat) ^ 6 * 7 = 823543 := by decide
          exact ⟨_, rfl, _, rfl, p ^ j, p, rfl, rfl, by omega, _, rfl, rfl⟩
        · rintro σ H7 ⟨w8, rfl, rfl⟩
          rw [Int.toNat_natCast]
          refine ⟨_, rfl, .inl ⟨rfl, zs, SqL.of hz6⟩, _, rfl, _, rfl, _, rfl, ga, gx, rfl, .inr (SqT.of (st6 _ _ hga)), Nat.le_of_ble_eq_true rfl, fun tp htp => ?_⟩
          have s8 := same_new (o := .tup [tv, nI (p ^ f.2), V.int (gx.length : Int)]) htp
          have hz8 := s8 _ _ hz6
          have lz := Paired.length pz
          rw [List.length_take] at lz
          refine ⟨fl, zs, .ref tp, rfl, rfl, hz8, by rw [sizeLine_eq]; omega, ?_⟩
          have tL := Tm.lst (o := .lst (zs ++ [V.ref tp])) hz8
          have ktp := tL.1 _ _ (show (upd H7 tp (.tup [tv, nI (p ^ f.2), V.int (gx.length : Int)])) tp = some (.tup [tv, nI (p ^ f.2), V.int (gx.length : Int)]) from upd_same)
          refine ⟨_, _, _, _, _, _, zs ++ [.ref tp], rfl, same_mut (st6.trans s8) hfl, upd_same, ?_⟩
          rw [List.take_add_one, hf]
          refine Paired.app (paired_mono (fun _ _ r => BsR.tm ((Tm.of ((s5.trans sm).trans s8)).trans tL) r) pz) (Paired.one ⟨tp, tv, rfl, ?_, TF.tm ((Tm.of s8).trans tL) htv⟩)
          rw [ktp, lgx]
          rfl
    · rintro σ H' ⟨y3, y4, y5, y6, y7, y8, zs, rfl, st, hz, pz⟩
      rw [List.take_of_length_le (by omega)] at pz
      exact ⟨_, rfl, q fl H' zs st hfl hz pz⟩
end
end Lt

set_option Elab.async false
set_option linter.all false
set_option maxRecDepth 100000
set_option maxHeartbeats 4000000
namespace Lt
open PySem PySem.Spec PyProof.Rows L2
/-- the terms so far: A the last, as far as the series has come -/
structure Sf (b : Bool) (ls : List (List Nat)) (n : Nat) (T0 : List (List Nat)) (j : Nat) (pre : List (List (List Nat))) (A : List (List Nat)) : Prop where
  len : pre.length = j
  nd : A.Nodup
  asc : Asc A
  tm : Tm1 ls (Mb b T0 A) n A
  few : A.length * 2 ^ j ≤ 60
  head : (pre ++ [A])[0]? = some T0
  step : ∀ i X Y, (pre ++ [A])[i]? = some X → (pre ++ [A])[i + 1]? = some Y → Nx (Mb b T0 X) n X Y ∧ Y.length ≠ X.length
theorem mb_sub {b : Bool} {T0 A B : List (List Nat)} (h : ∀ t ∈ B, t ∈ A) : ∀ t ∈ Mb b T0 B, t ∈ Mb b T0 A := by
  cases b
  · exact h
  · exact fun t ht => ht
theorem Sf.next {b : Bool} {ls T0 A B : List (List Nat)} {n j m : Nat} {pre : List (List (List Nat))} (h : Sf b ls n T0 j pre A) (hls : ∀ g ∈ ls, IsP n g) (hms : ∀ g ∈ Mb b T0 A, IsP n g) (hf : Few ls n m) (hx : Nx (Mb b T0 A) n A B) (hne : B.length ≠ A.length) : Sf b ls n T0 (j + 1) (pre ++ [A]) B := by
  obtain ⟨Bt, Bs⟩ := h.tm.next hls hms hx
  have hh := hx.half hls hms hf h.tm hne h.nd
  refine ⟨by rw [List.length_append, h.len]; rfl, hx.nd, hx.asc, ⟨Bt.sub, Bt.still, Bt.pr, fun t ht g hg => Bt.cm t ht g (mb_sub Bs g hg)⟩, ?_, ?_, fun i X Y h1 h2 => ?_⟩
  · have e : B.length * 2 ^ (j + 1) = (2 * B.length) * 2 ^ j := by rw [Nat.pow_succ, Nat.mul_comm 2, Nat.mul_assoc, Nat.mul_comm 2]
    rw [e]
    exact Nat.le_trans (Nat.mul_le_mul_right _ hh) h.few
  · rw [List.getElem?_append_left (by rw [List.length_append]; show 0 < pre.length + 1; omega)]
    exact h.head
  · by_cases hi : i + 1 < (pre ++ [A]).length
    · rw [List.getElem?_append_left hi] at h2
      rw [List.getElem?_append_left (by omega)] at h1
      exact h.step i X Y h1 h2
    · have l2 := (List.getElem?_eq_some_iff.mp h2).1
      rw [List.length_append] at l2
      have e0 : ([B] : List (List (List Nat))).length = 1 := rfl
      have e1 : ([A] : List (List (List Nat))).length = 1 := rfl
      have ei : i + 1 = (pre ++ [A]).length := by omega
      have ei2 : i = pre.length := by
        rw [List.length_append] at ei
        omega
      rw [ei, List.getElem?_concat_length] at h2
      rw [List.getElem?_append_left (by omega), ei2, List.getElem?_concat_length] at h1
      rw [← Option.some.inj h1, ← Option.some.inj h2]
      exact ⟨hx, hne⟩
theorem Sf.done {b : Bool} {ls T0 A : List (List Nat)} {n j : Nat} {pre : List (List (List Nat))} (h : Sf b ls n T0 j pre A) (hx : ∃ B, Nx (Mb b T0 A) n A B ∧ B.length = A.length) : SerM (Mb b T0) n T0 (pre ++ [A]) := by
  refine ⟨h.head, h.step, fun i X h1 h2 => ?_⟩
  have l1 := (List.getElem?_eq_some_iff.mp h1).1
  have l2 := List.getElem?_eq_none_iff.mp h2
  have e0 : ([A] : List (List (List Nat))).length = 1 := rfl
  rw [List.length_append] at l1 l2
  have ei : i = pre.length := by omega
  rw [ei, List.getElem?_concat_length] at h1
  rw [← Option.some.inj h1]
  exact hx
theorem LF.dp {K : PySem.W.Frag} {H : Hp} {a : Addr} {ts : List (List Nat)} (h : LF H a ts) : Dp K H (.ref a) (.list (ts.map dT)) := h.lt.dp
/-- a list apart from another one -/
def LVn (fl : Addr) (H : Hp) (v : V) (ts : List (List Nat)) : Prop := ∃ a, v = .ref a ∧ a ≠ fl ∧ LF H a ts
theorem LVn.same {fl : Addr} {H H' : Hp} {v : V} {ts : List (List Nat)} (e : Same H H') (h : LVn fl H v ts) : LVn fl H' v ts := let ⟨a, e1, hn, h1⟩ := h; ⟨a, e1, hn, h1.same e⟩
theorem LVns.same {fl : Addr} {H H' : Hp} (e : Same H H') {xs : List V} {ts : List (List (List Nat))} (p : Paired (LVn fl H) xs ts) : Paired (LVn fl H') xs ts := paired_mono (fun _ _ r => r.same e) p
theorem LF.upd {fl a : Addr} {H : Hp} {ys : List V} {o : HO} {ts : List (List Nat)} (h : LF H a ts) (hn : a ≠ fl) (hf : H fl = some (.lst ys)) : LF (upd H fl o) a ts := let ⟨xs, h1, h2⟩ := h; ⟨xs, (upd_ne hn).trans h1, TFs.tm (.lst hf) h2⟩
theorem LVns.upd {fl : Addr} {H : Hp} {ys : List V} {o : HO} (hf : H fl = some (.lst ys)) {xs : List V} {ts : List (List (List Nat))} (p : Paired (LVn fl H) xs ts) : Paired (LVn fl (upd H fl o)) xs ts := paired_mono (fun _ _ r => let ⟨a, e1, hn, h1⟩ := r; ⟨a, e1, hn, h1.upd hn hf⟩) p
theorem LVns.out {fl : Addr} {H : Hp} {xs : List V} {ts : List (List (List Nat))} (p : Paired (LVn fl H) xs ts) : Paired (LV H) xs ts := paired_mono (fun _ _ r => let ⟨a, e1, _, h1⟩ := r; ⟨a, e1, h1⟩) p
theorem iList_if {K : PySem.W.Frag} {ta tb : TE} {i : Nat} {σ : L2.St} {H : Hp} {R : It → Hp → Prop} {b : Bool} {ma : Addr} {mx : List V} (hσ : σ[i]? = some (some (.bl b))) (hm : H ma = some (.lst mx)) (hA : b = true → ∀ Q : VK, Q (.ref ma) H → ta σ H Q) (hB : b = false → ∀ Q : VK, Q (.ref ma) H → tb σ H Q)
    (hR : R (Itl K ma) H) : iList K (tIf (tB (tVar i)) ta tb) σ H R := by
  refine ⟨_, hσ, b, rfl, ?_⟩
  cases b
  · exact iteF (hB rfl _ ⟨ma, rfl, ⟨_, SqL.of hm⟩, hR⟩)
  · exact iteT (hA rfl _ ⟨ma, rfl, ⟨_, SqL.of hm⟩, hR⟩)
section
variable {P : Program} {w : World} {K : PySem.W.Frag} {mg : Str → Option Value} {base : Heap}
def spTerms : Sp := fun vs H Q _ => ∃ (v : V) (b : Bool) (ls : List (List Nat)) (n : Nat), vs = [v, .bl b] ∧ TT H v ls ∧ GL ls n ∧ Few ls n 60 ∧
  ∀ p H' xs Ts T0, Same H H' → H p = none → H' p = some (.lst xs) → Paired (LV H') xs Ts → T0.Nodup → Asc T0 → (∀ t, t ∈ T0 ↔ Mk ls n t) → SerM (Mb b T0) n T0 Ts → Q (.ref p) H'
theorem sc_law_terms : FnScope ["lock", "by_all", "places", "whole", "found", "turn", "given", "one", "later", "other"] ["lock", "by_all"] (defScope s_law_terms) := ⟨rfl, rfl, rfl, by decide +kernel, rfl, by decide +kernel, by decide +kernel⟩
theorem has_law_terms (T : Top K mg "_law_terms" s_law_terms ["lock", "by_all"]) (B : Bi mg) (hS : Has P w K mg base CX0 2 "_law_span" ["places", "given"] spSpan) (hW : Has P w K mg base CX0 2 "_law_swap" ["one", "other"] spLawSwap) : Has P w K mg base CX0 3 "_law_terms" ["lock", "by_all"] spTerms := by
  refine T.ok sc_law_terms (fun vs H Q E h => ?_) (fun f cdv A outer s H vs Q E hr h => ?_)
  · obtain ⟨v, b, ls, n, rfl, _⟩ := h
    rfl
  · obtain ⟨v, b, ls, n, rfl, htt, hgl, hf, q⟩ := h
    have hu := hr.units
    obtain ⟨l1, l4, n2, n9, hls⟩ := id hgl
    refine ⟨_, pss_cons (ps_set (i := 2) sc_law_terms.nd rfl (Or.inl rfl) (pe_callB call_len_seq (by rfl) B.len PySem.boot_len (pa_cons (pe_ix ix_tup (pv 0) pe_int (fun _ _ => rfl)) pa_nil)))
      (pss_cons (ps_set (i := 3) sc_law_terms.nd rfl (Or.inl rfl) (pe_has hS hr (by rfl) (pa_cons (pv 2) (pa_cons (pv 0) pa_nil))))
      (pss_cons (ps_set (i := 4) sc_law_terms.nd rfl (Or.inl rfl) (pe_lst (pa_cons (pv 3) pa_nil)))
      (pss_cons (ps_for PassesOwn.never rfl (pi_range1 (by rfl) B.range (pa_cons pe_int pa_nil)) (pg_name (i := 5) sc_law_terms.nd rfl (Or.inl rfl))
        (pss_cons (ps_set (i := 6) sc_law_terms.nd rfl (Or.inl rfl) (pe_lst pa_nil))
        (pss_cons (ps_for PassesOwn.never rfl (pi_list (pe_ix ix_list (pv 4) (pe_un un_neg pe_int) (fun _ _ => rfl))) (pg_name (i := 7) sc_law_terms.nd rfl (Or.inr rfl))
          (pss_one (ps_set (i := 6) sc_law_terms.nd rfl (Or.inl rfl) (pe_op op_cat (pv 6) (pe_lc (own := [("other", 9)]) (g := gName 9) (te := tCall spLawSwap [] E0 (tCons (tVar 7) (tCons (tVar 9) tNil))) (by rfl) sc_law_terms.nd
            (pi_list (pe_ifExp (pt_val (pv 1)) (pv 3) (pe_ix ix_list (pv 4) (pe_un un_neg pe_int) (fun _ _ => rfl))))
            (blkOk_by (own := [("other", 9)]) (N := ["lock", "by_all", "places", "whole", "found", "turn", "given", "one", "later", "other"]) (sc := defScope s_law_terms) (by decide +kernel))
            (fun _ _ _ _ _ => pg_name (i := 9) sc_law_terms.nd rfl (Or.inl rfl)) (fun _ _ _ _ _ => pts_nil) (fun _ _ _ _ _ => pe_has hW hr (by rfl) (pa_cons (pv 7) (pa_cons (pv 9) pa_nil))))))))
        (pss_cons (ps_set (i := 8) sc_law_terms.nd rfl (Or.inl rfl) (pe_has hS hr (by rfl) (pa_cons (pv 2) (pa_cons
            (pe_callB (cr_sortedT (by rfl)) (by rfl) B.sorted PyProof.Rows.boot_sorted (pa_cons (pe_callTy (cr_setFew (by rfl) hu) (by rfl) B.set PyProof.Rows.boot_set (pa_cons (pv 6) pa_nil)) pa_nil)) pa_nil))))
        (pss_cons (ps_if (pt_cmpR (op_eqD hu) (pv 8) (pe_ix ix_list (pv 4) (pe_un un_neg pe_int) (fun _ _ => rfl)) (nomark _)) (pss_one (ps_ret (pv 4))) pss_nil)
        (pss_one (ps_expr (pe_bm PySem.F.plainAttrs_list PySem.F.slot_list_append PySem.F.type_list_append mt_append (pv 4) (pa_cons (pv 8) pa_nil)))))))))
      (pss_one (ps_ret (pv 4)))))), ?_⟩
    obtain ⟨a0, xs0, b0, rfl, ha0, hp0, h00, t00, hbt0, htl0⟩ := htt.head hgl
    refine ⟨_, rfl, a0, xs0, 0, .ref b0, rfl, rfl, SqT.of ha0, h00, b0, _, rfl, .inr hbt0.sq, ?_⟩
    rw [nIs_len, htl0]
    refine ⟨_, rfl, _, rfl, .ref a0, ls, n, rfl, .inl ⟨a0, xs0, rfl, ha0, hp0⟩, hls, by omega, n9, by omega, hf.mono (by omega), fun wa H1 T0 s1 hwa hlf0 hnd hmem hasc => ?_⟩
    have h60 : T0.length ≤ 60 := hf.le hnd fun t h => (hmem t).mp h
    have hT0P : ∀ t ∈ T0, IsP n t := fun t ht => ((hmem t).mp ht).isP hls
    refine ⟨_, rfl, Nat.le_of_ble_eq_true rfl, fun fl hfl => ?_⟩
    have s2 := same_new (o := .lst [V.ref wa]) hfl
    have fl0 : H fl = none := s1.free hfl
    have wafl : wa ≠ fl := fun z => by
      obtain ⟨wx, hwx, _⟩ := hlf0
      rw [z, hfl] at hwx
      cases hwx
    have hw0 := (Tm1.whole hls hf hmem)
    refine ⟨9, rfl, by decide, by decide, for_range (lo := 0) (n := 9) (fun j σ H' => ∃ x5 x6 x7 x8 x9 xs za pre A, σ = [some (.ref a0), some (.bl b), some (nI n), some (.ref wa), some (.ref fl), x5, x6, x7, x8, x9] ∧ Same H1 H' ∧ H' fl = some (.lst (xs ++ [.ref za])) ∧ Paired (LVn fl H') xs pre ∧ za ≠ fl ∧ LF H' za A ∧ Sf b ls n T0 j pre A)
      ⟨none, none, none, none, none, [], wa, [], T0, rfl, s2, upd_same, .nil, wafl, hlf0.same s2, ⟨rfl, hnd, hasc, ?_, by simpa using h60, rfl, fun i X Y h1 h2 => ?_⟩⟩ ?_ ?_⟩
    · cases b
      · exact hw0.self hls hf hmem
      · exact hw0.self hls hf hmem
    · have := (List.getElem?_eq_some_iff.mp h2).1
      simp at this
    · rintro j σ H' hj ⟨x5, x6, x7, x8, x9, xs, za, pre, A, rfl, st, hfl', pxs, zafl, hza, sf⟩
      have hAP : ∀ t ∈ A, IsP n t := fun t ht => (sf.tm.sub t ht).isP hls
      have hA60 : A.length ≤ 60 := hf.le sf.nd sf.tm.sub
      have hMP : ∀ t ∈ Mb b T0 A, IsP n t := by
        cases b
        · exact hAP
        · exact hT0P
      have hM60 : (Mb b T0 A).length ≤ 60 := by
        cases b
        · exact hA60
        · exact h60
      have hwa' : LF H' wa T0 := hlf0.same st
      refine ⟨Nat.zero_le _, fun g0 hg0 => ?_⟩
      have s3 := same_new (o := .lst []) hg0
      obtain ⟨zx, hzx, pzx⟩ := hza
      refine ⟨_, rfl, 1, rfl, fl, xs ++ [.ref za], -1, .ref za, rfl, rfl, SqL.of (s3 _ _ hfl'), atI_last xs (.ref za), za, rfl, ⟨_, SqL.of (s3 _ _ hzx)⟩, for_list (K := K) (a := za) (xs := zx)
        (fun i σ H2 => ∃ ga gxs x7 x8 x9, σ = [some (.ref a0), some (.bl b), some (nI n), some (.ref wa), some (.ref fl), some (nI j), some (.ref ga), x7, x8, x9] ∧ Same H' H2 ∧ H2 ga = some (.lst gxs) ∧ Paired (TK H2) gxs (brk (A.take i) (Mb b T0 A)))
        ⟨g0, [], x7, x8, x9, by rw [Int.zero_add]; rfl, s3, upd_same, .nil⟩ (fun i σ H2 _ ⟨_, _, _, _, _, _, sm, _⟩ => SqL.of (sm _ _ hzx)) ?_ ?_⟩
      · rintro i x σ H2 hi ⟨ga, gxs, y7, y8, y9, rfl, sm, hga, pgx⟩
        obtain ⟨t, ht, htf0⟩ := Paired.getL pzx hi
        have htP := hAP t (List.mem_of_getElem? ht)
        have htf : TF H2 x t := htf0.tm (.of sm)
        have hil : i < 60 := by
          have := (List.getElem?_eq_some_iff.mp ht).1
          omega
        have gl : gxs.length ≤ 3600 := by
          rw [Paired.length pgx, brk_len]
          have e1 : (A.take i).length ≤ 60 := by rw [List.length_take]; omega
          exact Nat.mul_le_mul e1 hM60
        have hfl2 := sm _ _ hfl'
        obtain ⟨ma, mx, hma, pmx, mA, mB⟩ : ∃ ma mx, H2 ma = some (.lst mx) ∧ Paired (TF H2) mx (Mb b T0 A) ∧ (b = true → ma = wa) ∧ (b = false → ma = za) := by
          cases b
          · exact ⟨za, zx, sm _ _ hzx, TFs.tm (.of sm) pzx, ⟨(fun h => nomatch h), fun _ => rfl⟩⟩
          · obtain ⟨wx, hwx, pwx⟩ := hwa'
            exact ⟨wa, wx, sm _ _ hwx, TFs.tm (.of sm) pwx, ⟨fun _ => rfl, (fun h => nomatch h)⟩⟩
        refine ⟨_, rfl, iList_if (b := b) (ma := ma) (mx := mx) rfl hma (fun hb Q hQ => ?_) (fun hb Q hQ => ?_) (fun D hD => ?_)⟩
        · rw [mA hb] at hQ
          exact ⟨_, rfl, hQ⟩
        · rw [mB hb] at hQ
          exact ⟨_, rfl, 1, rfl, fl, xs ++ [.ref za], -1, .ref za, rfl, rfl, SqL.of hfl2, atI_last xs (.ref za), hQ⟩
        refine lc_listM (K := K) TK ((Mb b T0 A).map (cm t)) (fun _ _ _ _ e r => TK.tm e r) (fun H3 s3 => SqL.of (s3 _ _ hma)) (by rw [Paired.length pmx]; omega) (by rw [List.length_map, Paired.length pmx]) hD (fun _ => rfl) (fun k y b2 hy hb H3 s3 Q' q' => ?_) (fun H3 zs s3 hz pz => ?_)
        · obtain ⟨g, hgk, hyg⟩ := Paired.getL pmx hy
          rw [List.getElem?_map, hgk] at hb
          have hb := Option.some.inj hb
          subst hb
          have hgP := hMP g (List.mem_of_getElem? hgk)
          refine ⟨_, rfl, _, rfl, x, y, t, g, n, rfl, htf.tm (.of s3), hyg.tm (.of s3), htP, hgP, by omega, fun v H' s4 tk => q' v H' s4 ?_⟩
          rw [cm_eq htP hgP] at tk
          exact tk
        · have hga3 := s3 _ _ hga
          have zl : zs.length ≤ 60 := by
            rw [Paired.length pz, List.length_map]
            exact hM60
          refine ⟨ga, D, gxs, zs, rfl, rfl, hga3, hz, by rw [sizeLine_eq]; omega, fun np hnp => ?_⟩
          have s4 := same_new (o := .lst (gxs ++ zs)) hnp
          refine ⟨np, _, _, _, _, rfl, sm.trans (s3.trans s4), upd_same, ?_⟩
          rw [brk_next ht]
          exact Paired.app (TKs.tm (.of (s3.trans s4)) pgx) (TKs.tm (.of s4) pz)
      · rintro σ H2 ⟨ga, gxs, y7, y8, y9, rfl, sm, hga, pgx⟩
        rw [Paired.length pzx, List.take_length] at pgx
        have hbP : ∀ t ∈ brk A (Mb b T0 A), IsP n t := fun t ht => by
          obtain ⟨x, h1, y, h2, rfl⟩ := brk_mem.mp ht
          exact (hAP x h1).cm (hMP y h2)
        have hbL : ∀ t ∈ brk A (Mb b T0 A), Mk ls n t := fun t ht => by
          obtain ⟨x, h1, y, h2, rfl⟩ := brk_mem.mp ht
          exact sf.tm.sub _ (sf.tm.cm x h1 y h2)
        refine ⟨_, rfl, srt_set (n := n) (g := 6) rfl hga pgx hbP (by omega) n9 (fun us und hus => hf.le und fun u hu => hbL u (hus u hu)) fun sp H3 us s3 hlt und umem ul => ?_⟩
        have usP : ∀ t ∈ us, IsP n t := fun t ht => hbP t ((umem t).mp ht)
        have hmk : ∀ t, Mk us n t ↔ Mk (brk A (Mb b T0 A)) n t := fun t => ⟨fun h => h.mono hbP fun g hg => .one hbP ((umem g).mp hg), fun h => h.mono usP fun g hg => .one usP ((umem g).mpr hg)⟩
        refine ⟨.ref sp, us, n, rfl, .inr ⟨sp, rfl, hlt⟩, usP, by omega, n9, ul, (hf.mono (by omega)).sub fun t h => h.mono hls fun g hg => hbL g ((umem g).mp hg), fun p H4 B s4 hp hlf bnd bmem basc => ?_⟩
        have nx : Nx (Mb b T0 A) n A B := ⟨bnd, basc, fun t => (bmem t).trans (hmk t)⟩
        have s24 := (sm.trans s3).trans s4
        have hfl4 := s24 _ _ hfl'
        have hza4 : LF H4 za A := LF.same ⟨zx, hzx, pzx⟩ s24
        refine ⟨_, rfl, _, rfl, 1, rfl, fl, xs ++ [.ref za], -1, .ref za, rfl, rfl, SqL.of hfl4, atI_last xs (.ref za), .list (B.map dT), .list (A.map dT), hlf.dp, hza4.dp, sh_LT _, sh_LT _, decide (B = A), congrArg V.bl (eqv_dTT B A), ite2 (fun e => ?_) (fun e => ?_)⟩
        · have e : B = A := of_decide_eq_true e
          refine ⟨_, rfl, ?_⟩
          have sH := (s1.trans st).trans s24
          exact q fl H4 (xs ++ [.ref za]) (pre ++ [A]) T0 sH fl0 hfl4 (Paired.app (LVs.same s24 (LVns.out pxs)) (Paired.one ⟨za, rfl, hza4⟩)) hnd hasc hmem (sf.done ⟨B, nx, by rw [e]⟩)
        · have e : ¬ B = A := fun z => e (decide_eq_true z)
          obtain ⟨_, Bs⟩ := sf.tm.next hls hMP nx
          have hne : B.length ≠ A.length := fun z => e (asc_one n9 (fun t ht => hAP t (Bs t ht)) ((List.perm_ext_iff_of_nodup bnd sf.nd).mpr fun t => ⟨Bs t, fun ht => Classical.byContradiction fun hn => by
            have l := nodup_len (t :: B) A (List.nodup_cons.mpr ⟨hn, bnd⟩) fun x hx => by
              rcases List.mem_cons.mp hx with y | y
              · rw [y]
                exact ht
              · exact Bs x y
            have e1 : (t :: B).length = B.length + 1 := rfl
            omega⟩) basc sf.asc)
          have pl : pre.length ≤ 9 := by rw [sf.len]; omega
          refine ⟨_, rfl, .inl ⟨rfl, _, SqL.of hfl4⟩, _, rfl, fl, _, .ref p, rfl, rfl, hfl4, by rw [sizeLine_eq, List.length_append, Paired.length pxs]; show pre.length + 1 < 16777216; omega, ?_⟩
          have pfl : p ≠ fl := fun z => by
            have y := s3 _ _ (sm _ _ hfl')
            rw [← z, hp] at y
            cases y
          have t7 := Tm.lst (o := .lst ((xs ++ [V.ref za]) ++ [V.ref p])) hfl4
          refine ⟨_, _, _, _, _, xs ++ [.ref za], p, pre ++ [A], B, rfl, same_mut (st.trans s24) hfl, upd_same, LVns.upd hfl4 (Paired.app (LVns.same s24 pxs) (Paired.one ⟨za, rfl, zafl, hza4⟩)), pfl, hlf.upd pfl hfl4, sf.next hls hMP hf nx hne⟩
    · rintro σ H' ⟨x5, x6, x7, x8, x9, xs, za, pre, A, rfl, st, hfl', pxs, zafl, hza, sf⟩
      have := sf.few
      have : 1 ≤ A.length := List.length_pos_of_mem sf.tm.still
      omega
end
end Lt

set_option Elab.async false
set_option linter.all false
set_option maxRecDepth 100000
set_option maxHeartbeats 4000000
/-! k07: the law's terms by weights, the text and its reading -/
namespace Lt
open PySem PySem.Spec PyProof.Rows L2
section
variable {P : Program} {w : World} {K : PySem.W.Frag} {mg : Str → Option Value} {base : Heap}
def spLWeighed : Sp := fun vs H Q _ => ∃ (v : V) (ls : List (List Nat)) (n p : Nat), vs = [v, nI p] ∧ TT H v ls ∧ GL ls n ∧ Few ls n 60 ∧ 2 ≤ p ∧ p ≤ 7 ∧
  (∀ T0 Ts, T0.Nodup → (∀ t, t ∈ T0 ↔ Mk ls n t) → Ser ls n T0 Ts → DiesZ n Ts ∧ wCnt n p Ts 64 1 ≤ 38) ∧
  ∀ l H' xs T0 Ts Us, Same H H' → H l = none → H' l = some (.lst xs) → Paired (LV H') xs Us → T0.Nodup → Asc T0 → (∀ t, t ∈ T0 ↔ Mk ls n t) → Ser ls n T0 Ts → WeT n p Ts Us → Q (.ref l) H'
abbrev lwN : List Str := ["lock", "prime_v", "terms", "found", "weight", "given", "length", "term", "many", "step", "later", "turn"]
theorem sc_law_weighed : FnScope lwN ["lock", "prime_v"] (defScope s_law_weighed) := ⟨rfl, rfl, rfl, by decide +kernel, rfl, by decide +kernel, by decide +kernel⟩
/-- the terms so far -/
def lawTake (n p : Nat) (Ts : LLN) (w i : Nat) : List (List Nat) := (List.range i).flatMap fun i => (Ts.getD i []).map fun t => pw n t (lMany p (i + 1) w)
theorem has_law_weighed (T : Top K mg "_law_weighed" s_law_weighed ["lock", "prime_v"]) (B : Bi mg) (hS : Has P w K mg base CX0 2 "_law_span" ["places", "given"] spSpan) (hT : Has P w K mg base CX0 3 "_law_terms" ["lock", "by_all"] spTerms) (hW : Has P w K mg base CX0 2 "_law_power" ["turn", "many"] spLawPow) : Has P w K mg base CX0 4 "_law_weighed" ["lock", "prime_v"] spLWeighed := by
  refine T.ok sc_law_weighed (fun vs H Q E h => ?_) (fun f cdv A outer s H vs Q E hr h => ?_)
  · obtain ⟨v, ls, n, p, rfl, _⟩ := h
    rfl
  obtain ⟨v, ls, n, p, rfl, htt, hgl, hf, p2, p7, hTs, q⟩ := h
  have hu := hr.units
  have hr2 : Room 2 _ := hr.mono (by decide)
  refine ⟨_, pss_cons (ps_par (i := 2) (j := 3) (by rfl) sc_law_weighed.nd rfl rfl (by decide) rfl rfl (pa_cons (pe_has hT hr (by rfl) (pa_cons (pv 0) (pa_cons pe_bl pa_nil))) (pa_cons (pe_lst pa_nil) pa_nil)) (by rfl))
    (pss_cons (ps_for PassesOwn.never rfl (pi_range2 (by rfl) B.range (pa_cons pe_int (pa_cons pe_int pa_nil))) (pg_name (i := 4) sc_law_weighed.nd rfl (Or.inl rfl))
      (pss_cons (ps_set (i := 5) sc_law_weighed.nd rfl (Or.inl rfl) (pe_lst pa_nil))
      (pss_cons (ps_for PassesOwn.never rfl (pi_enum (by rfl) B.enumerate (pa_cons (pv 2) pa_nil)) (pg_tup (by rfl) (pgs_cons (pg_name (i := 6) sc_law_weighed.nd rfl (Or.inl rfl)) (pgs_cons (pg_name (i := 7) sc_law_weighed.nd rfl (Or.inl rfl)) pgs_nil)))
        (pss_cons (ps_set (i := 8) sc_law_weighed.nd rfl (Or.inr rfl) pe_int)
        (pss_cons (ps_for PassesOwn.never rfl (pi_range1 (by rfl) B.range (pa_cons pe_int pa_nil)) (pg_name (i := 9) sc_law_weighed.nd rfl (Or.inl rfl))
          (pss_one (ps_set (i := 8) sc_law_weighed.nd rfl (Or.inr rfl) (pe_ifExp (pt_cmpR op_lt (pe_op op_mulN (pe_op op_add (pv 6) pe_int) (pv 8)) (pv 4) (nomark _)) (pe_op op_mulN (pv 8) (pv 1)) (pv 8)))))
        (pss_one (ps_set (i := 5) sc_law_weighed.nd rfl (Or.inl rfl) (pe_op op_cat (pv 5) (pe_lc (own := [("turn", 11)]) (g := gName 11) (te := tCall spLawPow [] E0 (tCons (tVar 11) (tCons (tVar 8) tNil))) (by rfl) sc_law_weighed.nd
          (pi_list (pv 7)) (blkOk_by (own := [("turn", 11)]) (N := lwN) (sc := defScope s_law_weighed) (by decide +kernel))
          (fun _ _ _ _ _ => pg_name (i := 11) sc_law_weighed.nd rfl (Or.inl rfl)) (fun _ _ _ _ _ => pts_nil) (fun _ _ _ _ _ => pe_has hW hr2 (by rfl) (pa_cons (pv 11) (pa_cons (pv 8) pa_nil))))))))))
      (pss_cons (ps_set (i := 10) sc_law_weighed.nd rfl (Or.inl rfl) (pe_has hS hr2 (by rfl) (pa_cons (pe_callB call_len_seq (by rfl) B.len PySem.boot_len (pa_cons (pe_ix ix_tup (pv 0) pe_int (fun _ _ => rfl)) pa_nil)) (pa_cons
          (pe_callB (cr_sortedT (by rfl)) (by rfl) B.sorted PyProof.Rows.boot_sorted (pa_cons (pe_callTy (cr_setFew (by rfl) hu) (by rfl) B.set PyProof.Rows.boot_set (pa_cons (pv 5) pa_nil)) pa_nil)) pa_nil))))
      (pss_cons (ps_if (pt_cmpR op_eq (pe_callB call_len_seq (by rfl) B.len PySem.boot_len (pa_cons (pv 10) pa_nil)) pe_int (nomark _)) (pss_one (ps_ret (pv 3))) pss_nil)
      (pss_one (ps_expr (pe_bm PySem.F.plainAttrs_list PySem.F.slot_list_append PySem.F.type_list_append mt_append (pv 3) (pa_cons (pv 10) pa_nil)))))))))
    (pss_one (ps_ret (pv 3)))), ?_⟩
  obtain ⟨l1, l4, n2, n9, hls⟩ := id hgl
  obtain ⟨a0, vx, b0, rfl, ha0, pv0, h00, t00, hbt0, htl0⟩ := htt.head hgl
  refine ⟨_, rfl, .ref a0, true, ls, n, rfl, htt, hgl, hf, fun ta H1 tx Ts T0 s1 hta0 hta ptx hnd hasc hmem hser => ?_⟩
  have hser := lowerSerZ hls hf hmem hser
  obtain ⟨hdies, hcnt⟩ := hTs T0 Ts hnd hmem hser
  have sl := ser_len hls hf hmem hnd hser
  have l60 : T0.length ≤ 60 := hf.le hnd fun t h => (hmem t).mp h
  have tl60 : Ts.length ≤ 60 := by
    have h1 : 1 ≤ Ts.length := by have := (List.getElem?_eq_some_iff.mp hser.head).1; omega
    have e : Ts[Ts.length - 1]? = some (Ts[Ts.length - 1]'(by omega)) := List.getElem?_eq_getElem _
    have := (sl _ _ e).2.2
    have h3 : 1 ≤ (Ts[Ts.length - 1]'(by omega)).length := List.length_pos_of_mem (sl _ _ e).1.still
    omega
  have wL : ∀ w, 1 ≤ w → w ≤ 39 → ∀ t, Mk (lawMk n p Ts w) n t ↔ Mk (wMk n p Ts w) n t := fun w w1 w39 => law_wMk hls hf hmem hnd hser hdies p2 w1 w39
  have inA : ∀ i A, Ts[i]? = some A → ∀ t ∈ A, Mk ls n t := fun i A e t ht => (sl i A e).1.sub t ht
  have lMkL : ∀ w, ∀ t ∈ lawMk n p Ts w, Mk ls n t := fun w t ht => by
    obtain ⟨i, _, h2⟩ := List.mem_flatMap.mp ht
    obtain ⟨y, hy, rfl⟩ := List.mem_map.mp h2
    rw [List.getD_eq_getElem?_getD] at hy
    cases e : Ts[i]? with
    | none => rw [e] at hy; cases hy
    | some A =>
      rw [e] at hy
      exact (inA i A e y hy).pw hls _
  have ltx := Paired.length ptx
  refine ⟨Nat.zero_le _, fun fl hfl => ?_⟩
  have s2 := same_new (o := .lst []) hfl
  have fl0 : H fl = none := s1.free hfl
  have k2 : (upd H1 fl (.lst [])) fl = some (.lst []) := upd_same
  have tafl : ta ≠ fl := ne_of_none hta hfl
  have s12 := s1.trans s2
  have hta2 := s2 _ _ hta
  have ptx2 : Paired (LV (upd H1 fl (.lst []))) tx Ts := LVs.same s2 ptx
  generalize upd H1 fl (.lst []) = H2 at *
  refine ⟨_, _, rfl, ?_⟩
  have mLe : ∀ j w k, k ≤ 6 → mIt p j w k ≤ 117649 := fun j w k hk => by
    obtain ⟨j', h1, h2, _⟩ := mIt_ok (p := p) (i := j) (w := w) k
    rw [h2]
    exact Nat.le_trans (Nat.pow_le_pow_left p7 j') (Nat.pow_le_pow_right (by decide) (by omega : j' ≤ 6))
  have ha1 := s1 _ _ ha0
  refine ⟨1, 40, rfl, ⟨by decide, by decide, by decide, by decide⟩, for_range (lo := 1) (n := ((40 : Int) - 1).toNat) (fun i σ H' => ∃ y4 y5 y6 y7 y8 y9 y10 xs Us, σ = [some (.ref a0), some (nI p), some (.ref ta), some (.ref fl), y4, y5, y6, y7, y8, y9, y10, none] ∧ Same H1 H' ∧ H' fl = some (.lst xs) ∧ Paired (LVn fl H') xs Us ∧ Us.length = i ∧ (∀ j U, Us[j]? = some U → SpU n (wMk n p Ts (j + 1)) U) ∧ i ≤ wCnt n p Ts 64 1)
    ⟨none, none, none, none, none, none, none, [], [], rfl, s2, k2, .nil, rfl, (fun j U h => by cases h), Nat.zero_le _⟩ ?_ ?_⟩
  · rintro i σ H5 hi ⟨y4, y5, y6, y7, y8, y9, y10, xs, Us, rfl, st1, hxs, pxs, lUs, hUs, hic⟩
    have hi : i < 39 := hi
    have wEq := wL (i + 1) (by omega) (by omega)
    have lxs := Paired.length pxs
    have hlt0 : i < wCnt n p Ts 64 1 → 1 < szS n (wMk n p Ts (1 + i)) := fun h => wCnt_lt 64 1 i h
    have hge0 : ¬ i < wCnt n p Ts 64 1 → ¬ 1 < szS n (wMk n p Ts (1 + i)) := fun h => by
      have := wCnt_end (n := n) (p := p) (Ts := Ts) 64 1 (by omega)
      rw [show wCnt n p Ts 64 1 = i by omega] at this
      exact this
    rw [Nat.add_comm 1 i] at hlt0 hge0
    refine ⟨Nat.zero_le _, fun gl0 hgl0 => ?_⟩
    have s3 := same_new (o := .lst []) hgl0
    have hta5 : H5 ta = some (.lst tx) := st1 _ _ hta
    refine ⟨_, rfl, ta, tx, rfl, SqL.of (s3 _ _ hta5), for_enumL (K := K) (a := ta) (xs := tx) (fun j σ H' => ∃ gl y6 y7 y8 y9 gx, σ = [some (.ref a0), some (nI p), some (.ref ta), some (.ref fl), some (.int ((1 : Int) + (i : Nat))), some (.ref gl), y6, y7, y8, y9, y10, none] ∧ Same H5 H' ∧ H' gl = some (.lst gx) ∧ Paired (TK H') gx (lawTake n p Ts (i + 1) j) ∧ gx.length ≤ j * 60)
      ⟨gl0, y6, y7, y8, y9, [], rfl, s3, upd_same, .nil, Nat.zero_le _⟩ (fun j σ H' _ ⟨_, _, _, _, _, _, _, sm, _⟩ => SqL.of (sm _ _ hta5)) ?_ ?_⟩
    · rintro j x σ H6 T' hj ⟨gl, z6, z7, z8, z9, gx, rfl, sm, hgx, pgx, lgx⟩ hT'
      have jl := (List.getElem?_eq_some_iff.mp hj).1
      obtain ⟨A, hA, xa, rfl, ax, hax, pax⟩ := Paired.getL ptx hj
      have lax := Paired.length pax
      have hA60 := (sl j A hA).2.2
      have sT := same_new (o := .tup [nI j, V.ref xa]) hT'
      have kT : (upd H6 T' (.tup [nI j, V.ref xa])) T' = some (.tup [nI j, V.ref xa]) := upd_same
      have st7 := (st1.trans sm).trans sT
      have sm7 := sm.trans sT
      have hgx7 := sT _ _ hgx
      have pgx7 : Paired (TK (upd H6 T' (.tup [nI j, V.ref xa]))) gx (lawTake n p Ts (i + 1) j) := TKs.tm (.of sT) pgx
      generalize upd H6 T' (.tup [nI j, V.ref xa]) = H7 at *
      have hax7 := st7 _ _ hax
      have pax7 : Paired (TF H7) ax A := TFs.tm (.of st7) pax
      refine ⟨T', _, rfl, SqT.of kT, rfl, nI j, _, rfl, .ref xa, _, rfl, rfl, ?_⟩
      refine ⟨6, rfl, by decide, by decide, for_range (lo := 0) (n := 6) (fun k σ H' => ∃ z9, σ = [some (.ref a0), some (nI p), some (.ref ta), some (.ref fl), some (.int ((1 : Int) + (i : Nat))), some (.ref gl), some (nI j), some (.ref xa), some (nI (mIt p (j + 1) (i + 1) k)), z9, y10, none] ∧ H' = H7)
        ⟨z9, rfl, rfl⟩ ?_ ?_⟩
      · rintro k σ H8 hk ⟨u9, rfl, rfl⟩
        have e1 : mIt p (j + 1) (i + 1) (k + 1) = if (j + 1) * mIt p (j + 1) (i + 1) k < i + 1 then mIt p (j + 1) (i + 1) k * p else mIt p (j + 1) (i + 1) k := rfl
        have b1 := mLe (j + 1) (i + 1) k (by omega)
        have b2 : (j + 1) * mIt p (j + 1) (i + 1) k ≤ 60 * 117649 := Nat.mul_le_mul (by omega) b1
        have b3 : mIt p (j + 1) (i + 1) k * p ≤ 117649 * 7 := Nat.mul_le_mul b1 p7
        generalize mIt p (j + 1) (i + 1) k = m at *
        refine ⟨_, rfl, (j : Int), 1, rfl, rfl, _, rfl, j + 1, m, rfl, rfl, by omega, _, rfl, _, _, rfl, rfl, _, rfl, ite2 (fun hb => ?_) (fun hb => ?_)⟩
        · have hb : (j + 1) * m < i + 1 := by
            have := of_decide_eq_true hb
            omega
          rw [if_pos hb] at e1
          exact ⟨_, rfl, _, rfl, m, p, rfl, rfl, by omega, _, by rw [e1]; rfl, rfl⟩
        · have hb : ¬ (j + 1) * m < i + 1 := fun z => hb (decide_eq_true (by omega))
          rw [if_neg hb] at e1
          exact ⟨_, rfl, _, by rw [e1]; rfl, rfl⟩
      · rintro σ H8 ⟨u9, rfl, rfl⟩
        have b1 := mLe (j + 1) (i + 1) 6 (by omega)
        refine ⟨_, rfl, _, rfl, xa, rfl, ⟨_, SqL.of hax7⟩, fun D hD => lc_listM (K := K) TK (A.map fun t => pw n t (lMany p (j + 1) (i + 1))) (fun _ _ _ _ e r => TK.tm e r) (fun H3 s3 => SqL.of (s3 _ _ hax7)) (by omega) (by rw [List.length_map]; omega) hD (fun _ => rfl) (fun k y b2 hy hb H3 s3 Q' q' => ?_) (fun H3 zs s3 hz pz => ?_)⟩
        · obtain ⟨t, ht, tk⟩ := Paired.getL pax7 hy
          rw [List.getElem?_map, ht] at hb
          have hb := Option.some.inj hb
          subst hb
          exact ⟨_, rfl, _, rfl, y, t, n, lMany p (j + 1) (i + 1), rfl, (TF.tm (.of s3) tk).tn, ((sl j A hA).1.sub t (List.mem_of_getElem? ht)).isP hls, n9, Nat.le_trans b1 (by decide), fun r H' s4 tk => q' r H' s4 tk⟩
        · have zl : zs.length ≤ 60 := by
            rw [Paired.length pz, List.length_map]
            omega
          refine ⟨gl, D, gx, zs, rfl, rfl, s3 _ _ hgx7, hz, by rw [sizeLine_eq]; omega, fun np hnp => ?_⟩
          have s4 := same_new (o := .lst (gx ++ zs)) hnp
          refine ⟨np, _, _, _, _, gx ++ zs, rfl, sm7.trans (s3.trans s4), upd_same, ?_, by rw [List.length_append]; omega⟩
          have eT : lawTake n p Ts (i + 1) (j + 1) = lawTake n p Ts (i + 1) j ++ A.map fun t => pw n t (lMany p (j + 1) (i + 1)) := by
            unfold lawTake
            rw [List.range_succ, List.flatMap_append]
            congr 1
            rw [List.flatMap_cons, List.flatMap_nil, List.append_nil, List.getD_eq_getElem?_getD, hA]
            rfl
          rw [eT]
          exact Paired.app (TKs.tm (.of (s3.trans s4)) pgx7) (TKs.tm (.of s4) pz)
    · rintro σ H6 ⟨gl, z6, z7, z8, z9, gx, rfl, sm, hgx, pgx, lgx⟩
      rw [ltx] at pgx lgx
      have pgx : Paired (TK H6) gx (lawMk n p Ts (i + 1)) := pgx
      have st6 := st1.trans sm
      have hxs6 := sm _ _ hxs
      have lP : ∀ t ∈ lawMk n p Ts (i + 1), IsP n t := fun t ht => (lMkL _ t ht).isP hls
      have hbt6 := hbt0.sm (s1.trans st6)
      refine ⟨_, rfl, a0, vx, 0, .ref b0, rfl, rfl, SqT.of (st6 _ _ ha1), h00, b0, _, rfl, .inr hbt6.sq, ?_⟩
      rw [nIs_len, htl0]
      refine srt_set (n := n) (g := 5) rfl hgx pgx lP (by omega) n9 (fun us und hus => hf.le und fun u hu => lMkL _ u (hus u hu)) fun sp H7 us s7 hlt und umem ul => ?_
      have usP : ∀ t ∈ us, IsP n t := fun t ht => lP t ((umem t).mp ht)
      have hmk : ∀ t, Mk us n t ↔ Mk (lawMk n p Ts (i + 1)) n t := fun t => ⟨fun h => h.mono lP fun g hg => .one lP ((umem g).mp hg), fun h => h.mono usP fun g hg => .one usP ((umem g).mpr hg)⟩
      refine ⟨.ref sp, us, n, rfl, .inr ⟨sp, rfl, hlt⟩, usP, by omega, n9, ul, (hf.mono (by omega)).sub fun t h => h.mono hls fun g hg => lMkL _ g ((umem g).mp hg), fun bp H8 U s8 hbp hlf und2 umem2 uasc => ?_⟩
      have spU : SpU n (wMk n p Ts (i + 1)) U := ⟨und2, uasc, fun t => (umem2 t).trans ((hmk t).trans (wEq t))⟩
      have fewW : Few (wMk n p Ts (i + 1)) n 63 := (hf.mono (by decide)).sub fun t ht => ((wEq t).mpr ht).mono hls fun g hg => lMkL _ g hg
      have lenU := spU.len fewW
      have s68 := s7.trans s8
      have hxs8 := s68 _ _ hxs6
      have pxs8 : Paired (LVn fl H8) xs Us := LVns.same (sm.trans s68) pxs
      have st8 := st6.trans s68
      obtain ⟨ux, hux, pux⟩ := id hlf
      have lux := Paired.length pux
      have hst : List.range n ∈ U := (umem2 _).mpr .still
      have hU1 : 1 ≤ U.length := List.length_pos_of_mem hst
      refine ⟨_, rfl, bp, ux, rfl, .inl (SqL.of hux), rfl, _, rfl, ite2 (fun hb => ?_) (fun hb => ?_)⟩
      · have hb : U.length = 1 := by
          have := of_decide_eq_true hb
          injection this with this
          omega
        have hK : i = wCnt n p Ts 64 1 := Classical.byContradiction fun z => by
          have := hlt0 (by omega)
          omega
        exact ⟨_, rfl, q fl H8 xs T0 Ts Us (s1.trans st8) fl0 hxs8 (LVns.out pxs8) hnd hasc hmem hser ⟨by omega, hUs⟩⟩
      · have hb : U.length ≠ 1 := fun z => hb (decide_eq_true (congrArg V.int (by omega)))
        have hK : i < wCnt n p Ts 64 1 := Classical.byContradiction fun z => by
          have := hge0 z
          omega
        refine ⟨_, rfl, .inl ⟨rfl, _, SqL.of hxs8⟩, _, rfl, fl, xs, .ref bp, rfl, rfl, hxs8, by rw [sizeLine_eq]; omega, ?_⟩
        have bpfl : bp ≠ fl := (ne_of_none (s7 _ _ hxs6) hbp).symm
        refine ⟨_, _, _, _, _, _, _, xs ++ [.ref bp], Us ++ [U], rfl, same_mut st8 hfl, upd_same, LVns.upd hxs8 (Paired.app pxs8 (Paired.one ⟨bp, rfl, bpfl, hlf⟩)), by rw [List.length_append, lUs]; rfl, fun j V hj => ?_, hK⟩
        by_cases hji : j < Us.length
        · rw [List.getElem?_append_left hji] at hj
          exact hUs j V hj
        · have hj2 := (List.getElem?_eq_some_iff.mp hj).1
          rw [List.length_append] at hj2
          have e1 : [U].length = 1 := rfl
          have ej : j = Us.length := by omega
          subst ej
          rw [List.getElem?_concat_length] at hj
          rw [← Option.some.inj hj, lUs]
          exact spU
  · rintro σ H5 ⟨y4, y5, y6, y7, y8, y9, y10, xs, Us, rfl, st1, hxs, pxs, lUs, hUs, hic⟩
    have hic : 39 ≤ wCnt n p Ts 64 1 := hic
    omega
end
end Lt

set_option Elab.async false
set_option linter.all false
set_option maxRecDepth 100000
set_option maxHeartbeats 2000000
/-! k07: the chains' powers make each turn once -/
namespace Lt
open PySem PySem.Spec PyProof.Rows L2
/-- each found turn behind each power of a chain's commutator -/
def prS (n p : Nat) (found : List (List Nat)) (f : Fz) : List (List Nat) := found.flatMap fun one => (List.range (p ^ f.2)).map fun k => prod one (pw n (cmsL f.1) k)
def prodsM (n p : Nat) (fs : List Fz) : List (List Nat) := fs.foldl (prS n p) [List.range n]
def chKB (b : Bas) : Bool := decide (b.told ≤ 20 ∧ b.fs.length ≤ 60) && decide (prodsM b.n b.p b.fs).Nodup && decide ((prodsM b.n b.p b.fs).length = (LL b.gs b.n).length) && ((fun T => (prodsM b.n b.p b.fs).all fun t => decide (t ∈ T)) ((LL b.gs b.n).map (·.1))) &&
  decide ((b.fs.map fun f => f.1.length * (b.p ^ f.2 - 1)).sum = b.told) && b.fs.all fun f => decide (f.1 ≠ []) && decide (f.2 ≤ 6)
theorem basL_ch : basL.all chKB = true := by decide +kernel
theorem cms_P {n : Nat} {gs : List (List Nat)} (h : ∀ g ∈ gs, IsP n g) (h1 : gs ≠ []) : IsP n (cmsL gs) := by
  have go : ∀ (l : List (List Nat)) (t : List Nat), IsP n t → (∀ g ∈ l, IsP n g) → IsP n (l.foldl cm t) := fun l => by
    induction l with
    | nil => intro t h _; exact h
    | cons g l ih => intro t h hl; exact ih (cm t g) (h.cm (hl g List.mem_cons_self)) fun y hy => hl y (List.mem_cons_of_mem _ hy)
  cases gs with
  | nil => exact absurd rfl h1
  | cons a r => exact go r a (h a List.mem_cons_self) fun g hg => h g (List.mem_cons_of_mem _ hg)
theorem cms_cj {n : Nat} {s : List Nat} (hs : IsP n s) {gs : List (List Nat)} (h : ∀ g ∈ gs, IsP n g) (h1 : gs ≠ []) : cmsL (gs.map (cj s)) = cj s (cmsL gs) := by
  have go : ∀ (l : List (List Nat)) (t : List Nat), IsP n t → (∀ g ∈ l, IsP n g) → (l.map (cj s)).foldl cm (cj s t) = cj s (l.foldl cm t) := fun l => by
    induction l with
    | nil => intro t _ _; rfl
    | cons g l ih =>
      intro t ht hl
      have hg := hl g List.mem_cons_self
      rw [List.map_cons, List.foldl_cons, List.foldl_cons, ← cj_cm hs ht hg]
      exact ih (cm t g) (ht.cm hg) fun y hy => hl y (List.mem_cons_of_mem _ hy)
  cases gs with
  | nil => exact absurd rfl h1
  | cons a r => exact go r a (h a List.mem_cons_self) fun g hg => h g (List.mem_cons_of_mem _ hg)
theorem prS_P {n p : Nat} {found : List (List Nat)} {f : Fz} (hf : ∀ t ∈ found, IsP n t) (h : ∀ g ∈ f.1, IsP n g) (h1 : f.1 ≠ []) : ∀ t ∈ prS n p found f, IsP n t := fun t ht => by
  obtain ⟨one, ho, h2⟩ := List.mem_flatMap.mp ht
  obtain ⟨k, _, rfl⟩ := List.mem_map.mp h2
  exact (hf one ho).prod (pw_isP (cms_P h h1) k)
theorem prS_cj {n p : Nat} {s : List Nat} (hs : IsP n s) {found : List (List Nat)} {f : Fz} (hf : ∀ t ∈ found, IsP n t) (h : ∀ g ∈ f.1, IsP n g) (h1 : f.1 ≠ []) : prS n p (found.map (cj s)) (rnF s f) = (prS n p found f).map (cj s) := by
  have cP := cms_P h h1
  unfold prS
  rw [List.flatMap_map, List.map_flatMap]
  have e : ∀ one ∈ found, (List.range (p ^ (rnF s f).2)).map (fun k => prod (cj s one) (pw n (cmsL (rnF s f).1) k)) = ((List.range (p ^ f.2)).map fun k => prod one (pw n (cmsL f.1) k)).map (cj s) := fun one ho => by
    rw [List.map_map]
    refine List.map_congr_left fun k _ => ?_
    show prod (cj s one) (pw n (cmsL (f.1.map (cj s))) k) = cj s (prod one (pw n (cmsL f.1) k))
    rw [cms_cj hs h h1, cj_prod hs (hf one ho) (pw_isP cP k), cj_pw hs cP]
  clear hf
  induction found with
  | nil => rfl
  | cons a r ih =>
    rw [List.flatMap_cons, List.flatMap_cons, e a List.mem_cons_self, ih fun x hx => e x (List.mem_cons_of_mem _ hx)]
theorem prods_go {n p : Nat} {s : List Nat} (hs : IsP n s) : ∀ (fs : List Fz) (found : List (List Nat)), FsP n fs → (∀ t ∈ found, IsP n t) → (fs.map (rnF s)).foldl (prS n p) (found.map (cj s)) = (fs.foldl (prS n p) found).map (cj s) ∧ ∀ t ∈ fs.foldl (prS n p) found, IsP n t
  | [], found, _, hf => ⟨rfl, hf⟩
  | f :: r, found, h, hf => by
    obtain ⟨h1, h2⟩ := h f List.mem_cons_self
    rw [List.map_cons, List.foldl_cons, List.foldl_cons, prS_cj hs hf h1 h2]
    exact prods_go hs r _ (fun g hg => h g (List.mem_cons_of_mem _ hg)) (prS_P hf h1 h2)
theorem prods_cj {n p : Nat} {s : List Nat} (hs : IsP n s) {fs : List Fz} (h : FsP n fs) : prodsM n p (fs.map (rnF s)) = (prodsM n p fs).map (cj s) ∧ ∀ t ∈ prodsM n p fs, IsP n t := by
  have z := prods_go (p := p) hs fs [List.range n] h fun t ht => by rw [List.mem_singleton.mp ht]; exact .still n
  rw [List.map_cons, List.map_nil, cj_still hs] at z
  exact z
/-- the lists on the way are no longer than the last -/
theorem prS_len {n p : Nat} {found : List (List Nat)} {f : Fz} : (prS n p found f).length = found.length * p ^ f.2 := by
  unfold prS
  induction found with
  | nil => rw [List.flatMap_nil]; exact (Nat.zero_mul _).symm
  | cons a r ih => rw [List.flatMap_cons, List.length_append, ih, List.length_map, List.length_range, List.length_cons, Nat.succ_mul, Nat.add_comm]
theorem prods_up {n p : Nat} (p1 : 1 ≤ p) : ∀ (fs : List Fz) (found : List (List Nat)), found.length ≤ (fs.foldl (prS n p) found).length
  | [], _ => Nat.le_refl _
  | f :: r, found => by
    rw [List.foldl_cons]
    refine Nat.le_trans ?_ (prods_up p1 r _)
    rw [prS_len]
    have : 1 ≤ p ^ f.2 := Nat.pow_pos (by omega)
    have h2 : found.length * 1 ≤ found.length * p ^ f.2 := Nat.mul_le_mul_left _ this
    omega
theorem prods_take {n p : Nat} (p1 : 1 ≤ p) (fs : List Fz) (i : Nat) : (prodsM n p (fs.take i)).length ≤ (prodsM n p fs).length := by
  have e : prodsM n p fs = (fs.drop i).foldl (prS n p) (prodsM n p (fs.take i)) := by
    unfold prodsM
    rw [← List.foldl_append, List.take_append_drop]
  rw [e]
  exact prods_up p1 _ _
structure BasK (ls : List (List Nat)) (n p told : Nat) : Prop where
  m : BasM ls n p told
  t20 : told ≤ 20
  ch : ∀ T0 Ts, T0.Nodup → (∀ t, t ∈ T0 ↔ Mk ls n t) → Ser ls n T0 Ts → (prodsM n p (chLev n p Ts ls 8).2).Perm T0 ∧ ((chLev n p Ts ls 8).2.map fun f => f.1.length * (p ^ f.2 - 1)).sum = told ∧
    (∀ f ∈ (chLev n p Ts ls 8).2, f.1 ≠ [] ∧ f.1.length ≤ 9 ∧ f.2 ≤ 6 ∧ ∀ g ∈ f.1, g ∈ ls) ∧ (chLev n p Ts ls 8).2.length ≤ 60
theorem bas_lockK {b : Bas} (hb : b ∈ basL) {s : List Nat} {n : Nat} {ls : List (List Nat)} (en : b.n = n) (hs : IsP n s) (e : ls = b.gs.map (cj s)) : BasK ls n b.p b.told := by
  have B := bas_lockM hb en hs e
  subst en
  have hk := chRow_base hb
  obtain ⟨gP, gq, gne⟩ := basL_P b hb
  have hf : Few b.gs b.n 60 := few_of gq
  unfold Bas.ok at hk
  simp only [Bool.and_eq_true, decide_eq_true_iff] at hk
  obtain ⟨⟨⟨h1, h2⟩, h3⟩, h4⟩ := hk
  unfold okW at h3
  simp only [Bool.and_eq_true, decide_eq_true_iff] at h3
  obtain ⟨⟨⟨⟨⟨p2, p63⟩, hw⟩, hgo⟩, hfs⟩, htold⟩ := h3
  have hc : chKB b = true := List.all_eq_true.mp basL_ch b hb
  unfold chKB at hc
  simp only [Bool.and_eq_true, decide_eq_true_iff] at hc
  obtain ⟨⟨⟨⟨⟨c1, c2⟩, c3⟩, c4⟩, c5⟩, c6⟩ := hc
  have hls : Rn s b.n ls b.gs := by rw [e]; exact Rn.of_map gP
  have lsP := hls.p' hs
  have lsF := hls.few hs hf
  have ser : ∀ T0 Ts, T0.Nodup → (∀ t, t ∈ T0 ↔ Mk ls b.n t) → Ser ls b.n T0 Ts → Paired (Rn s b.n) Ts b.Ts ∧ InG b.gs b.n b.Ts := fun T0 Ts nd mem hser => by
    have hp := ser_rn hs gP hf hls mem nd hser
    have hp : Paired (Rn s b.n) Ts b.Ts := by
      rw [← h2]
      exact hp
    refine ⟨hp, fun A hA t ht => ?_⟩
    obtain ⟨i, hi⟩ := List.mem_iff_getElem?.mp hA
    obtain ⟨A', hA', r⟩ := Paired.getR hp hi
    have m := (ser_len lsP lsF mem nd hser i A' hA').1.sub _ ((r.e _).mpr ⟨t, ht, rfl⟩)
    exact (hls.mkI hs (r.p t ht)).mp m
  obtain ⟨g1, g2, g3⟩ := chGo_ok (n := b.n) (p := b.p) (Ts := b.Ts) (gs := b.gs) (fs := b.fs) 8 0 hgo
  rw [Nat.zero_add] at g2 g3
  have lev : ∀ Ts, Paired (Rn s b.n) Ts b.Ts → InG b.gs b.n b.Ts → ∀ i, chLev b.n b.p Ts ls i = ((chLev b.n b.p b.Ts b.gs i).1.map (rnC s), (chLev b.n b.p b.Ts b.gs i).2.map (rnF s)) := fun Ts hp hT i => by
    rw [e]
    exact rn_chLev hs hp gP hf hT i
  have fsIn : ∀ f ∈ b.fs, ∀ g ∈ f.1, g ∈ b.gs := fun f hf' => by
    rw [← g3] at hf'
    exact (in_chLev gP hf 8).2 f hf'
  have fsP : FsP b.n b.fs := fun f hf' => by
    have := List.all_eq_true.mp c6 f hf'
    simp only [Bool.and_eq_true, decide_eq_true_iff] at this
    exact ⟨fun g hg => gP g (fsIn f hf' g hg), this.1⟩
  refine ⟨B, c1.1, fun T0 Ts nd mem hser => ?_⟩
  obtain ⟨hp, hT⟩ := ser T0 Ts nd mem hser
  have hl := lev Ts hp hT 8
  have e2 : (chLev b.n b.p Ts ls 8).2 = b.fs.map (rnF s) := by rw [hl, g3]
  rw [e2]
  obtain ⟨q1, q2⟩ := prods_cj (p := b.p) hs fsP
  have hT0 : ∀ t, t ∈ (LL b.gs b.n).map (·.1) ↔ Mk b.gs b.n t := fun t => LL_mem hf (by decide) t
  refine ⟨?_, ?_, fun f hf' => ?_, by rw [List.length_map]; exact c1.2⟩
  · rw [q1]
    have nd1 : ((prodsM b.n b.p b.fs).map (cj s)).Nodup := by
      refine List.pairwise_map.mpr (List.Pairwise.imp_of_mem (fun {x y} hx hy h => ?_) c2)
      exact fun z => h (cj_inj hs (q2 x hx) (q2 y hy) z)
    refine (List.perm_ext_iff_of_nodup nd1 nd).mpr fun t => ?_
    have full : ∀ u, Mk b.gs b.n u → u ∈ prodsM b.n b.p b.fs := fun u hu => Classical.byContradiction fun hn => by
      have l := nodup_len (u :: prodsM b.n b.p b.fs) ((LL b.gs b.n).map (·.1)) (List.nodup_cons.mpr ⟨hn, c2⟩) fun x hx => by
        rcases List.mem_cons.mp hx with y | y
        · rw [y]
          exact (hT0 u).mpr hu
        · exact of_decide_eq_true (List.all_eq_true.mp c4 x y)
      rw [List.length_cons, List.length_map] at l
      omega
    rw [mem, List.mem_map]
    constructor
    · rintro ⟨u, hu, rfl⟩
      have m := (hT0 u).mp (of_decide_eq_true (List.all_eq_true.mp c4 u hu))
      exact (hls.mkI hs (q2 u hu)).mpr m
    · intro m
      have tP := m.isP lsP
      refine ⟨cj (inv s) t, full _ ?_, cjCj hs tP⟩
      have := (hls.mkI hs (cj_isP hs.inv tP)).mp (by rw [cjCj hs tP]; exact m)
      exact this
  · rw [← c5, List.map_map]
    congr 1
    refine List.map_congr_left fun f _ => ?_
    show (f.1.map (cj s)).length * _ = _
    rw [List.length_map]
    rfl
  · obtain ⟨f0, hf0, rfl⟩ := List.mem_map.mp hf'
    have h5 := List.all_eq_true.mp hfs f0 hf0
    have h6 := List.all_eq_true.mp c6 f0 hf0
    simp only [Bool.and_eq_true, decide_eq_true_iff] at h5 h6
    refine ⟨fun z => h6.1 (List.map_eq_nil_iff.mp z), by show (f0.1.map (cj s)).length ≤ 9; rw [List.length_map]; exact h5.2, h6.2, fun g hg => ?_⟩
    obtain ⟨g0, hg0, rfl⟩ := List.mem_map.mp hg
    rw [e]
    exact List.mem_map.mpr ⟨g0, fsIn f0 hf0 g0 hg0, rfl⟩
/-- what holds of all base locks and those called otherwise holds of each drawn lock of a prime's power -/
theorem bas_any {Pr : List (List Nat) → Nat → Nat → Nat → Prop} (base : ∀ {b : Bas}, b ∈ basL → ∀ {s : List Nat} {n : Nat} {ls : List (List Nat)}, b.n = n → IsP n s → ls = b.gs.map (cj s) → Pr ls n b.p b.told) (hpr : ∀ {ls n p told}, Pr ls n p told → primeOf (LL ls n).length = some p)
    {ls : List (List Nat)} {n p : Nat} {kn : List Str} (lk : LkD kn ls n ∨ (n ≤ 4 ∧ ls.length ≤ 2)) (gl : GL ls n) (hf : Few ls n 60) (hp : primeOf (LL ls n).length = some p) : ∃ told, Pr ls n p told := by
  obtain ⟨l1, l4, n2, n9, hP⟩ := id gl
  have few4' : n ≤ 4 → ls.length ≤ 2 → ∃ told, Pr ls n p told := fun n4 l2 => by
    obtain ⟨r, s, hr, en, hs, e⟩ := ct_all n2 n4 l1 l2 hP
    have rP := reps_P r hr
    rw [en] at rP
    have hls : Rn s n ls r.1 := by rw [e]; exact Rn.of_map rP
    have hback : Rn (inv s) n r.1 ls := by
      have : r.1 = ls.map (cj (inv s)) := by
        rw [e, List.map_map]
        exact (List.map_id _).symm.trans (List.map_congr_left fun x hx => (cjCj2 hs (rP x hx)).symm)
      rw [this]
      exact Rn.of_map hP
    have hsz : (LL r.1 n).length = (LL ls n).length := hback.szS hs.inv (hf.mono (by decide))
    have ho := List.all_eq_true.mp reps_ok r hr
    rw [Bool.or_eq_true] at ho
    rcases ho with z | z
    · have z := of_decide_eq_true z
      rw [en, hsz, hp] at z
      cases z
    · obtain ⟨b, hb, z⟩ := List.any_eq_true.mp z
      simp only [Bool.and_eq_true, decide_eq_true_iff] at z
      have B : Pr ls n b.p b.told := base hb (z.2.trans en) hs (e.trans (by rw [z.1]))
      have := hpr B
      rw [hp] at this
      rw [Option.some.inj this]
      exact ⟨_, B⟩
  rcases lk with ⟨nm, gs, s, _, htab, hs, e, gP⟩ | ⟨n4, l2⟩
  · have ho := List.all_eq_true.mp tab_bas (nm, gs) htab
    have hls : Rn s n ls gs := by rw [e]; exact Rn.of_map gP
    have hn : lenB gs = n := by
      cases hg : gs with
      | nil => rw [e, hg] at l1; cases l1
      | cons a r => exact (gP a (by rw [hg]; exact List.mem_cons_self)).len
    have hback : Rn (inv s) n gs ls := by
      have : gs = ls.map (cj (inv s)) := by
        rw [e, List.map_map]
        exact (List.map_id _).symm.trans (List.map_congr_left fun x hx => (cjCj2 hs (gP x hx)).symm)
      rw [this]
      exact Rn.of_map hP
    have hsz : (LL gs n).length = (LL ls n).length := hback.szS hs.inv (hf.mono (by decide))
    simp only [Bool.or_eq_true, Bool.and_eq_true, decide_eq_true_iff] at ho
    rcases ho with (⟨z1, z2⟩ | z) | z
    · rw [hn] at z2
      exact few4' z2 (by rw [e, List.length_map]; exact z1)
    · rw [hn, hsz, hp] at z
      cases z
    · obtain ⟨b, hb, z⟩ := List.any_eq_true.mp z
      simp only [Bool.and_eq_true, decide_eq_true_iff] at z
      have B : Pr ls n b.p b.told := base hb (z.2.trans hn) hs (e.trans (by rw [z.1]))
      have := hpr B
      rw [hp] at this
      rw [Option.some.inj this]
      exact ⟨_, B⟩
  · exact few4' n4 l2
theorem bas_ofK {ls : List (List Nat)} {n p : Nat} {kn : List Str} (lk : LkD kn ls n ∨ (n ≤ 4 ∧ ls.length ≤ 2)) (gl : GL ls n) (hf : Few ls n 60) (hp : primeOf (LL ls n).length = some p) : ∃ told, BasK ls n p told :=
  bas_any (Pr := BasK) bas_lockK (fun B => B.m.b.b.prime) lk gl hf hp
end Lt

set_option Elab.async false
set_option linter.all false
set_option maxRecDepth 100000
set_option maxHeartbeats 1000000
namespace Lt
open PySem PySem.Spec PyProof.Rows L2
section
variable {P : Program} {w : World} {K : PySem.W.Frag} {mg : Str → Option Value} {base : Heap}
def spLawPermF (K : PySem.W.Frag) : Sp := fun vs H Q _ => ∃ (r sc : Addr) (ns : List Int) (n : Nat), vs = [.ref r, nI n] ∧ RowAt K H r sc ns ∧ n ≤ 1000 ∧ ∀ v H' t, IsP n t → StepR r H H' → RowAt K H' r sc ns → TF H' v t → Q v H'
theorem has_law_permutationF (T : Top K mg "_law_permutation" s_law_permutation ["row", "places"]) (B : Bi mg) (hT : Has P w K mg base CX0 1 "_law_taken" ["row", "many"] (spTaken K)) : Has P w K mg base CX0 2 "_law_permutation" ["row", "places"] (spLawPermF K) := by
  refine T.ok sc_law_permutation (fun vs H Q E h => ?_) (fun f cdv A outer s H vs Q E hr h => ?_)
  · obtain ⟨r, sc, ns, n, rfl, _⟩ := h
    rfl
  · obtain ⟨r, sc, ns, n, rfl, ra, hn, q⟩ := h
    refine ⟨_, pss_cons (ps_par (i := 2) (j := 3) (by rfl) sc_law_permutation.nd rfl rfl (by decide) rfl rfl (pa_cons (pe_listRg (by rfl) (by rfl) B.list (prg_1 (by rfl) B.range (pv 1))) (pa_cons (pe_lst pa_nil) pa_nil)) (by rfl))
      (pss_cons (ps_for PassesOwn.never rfl (pi_range1 (by rfl) B.range (pa_cons (pv 1) pa_nil)) (pg_name (i := 4) sc_law_permutation.nd rfl (Or.inl rfl))
        (pss_one (ps_expr (pe_bm PySem.F.plainAttrs_list PySem.F.slot_list_append PySem.F.type_list_append mt_append (pv 3) (pa_cons
          (pe_bm PySem.F.plainAttrs_list PySem.F.slot_list_pop PySem.F.type_list_pop mt_popAt (pv 2) (pa_cons (pe_has hT hr (by rfl) (pa_cons (pv 0) (pa_cons (pe_callB call_len_seq (by rfl) B.len PySem.boot_len (pa_cons (pv 2) pa_nil)) pa_nil))) pa_nil)) pa_nil)))))
      (pss_one (ps_ret (pe_tupleOfF (by rfl) B.tuple (pv 3))))), ?_⟩
    refine ⟨_, rfl, n, rfl, .of_le (by omega) (by omega) (by omega) (by omega), fun lf hlf => ?_⟩
    have s1 := same_new (o := .lst (rgV 0 n)) hlf
    refine ⟨Nat.zero_le _, fun fd hfd => ⟨_, _, rfl, ?_⟩⟩
    have s2 := s1.trans (same_new (o := .lst []) hfd)
    have hfd0 : H fd = none := s1.free hfd
    have hlfd : lf ≠ fd := fun z => by rw [← z, upd_same] at hfd; cases hfd
    refine ⟨_, rfl, (n : Int), rfl, by omega, by omega, for_range (lo := 0) (n := (n : Int).toNat) (fun i σ H' => ∃ (l f : List Nat) (y : Option V), σ = [some (.ref r), some (nI n), some (.ref lf), some (.ref fd), y] ∧ StepR r H H' ∧ RowAt K H' r sc ns ∧ H' lf = some (.lst (nIs l)) ∧ H' fd = some (.lst (nIs f)) ∧ (f ++ l).Perm (List.range n) ∧ f.length = i)
      ⟨List.range n, [], none, rfl, .of s2, ra.step s2, by rw [upd_ne hlfd, upd_same, rgV_nat], by rw [upd_same]; rfl, List.Perm.refl _, rfl⟩ ?_ ?_⟩
    · rintro i σ H' hi ⟨l, f, y, rfl, st, ra', hl, hf, pm, hfl⟩
      have hlen := pm.length_eq
      rw [List.length_append, List.length_range] at hlen
      have hl1 : 1 ≤ l.length := by omega
      refine ⟨_, rfl, .inl ⟨rfl, _, SqL.of hf⟩, _, rfl, .inl ⟨rfl, _, SqL.of hl⟩, _, rfl, _, rfl, lf, nIs l, rfl, .inl (SqL.of hl), r, sc, ns, l.length, by rw [nIs_len]; rfl, ra', hl1, by omega, fun x H2 hx st2 ra2 => ?_⟩
      have hlr : lf ≠ r := (ra.ne hlf).symm
      have hfr : fd ≠ r := (ra.ne hfd0).symm
      have hl2 := st2 _ _ hlr hl
      have hf2 := st2 _ _ hfr hf
      refine ⟨lf, nIs l, (x : Int), x, nI l[x], rfl, rfl, hl2, by omega, by omega, (ixN_seq (Evl.ixN_nat (by rw [nIs_len]; exact hx))).1, by rw [nIs_get, List.getElem?_eq_getElem hx]; rfl, ?_⟩
      have hf3 : (upd H2 lf (.lst ((nIs l).eraseIdx x))) fd = some (.lst (nIs f)) := by rw [upd_ne hlfd.symm]; exact hf2
      refine ⟨fd, nIs f, nI l[x], rfl, rfl, hf3, by rw [nIs_len, sizeLine_eq]; omega, ?_⟩
      refine ⟨l.eraseIdx x, f ++ [l[x]], _, rfl, ((st.trans st2).mut hlf).mut hfd0, RowAt.mut ra hfd0 (RowAt.mut ra hlf ra2), ?_, ?_, ?_, by rw [List.length_append, hfl]; rfl⟩
      · rw [upd_ne hlfd, upd_same, nIs_erase]
      · rw [upd_same]
        unfold nIs
        rw [List.map_append]
        rfl
      · rw [List.append_assoc]
        refine List.Perm.trans (List.Perm.append_left f ?_) pm
        exact erase_perm l x hx
    · rintro σ H' ⟨l, f, y, rfl, st, ra', hl, hf, pm, hfl⟩
      have hlen := pm.length_eq
      rw [List.length_append, List.length_range] at hlen
      have hl0 : l = [] := by
        cases l with
        | nil => rfl
        | cons a l => rw [List.length_cons] at hlen; omega
      subst hl0
      rw [List.append_nil] at pm
      refine ⟨_, rfl, fd, nIs f, rfl, SqL.of hf, fun p o ho hp => ?_⟩
      have sp := same_new (o := .frz o (.tup (nIs f))) hp
      exact q _ _ f pm (st.trans (.of sp)) (ra'.step sp) ⟨p, o, rfl, upd_same, ho⟩
/-! ### _law_lock -/
end
end Lt

set_option Elab.async false
set_option linter.all false
set_option maxRecDepth 100000
set_option maxHeartbeats 4000000
/-! the drawn lock, its kind told, its turns' objects known -/
namespace Lt
open PySem PySem.Spec PyProof.Rows L2
section
variable {P : Program} {w : World} {K : PySem.W.Frag} {mg : Str → Option Value} {base : Heap}
def spKnownDF (K : PySem.W.Frag) : Sp := fun vs H Q _ => ∃ (r kl sc : Addr) (ns : List Int) (kn : List Str), vs = [.ref r, .ref kl] ∧ RowAt K H r sc ns ∧ H kl = some (.lst (kn.map V.str)) ∧ kl ≠ r ∧ 1 ≤ kn.length ∧ kn.length ≤ 100 ∧ (∀ x ∈ kn, x ∈ names) ∧
  ∀ v H' ls n, LkD kn ls n → ls.length ≤ 3 → GL ls n → Few ls n 60 → StepR r H H' → RowAt K H' r sc ns → TTF H' v ls → Q v H'
theorem has_law_knownDF (T : Top K mg "_law_known" s_law_known ["row", "kinds"]) (B : Bi mg) (hK : Has P w K mg base CX0 2 "_law_pick" ["row", "things"] (spPick K)) (hM : Has P w K mg base CX0 2 "_law_permutation" ["row", "places"] (spLawPerm K)) : Has P w K mg base CX0 3 "_law_known" ["row", "kinds"] (spKnownDF K) := by
  refine T.ok sc_law_known (fun vs H Q E h => ?_) (fun f cdv A outer s H vs Q E hr h => ?_)
  · obtain ⟨r, kl, sc, ns, kn, rfl, _⟩ := h
    rfl
  · obtain ⟨r, kl, sc, ns, kn, rfl, ra, hkl, hne, hk1, hk2, hkn, q⟩ := h
    have hu := hu_of hr
    refine ⟨_, pss_cons (ps_set (i := 2) sc_law_known.nd rfl (Or.inl rfl) (pe_tab (tab := table) (by decide +kernel) table_len table_nd (by decide) (by rfl) (by rfl) (fun z => by cases z) (by decide)))
      (pss_cons (ps_set (i := 3) sc_law_known.nd rfl (Or.inl rfl) (pe_dget hu (pv 2) (pe_has hK hr (by rfl) (pa_cons (pv 0) (pa_cons (pv 1) pa_nil))) (fun _ _ => rfl)))
      (pss_cons (ps_set (i := 4) sc_law_known.nd rfl (Or.inl rfl) (pe_has hM hr (by rfl) (pa_cons (pv 0) (pa_cons (pe_callB call_len_seq (by rfl) B.len PySem.boot_len (pa_cons (pe_ix ix_tup (pv 3) pe_int (fun _ _ => rfl)) pa_nil)) pa_nil))))
      (pss_cons (ps_set (i := 5) sc_law_known.nd rfl (Or.inl rfl) (pe_lst pa_nil))
      (pss_cons (ps_for PassesOwn.never rfl (pi_tup (pv 3)) (pg_name (i := 6) sc_law_known.nd rfl (Or.inl rfl))
        (pss_cons (ps_set (i := 7) sc_law_known.nd rfl (Or.inl rfl) (pe_op op_rep (pe_lst (pa_cons pe_int pa_nil)) (pe_callB call_len_seq (by rfl) B.len PySem.boot_len (pa_cons (pv 6) pa_nil))))
        (pss_cons (ps_for PassesOwn.never rfl (pi_enumT (by rfl) B.enumerate (pa_cons (pv 6) pa_nil)) (pg_tup rfl (pgs_cons (pg_name (i := 8) sc_law_known.nd rfl (Or.inl rfl)) (pgs_cons (pg_name (i := 9) sc_law_known.nd rfl (Or.inl rfl)) pgs_nil)))
          (pss_one (ps_asg (pe_ix ix_tup (pv 4) (pv 9) (fun _ _ => rfl)) (pg_sub (pv 7) (pe_ix ix_tup (pv 4) (pv 8) (fun _ _ => rfl)) set_list))))
        (pss_one (ps_expr (pe_bm PySem.F.plainAttrs_list PySem.F.slot_list_append PySem.F.type_list_append mt_append (pv 5) (pa_cons (pe_tupleOfF (by rfl) B.tuple (pv 7)) pa_nil)))))))
      (pss_one (ps_ret (pe_tupleOf (by rfl) B.tuple (pv 5)))))))), ?_⟩
    refine fun d H1 kvs s1 hd hd1 hDB => ?_
    refine ⟨_, rfl, _, rfl, _, rfl, r, kl, sc, ns, kn.map V.str, rfl, ra.step s1, s1 _ _ hkl, hne, by rw [List.length_map]; exact hk1, by rw [List.length_map]; omega, fun x H2 hx st2 ra2 => ?_⟩
    obtain ⟨nm, hnm, rfl⟩ := List.mem_map.mp hx
    obtain ⟨ts, hts⟩ := names_in nm (hkn nm hnm)
    obtain ⟨n, hf1, hf2, hf3, hf4, hf5, hf6⟩ := fine_of (table_known hts)
    obtain ⟨lv, hlv, htt1⟩ := db_val hDB table_nd hts
    have hdr : d ≠ r := (ra.ne hd).symm
    have hd2 := st2 _ _ hdr hd1
    have htt2 := htt1.tm (st2.tm (ra.step s1))
    refine ⟨d, lv, rfl, by rw [← hlv]; exact DGet.k (k := Sum.inr nm) hd2, ?_⟩
    have gl : GL ts n := ⟨hf1, hf2, hf3, hf4, hf5⟩
    obtain ⟨a, xs, b, rfl, ha, hp, h0, t0, hbt, htl⟩ := htt2.head gl
    refine ⟨_, rfl, _, rfl, a, xs, 0, .ref b, rfl, rfl, SqT.of ha, h0, b, _, rfl, .inr hbt.sq, r, sc, ns, n, by rw [nIs_len, htl]; rfl, ra2, by omega, fun o H3 s hs st3 ra3 ho => ?_⟩
    have ha3 : H3 a = some (.tup xs) := (st3.tm ra2).1 _ _ ha
    have hp3 : Paired (TN H3) xs ts := TNs.tm (st3.tm ra2) hp
    obtain ⟨po, rfl, hpo⟩ := ho
    have st13 : StepR r H H3 := ((StepR.of s1).trans st2).trans st3
    refine ⟨Nat.zero_le _, fun fl hfl => ?_⟩
    have sl := same_new (o := .lst []) hfl
    refine ⟨_, rfl, a, rfl, ⟨_, SqT.of (sl _ _ ha3)⟩, for_tup (K := K) (a := a) (xs := xs) (fun i σ H' => ∃ x6 x7 x8 x9 us, σ = [some (.ref r), some (.ref kl), some (.ref d), some (.ref a), some (.ref po), some (.ref fl), x6, x7, x8, x9] ∧ Same H3 H' ∧ H' fl = some (.lst us) ∧ Paired (TF H') us ((ts.take i).map (cj s)))
      ⟨none, none, none, none, [], rfl, sl, upd_same, .nil⟩ (fun i σ H' _ ⟨_, _, _, _, _, _, s, _⟩ => SqT.of (s _ _ ha3)) ?_ ?_⟩
    · rintro i x σ H' hi ⟨x6, x7, x8, x9, us, rfl, sm, hus, pus⟩
      obtain ⟨t, ht, htn0⟩ := Paired.getL hp3 hi
      have htP := hf5 t (List.mem_of_getElem? ht)
      obtain ⟨pt, rfl, hpt⟩ := htn0.tm (.of sm)
      have hil : i < 4 := Nat.lt_of_lt_of_le (List.getElem?_eq_some_iff.mp ht).1 hf2
      refine ⟨by show 1 ≤ sizeLine; decide, fun l hl => ?_⟩
      have s5 := same_new (o := .lst [V.int 0]) hl
      refine ⟨_, rfl, pt, _, rfl, .inr (hpt.sm s5).sq, l, (t.length : Int), [V.int 0], rfl, by rw [nIs_len], upd_same, by omega, by rw [htP.len]; omega, ?_, fun nm hnm => ?_⟩
      · show 1 * (t.length : Int).toNat ≤ sizeLine
        rw [htP.len, sizeLine_eq]
        omega
      have s6 := s5.trans (same_new (o := .lst (List.replicate (t.length : Int).toNat [V.int 0]).flatten) hnm)
      have hnm0 : H' nm = none := s5.free hnm
      refine ⟨_, rfl, pt, _, rfl, (hpt.sm s6).sq, for_enumT (K := K) (xs := nIs t) (fun k σ2 H2' => ∃ (acc : List Nat) (y z : Option V), σ2 = [some (.ref r), some (.ref kl), some (.ref d), some (.ref a), some (.ref po), some (.ref fl), some (.ref pt), some (.ref nm), y, z] ∧ Same H' H2' ∧ H2' nm = some (.lst (nIs acc)) ∧ acc.length = n ∧ ∀ (i si ti : Nat), i < k → s[i]? = some si → t[i]? = some ti → acc[si]? = s[ti]?)
        ⟨List.replicate n 0, x8, x9, rfl, s6, by rw [upd_same, ← rep_zero, htP.len]; rfl, List.length_replicate .., fun i si ti h => absurd h (Nat.not_lt_zero i)⟩ (fun k σ2 H2' _ ⟨_, _, _, _, s, _⟩ => (hpt.sm s).sq) ?_ ?_⟩
      · rintro k y σ2 H2' T' hk ⟨acc, y8, y9, rfl, sm2, hnm2, hacc, hj⟩ hT'
        rw [nIs_get] at hk
        obtain ⟨m, hm, rfl⟩ := Option.map_eq_some_iff.mp hk
        have hmn : m < n := htP.lt m (List.mem_of_getElem? hm)
        have hkn' : k < n := by have := (List.getElem?_eq_some_iff.mp hm).1; rw [htP.len] at this; exact this
        have sT := same_new (o := .tup [nI k, nI m]) hT'
        have hnT : nm ≠ T' := ne_of_none hnm2 hT'
        have hsk : s[k]? = some (s[k]'(by rw [hs.len]; exact hkn')) := List.getElem?_eq_getElem _
        have hsm : s[m]? = some (s[m]'(by rw [hs.len]; exact hmn)) := List.getElem?_eq_getElem _
        generalize (s[k]'(by rw [hs.len]; exact hkn')) = sk at hsk
        generalize (s[m]'(by rw [hs.len]; exact hmn)) = smv at hsm
        have hskn : sk < n := hs.lt sk (List.mem_of_getElem? hsk)
        have hpo2 : (upd H2' T' (.tup [nI k, nI m])) po = some (.tup (nIs s)) := sT _ _ (sm2 _ _ (sm _ _ hpo))
        refine ⟨T', _, rfl, SqT.of upd_same, rfl, nI k, _, rfl, nI m, _, rfl, rfl, ?_⟩
        refine ⟨_, rfl, _, rfl, po, _, (m : Int), nI smv, rfl, rfl, SqT.of hpo2, atI_nat (by rw [nIs_get, hsm]; rfl), _, rfl, _, rfl, _, rfl, po, _, (k : Int), nI sk, rfl, rfl, SqT.of hpo2, atI_nat (by rw [nIs_get, hsk]; rfl), nm, nIs acc, (sk : Int), sk, rfl, rfl, sT _ _ hnm2, Evl.ixN_nat (by rw [nIs_len, hacc]; exact hskn), ?_⟩
        refine ⟨acc.set sk smv, _, _, rfl, same_mut (sm2.trans sT) hnm0, by rw [upd_same, nIs_set], by rw [List.length_set]; exact hacc, fun i si ti hik hsi hti => ?_⟩
        by_cases e : i = k
        · subst e
          rw [hsk] at hsi
          have hsi := Option.some.inj hsi
          subst hsi
          rw [hm] at hti
          have hti := Option.some.inj hti
          subst hti
          rw [List.getElem?_set_self (by omega), hsm]
        · have hne2 : sk ≠ si := fun z => e (nd_ix hs.nd hsi (z ▸ hsk))
          rw [List.getElem?_set_ne hne2]
          exact hj i si ti (by omega) hsi hti
      · rintro σ2 H2' ⟨acc, y8, y9, rfl, sm2, hnm2, hacc, hj⟩
        have ecj : acc = cj s t := cj_at hs htP hacc fun i si ti hsi hti => hj i si ti (by rw [nIs_len]; exact (List.getElem?_eq_some_iff.mp hti).1) hsi hti
        have hus2 := sm2 _ _ hus
        refine ⟨_, rfl, .inl ⟨rfl, _, SqL.of hus2⟩, _, rfl, nm, nIs acc, rfl, SqL.of hnm2, fun p o hod hp' => ?_⟩
        have s7 := same_new (o := .frz o (.tup (nIs acc))) hp'
        have hus3 := s7 _ _ hus2
        have husl : us.length ≤ 4 := by rw [Paired.length pus, List.length_map, List.length_take]; omega
        refine ⟨fl, us, _, rfl, rfl, hus3, by rw [sizeLine_eq]; omega, ?_⟩
        have t8 := Tm.lst (o := .lst (us ++ [V.ref p])) hus3
        refine ⟨_, _, _, _, us ++ [.ref p], rfl, same_mut ((sm.trans sm2).trans s7) hfl, upd_same, ?_⟩
        rw [List.take_add_one, ht, List.map_append]
        exact Paired.app (TFs.tm ((Tm.of (sm2.trans s7)).trans t8) pus) (Paired.one (TF.tm t8 ⟨p, o, rfl, by rw [upd_same, ecj], hod⟩))
    · rintro σ H' ⟨x6, x7, x8, x9, us, rfl, sm, hus, pus⟩
      rw [Paired.length hp3, List.take_length] at pus
      refine ⟨_, rfl, .inl ⟨fl, us, rfl, SqL.of hus, fun p hp' => ?_⟩⟩
      have s7 := same_new (o := .tup us) hp'
      refine q _ _ (ts.map (cj s)) n ⟨nm, ts, s, hnm, hts, hs, rfl, hf5⟩ (by rw [List.length_map]; exact three_of hts) ⟨by rw [List.length_map]; exact hf1, by rw [List.length_map]; exact hf2, hf3, hf4, fun g hg => ?_⟩ ((Few.cj hf5 hs hf6).mono (by omega)) (st13.trans (.of (sm.trans s7))) (ra3.step (sm.trans s7)) ⟨p, us, rfl, upd_same, TFs.tm (.of s7) pus⟩
      obtain ⟨t, ht, e⟩ := List.mem_map.mp hg
      rw [← e]
      exact cj_isP hs (hf5 t ht)
/-! ### _law_lock -/
def spLockDF (K : PySem.W.Frag) : Sp := fun vs H Q _ => ∃ (r kl sc : Addr) (ns : List Int) (kn : List Str), vs = [.ref r, .ref kl] ∧ RowAt K H r sc ns ∧ H kl = some (.lst (kn.map V.str)) ∧ kl ≠ r ∧ 1 ≤ kn.length ∧ kn.length ≤ 100 ∧ (∀ x ∈ kn, x ∈ names) ∧
  ∀ v H' ls n, (LkD kn ls n ∨ (n ≤ 4 ∧ ls.length ≤ 2)) → ls.length ≤ 3 → GL ls n → Few ls n 60 → StepR r H H' → RowAt K H' r sc ns → TTF H' v ls → Q v H'
theorem has_law_lockDF (T : Top K mg "_law_lock" s_law_lock ["row", "kinds"]) (B : Bi mg) (hT : Has P w K mg base CX0 1 "_law_taken" ["row", "many"] (spTaken K)) (hK : Has P w K mg base CX0 3 "_law_known" ["row", "kinds"] (spKnownDF K)) (hM : Has P w K mg base CX0 2 "_law_permutation" ["row", "places"] (spLawPermF K)) :
    Has P w K mg base CX0 4 "_law_lock" ["row", "kinds"] (spLockDF K) := by
  refine T.ok sc_law_lock (fun vs H Q E h => ?_) (fun f cdv A outer s H vs Q E hr h => ?_)
  · obtain ⟨r, kl, sc, ns, kn, rfl, _⟩ := h
    rfl
  · obtain ⟨r, kl, sc, ns, kn, rfl, ra, hkl, hne, hk1, hk2, hkn, q⟩ := h
    have hr1 : Room 1 _ := hr.mono (by decide)
    have hr2 : Room 2 _ := hr.mono (by decide)
    refine ⟨_, pss_cons (ps_if (pt_cmpR op_gt (pe_has hT hr1 (by rfl) (pa_cons (pv 0) (pa_cons pe_int pa_nil))) pe_int (nomark _))
        (pss_one (ps_ret (pe_has hK hr (by rfl) (pa_cons (pv 0) (pa_cons (pv 1) pa_nil))))) pss_nil)
      (pss_cons (ps_set (i := 2) sc_law_lock.nd rfl (Or.inr rfl) (pe_op op_add pe_int (pe_has hT hr1 (by rfl) (pa_cons (pv 0) (pa_cons pe_int pa_nil)))))
      (pss_one (ps_ret (pe_tupleOf (by rfl) B.tuple (pe_lc (own := [("turn", 3)]) (g := gName 3) (te := tCall (spLawPermF K) [] E0 (tCons (tVar 0) (tCons (tVar 2) tNil))) (by rfl) sc_law_lock.nd
        (pi_range1 (by rfl) B.range (pa_cons (pe_op op_add pe_int (pe_has hT hr1 (by rfl) (pa_cons (pv 0) (pa_cons pe_int pa_nil)))) pa_nil)) (blkOk_by (own := [("turn", 3)]) (N := ["row", "kinds", "places", "turn"]) (sc := defScope s_law_lock) (by decide +kernel))
        (fun _ _ _ _ _ => pg_name (i := 3) sc_law_lock.nd rfl (Or.inl rfl)) (fun _ _ _ _ _ => pts_nil) (fun _ _ _ _ _ => pe_has hM hr2 (by rfl) (pa_cons (pv 0) (pa_cons (pv 2) pa_nil)))))))), ?_⟩
    refine ⟨_, rfl, r, sc, ns, 3, rfl, ra, by omega, by omega, fun x H1 hx st1 ra1 => ?_⟩
    refine ⟨(x : Int), 0, rfl, rfl, _, rfl, ite2 (fun h => ?_) (fun h => ?_)⟩
    · exact ⟨_, rfl, _, rfl, r, kl, sc, ns, kn, rfl, ra1, st1 _ _ hne hkl, hne, hk1, hk2, hkn, fun v H2 ls n lk l3 gl fw st2 ra2 tt => q v H2 ls n (.inl lk) l3 gl fw (st1.trans st2) ra2 tt⟩
    · refine ⟨_, rfl, r, sc, ns, 3, rfl, ra1, by omega, by omega, fun y H2 hy st2 ra2 => ?_⟩
      refine ⟨2, (y : Int), rfl, rfl, ?_⟩
      refine ⟨_, rfl, r, sc, ns, 2, rfl, ra2, by omega, by omega, fun z H3 hz st3 ra3 => ?_⟩
      have st03 := (st1.trans st2).trans st3
      refine ⟨1, (z : Int), rfl, rfl, (1 : Int) + (z : Int), rfl, by omega, by omega, fun D hD => ?_⟩
      have hDr : D ≠ r := (ra3.ne hD).symm
      refine lc_range (lo := 0) (n := ((1 : Int) + (z : Int)).toNat) (fun i H' => StepR r H3 H' ∧ RowAt K H' r sc ns ∧ ∃ us ls, H' D = some (.lst us) ∧ Paired (TF H') us ls ∧ ls.length = i ∧ ∀ g ∈ ls, IsP (2 + y) g)
        ⟨.of (same_new hD), ra3.step (same_new hD), [], [], upd_same, .nil, rfl, fun g h => by cases h⟩ ?_ ?_
      · rintro i H' hi ⟨st4, ra4, us, ls, hus, pus, hll, hP⟩
        refine ⟨rfl, iteT (B := StepR r H3 H' ∧ RowAt K H' r sc ns ∧ ∃ us ls, H' D = some (.lst us) ∧ Paired (TF H') us ls ∧ ls.length = i ∧ ∀ g ∈ ls, IsP (2 + y) g) ⟨_, rfl, _, rfl, r, sc, ns, 2 + y, ?_, ra4, by omega, fun v H5 t ht st5 ra5 hv => ?_⟩⟩
        · show [V.ref r, V.int ((2 : Int) + (y : Int))] = [V.ref r, V.int ((2 + y : Nat) : Int)]
          rw [show ((2 + y : Nat) : Int) = (2 : Int) + (y : Int) by omega]
        · have hus5 := st5 _ _ hDr hus
          have t6 := Tm.lst (o := .lst (us ++ [v])) hus5
          refine ⟨us, hus5, by rw [Paired.length pus, hll, sizeLine_eq]; omega, (st4.trans st5).mut hD, RowAt.mut ra3 hD ra5, us ++ [v], ls ++ [t], upd_same, Paired.app (TFs.tm ((st5.tm ra4).trans t6) pus) (Paired.one (TF.tm t6 hv)), by rw [List.length_append, hll]; rfl, fun g hg => ?_⟩
          rcases List.mem_append.mp hg with z | z
          · exact hP g z
          · rw [List.mem_singleton.mp z]
            exact ht
      · rintro H' ⟨st4, ra4, us, ls, hus, pus, hll, hP⟩
        refine .inl ⟨D, us, rfl, SqL.of hus, fun p hp => ?_⟩
        have s7 := same_new (o := .tup us) hp
        exact q _ _ ls (2 + y) (.inr ⟨by omega, by omega⟩) (by omega) ⟨by omega, by omega, by omega, by omega, hP⟩ (few4 (by omega) (by omega) hP) ((st03.trans st4).trans (.of s7)) (ra4.step s7) ⟨p, us, rfl, upd_same, TFs.tm (.of s7) pus⟩
end
end Lt

set_option Elab.async false
set_option linter.all false
set_option maxRecDepth 100000
set_option maxHeartbeats 1000000
/-! what is known of a tuple's object may be forgotten: then it may be put as a key -/
namespace Lt
open PySem PySem.Spec PyProof.Rows L2
/-- some tuples with a known object, new since H0, are mere tuples -/
def Wk (H0 H H' : Hp) : Prop := ∀ b, H' b = H b ∨ ∃ o xs, H b = some (.frz o (.tup xs)) ∧ H0 b = none ∧ H' b = some (.tup xs)
theorem Wk.none {H0 H H' : Hp} (w : Wk H0 H H') {b : Addr} (h : H b = none) : H' b = none := by
  rcases w b with e | ⟨o, xs, e, _⟩
  · rw [e]; exact h
  · rw [h] at e; cases e
theorem Wk.keep {H0 H H' : Hp} (w : Wk H0 H H') {b : Addr} {u : HO} (h : H b = some u) (n : ∀ o xs, u ≠ .frz o (.tup xs)) : H' b = some u := by
  rcases w b with e | ⟨o, xs, e, _⟩
  · rw [e]; exact h
  · rw [h] at e
    cases e
    exact absurd rfl (n o xs)
theorem ObjOk.wk {P : Program} {w : World} {H0 H H' : Hp} {h : Heap} {a : Addr} (wk : Wk H0 H H') : ∀ {o : HO}, ObjOk P w H h a o → ObjOk P w H' h a o
  | .lst _, x => x
  | .tup _, x => x
  | .dK _, x => x
  | .dT kvs, x => by
    obtain ⟨h1, h2, xs, p, r⟩ := x
    refine ⟨h1, h2, xs, ?_, r⟩
    refine Paired.mapP p fun u v q => ⟨q.1, wk.keep q.2.1 (fun _ _ z => by cases z), q.2.2⟩
  | .set _ _, x => x
  | .ins C dx fs, x => by
    obtain ⟨h1, r⟩ := x
    exact ⟨wk.keep h1 (fun _ _ z => by cases z), r⟩
  | .own _, x => x
  | .xd _, x => x
  | .rng _ _, x => x
  | .frz o u, x => ⟨x.1, ObjOk.wk wk x.2⟩
  | .tbl _, x => x
  | .met _ _, x => x
  | .ext _, x => x
section
variable {X : Cx} {pins : List (Addr × Obj)} {σ : L2.St} {H H' : Hp} {s : Shared}
theorem invWk (I : Inv X pins σ H s) (w : Wk X.H_0 H H') : Inv X pins σ H' s where
  ok := I.ok
  os := I.os
  bare := I.bare
  base := {
    keep := I.base.keep
    slot := I.base.slot
    free := fun b o h1 h2 h3 => w.none (I.base.free b o h1 h2 h3)
    there := I.base.there
    tups := fun b xs h => w.keep (I.base.tups b xs h) (fun _ _ z => by cases z)
    frzs := fun b o u h => by
      have e := I.base.frzs b o u h
      rcases w b with e2 | ⟨o2, xs, _, e3, _⟩
      · rw [e2]; exact e
      · rw [h] at e3; cases e3
    tbls := fun b ps h => by
      obtain ⟨m, e⟩ := I.base.tbls b ps h
      exact ⟨m, w.keep e (fun _ _ z => by cases z)⟩ }
  loc := I.loc
  cell := I.cell
  free := w.none I.free
  freeC := fun x c h => w.none (I.freeC x c h)
  pin := fun p hp => let ⟨h1, h2, h3⟩ := I.pin p hp; ⟨h1, w.none h2, h3⟩
  hok := fun a o h => by
    rcases w a with e | ⟨ob, xs, e, _, e2⟩
    · exact ObjOk.wk w (I.hok a o (e ▸ h))
    · rw [e2] at h
      cases h
      exact ObjOk.wk w (I.hok a _ e).2
  len := I.len
def tWk (H0 : Hp) (t : TS) : TS := fun D σ H => ∃ H', Wk H0 H H' ∧ t D σ H'
theorem pss_wk {st : List Stmt} {t : TS} (h : PSs X st t) : PSs X st (tWk X.H_0 t) :=
  ⟨fun pins s σ H D I ⟨H', w, q⟩ => h.run pins s σ H' D (invWk I w) q⟩
end
/-- all tuples with known objects that are new since H0 -/
noncomputable def wkAll (H0 H : Hp) : Hp := fun b => match H0 b, H b with
  | none, some (.frz _ (.tup xs)) => some (.tup xs)
  | _, o => o
end Lt

set_option Elab.async false
set_option linter.all false
set_option maxRecDepth 100000
set_option maxHeartbeats 2000000
/-! _law_span: its turns are new -/
namespace Lt
open PySem PySem.Spec PyProof.Rows L2
/-- .. and not of G -/
def TFn (G H : Hp) (v : V) (t : List Nat) : Prop := TF H v t ∧ ∀ a, v = .ref a → G a = none
theorem TFn.tn {G H : Hp} {v : V} {t : List Nat} (h : TFn G H v t) : TN H v t := h.1.tn
theorem TFn.tm {G H H' : Hp} {v : V} {t : List Nat} (e : Tm H H') (h : TFn G H v t) : TFn G H' v t := ⟨h.1.tm e, h.2⟩
def LFn (G H : Hp) (a : Addr) (ts : List (List Nat)) : Prop := ∃ xs, H a = some (.lst xs) ∧ Paired (TFn G H) xs ts
theorem TFns.tm {G H H' : Hp} (e : Tm H H') {xs : List V} {ts : List (List Nat)} (p : Paired (TFn G H) xs ts) : Paired (TFn G H') xs ts := paired_mono (fun _ _ r => TFn.tm e r) p
theorem LFn.same {G H H' : Hp} {a : Addr} {ts : List (List Nat)} (h : LFn G H a ts) (e : Same H H') : LFn G H' a ts := let ⟨xs, h1, h2⟩ := h; ⟨xs, e _ _ h1, TFns.tm (.of e) h2⟩
theorem ks_ofn {G H : Hp} : ∀ {xs : List V} {ts : List (List Nat)}, Paired (TFn G H) xs ts → ∃ ks : List (Addr × List Int), xs = ks.map (fun p => V.ref p.1) ∧ ks.map (·.2) = ts.map iN ∧ ∀ p ∈ ks, ∃ t ∈ ts, p.2 = iN t ∧ TFn G H (.ref p.1) t
  | _, _, .nil => ⟨[], rfl, rfl, fun p h => by cases h⟩
  | _, _, .cons (a := x) (b := t) r s => by
    obtain ⟨ks, h1, h2, h3⟩ := ks_ofn s
    obtain ⟨⟨a, o, e, ho, hd⟩, hn⟩ := id r
    subst e
    refine ⟨(a, iN t) :: ks, by rw [h1]; rfl, by rw [List.map_cons, h2]; rfl, fun p hp => ?_⟩
    rcases List.mem_cons.mp hp with z | hp
    · rw [z]
      exact ⟨t, List.mem_cons_self, rfl, ⟨a, o, rfl, ho, hd⟩, hn⟩
    · obtain ⟨t', ht, z⟩ := h3 p hp
      exact ⟨t', List.mem_cons_of_mem _ ht, z⟩
section
variable {P : Program} {w : World} {K : PySem.W.Frag} {mg : Str → Option Value} {base : Heap}
def spProdFn : Sp := fun vs H Q _ => ∃ (a b : V) (x y : List Nat), vs = [a, b] ∧ TN H a x ∧ TN H b y ∧ (∀ i ∈ x, i < y.length) ∧ x.length ≤ 1000 ∧ ∀ v H', Same H H' → TFn H H' v (prod x y) → Q v H'
theorem has_law_behindFn (T : Top K mg "_law_behind" s_law_behind ["one", "other"]) (B : Bi mg) : Has P w K mg base CX0 1 "_law_behind" ["one", "other"] spProdFn := by
  refine T.ok sc_law_behind (fun vs H Q E h => ?_) (fun f cdv A outer s H vs Q E hr h => ?_)
  · obtain ⟨a, b, x, y, rfl, _⟩ := h
    rfl
  · obtain ⟨a, b, x, y, rfl, ha, hb, hxy, hx, q⟩ := h
    refine ⟨_, pss_one (ps_ret (pe_tupleOfF (by rfl) B.tuple (pe_lc (own := [("place", 2)]) (g := gName 2) (te := tOp (rIxT K) (tVar 1) (tVar 2)) (by rfl) sc_law_behind.nd (pi_tup (pv 0)) (blkOk_by (own := [("place", 2)]) (N := ["one", "other", "place"]) (sc := defScope s_law_behind) (by decide +kernel))
      (fun _ _ _ _ _ => pg_name (i := 2) sc_law_behind.nd rfl (Or.inl rfl)) (fun _ _ _ _ _ => pts_nil) (fun _ _ _ _ _ => pe_ix ix_tup (pv 1) (pv 2) (fun _ _ => rfl))))), ?_⟩
    obtain ⟨pa, rfl, ea⟩ := ha
    obtain ⟨pb, rfl, eb⟩ := hb
    refine ⟨_, rfl, pa, rfl, ⟨_, ea.sq⟩, fun D hD => lc_tupM RN (prod x y) (fun _ _ _ _ _ r => r) ea.sq (fun H' sm => (ea.sm sm).sq) (by rw [nIs_len]; omega) (by rw [prod_len, nIs_len]) hD (fun x => rfl) (fun i v n hi hn H' sm Q' q' => ?_) (fun H' zs sm hz pr => ?_)⟩
    · rw [nIs_get] at hi
      obtain ⟨m, hm, rfl⟩ := Option.map_eq_some_iff.mp hi
      have hlt := hxy m (List.mem_of_getElem? hm)
      have e : n = y.getD m 0 := by
        have z : (prod x y)[i]? = some (y.getD m 0) := by
          unfold prod
          rw [List.getElem?_map, hm]
          rfl
        exact Option.some.inj (hn.symm.trans z)
      refine ⟨_, rfl, _, rfl, pb, _, _, nI n, rfl, rfl, (eb.sm sm).sq, atI_nat ?_, q' _ _ (Same.refl _) rfl⟩
      rw [nIs_get, e, List.getD_eq_getElem?_getD, List.getElem?_eq_getElem hlt]
      rfl
    · refine ⟨D, zs, rfl, SqL.of hz, fun p o ho hp => q _ _ (sm.trans (same_new hp)) ⟨⟨p, o, rfl, by rw [upd_same, RN.all pr], ho⟩, fun a e => by cases e; exact sm.free hp⟩⟩
def spSpanN : Sp := fun vs H Q _ => ∃ (gv : V) (gs : List (List Nat)) (n : Nat), vs = [nI n, gv] ∧ GS H gv gs ∧ (∀ g ∈ gs, IsP n g) ∧ 1 ≤ n ∧ n ≤ 9 ∧ gs.length ≤ 60 ∧ Few gs n 63 ∧
  ∀ p H' ts, Same H H' → H p = none → LFn H H' p ts → ts.Nodup → (∀ t, t ∈ ts ↔ Mk gs n t) → Asc ts → Q (.ref p) H'
theorem has_law_spanN (T : Top K mg "_law_span" s_law_span ["places", "given"]) (B : Bi mg) (hP : Has P w K mg base CX0 1 "_law_behind" ["one", "other"] spProdFn) : Has P w K mg base CX0 2 "_law_span" ["places", "given"] spSpanN := by
  refine T.ok sc_law_span (fun vs H Q E h => ?_) (fun f cdv A outer s H vs Q E hr h => ?_)
  · obtain ⟨gv, gs, n, rfl, _⟩ := h
    rfl
  · obtain ⟨gv, gs, n, rfl, hgv, hg, hn1, hn9, hgl, hf, q⟩ := h
    have hu64 := hr.units
    have hu65 : A.units + 3 + 65 < cLine := by have := hr.un; show A.units + 3 + 65 < cLine; have e : (A.deeper (envOfC "_law_span" (defScope s_law_span) s.heap.objs.size f cdv)).units = A.units + 3 := rfl; omega
    refine ⟨_, pss_cons (ps_set (i := 2) sc_law_span.nd rfl (Or.inr rfl) (pe_lst (pa_cons (pe_tupRgF (by rfl) (by rfl) B.tuple (prg_1 (by rfl) B.range (pv 0))) pa_nil)))
      (pss_cons (ps_for PassesOwn.never rfl (pi_range1 (by rfl) B.range (pa_cons pe_int pa_nil)) (pg_name (i := 3) sc_law_span.nd rfl (Or.inl rfl))
        (pss_one (ps_for PassesOwn.never rfl (pi_list (pe_slice sl_list (pv 2) (po_some (pv 3)) (po_some (pe_op op_add (pv 3) pe_int)))) (pg_name (i := 4) sc_law_span.nd rfl (Or.inr rfl))
          (pss_cons (ps_setLc (i := 5) (own := [("other", 6)]) (g := gName 6) (te := tCall spProdFn [] E0 (tCons (tVar 4) (tCons (tVar 6) tNil))) (by rfl) sc_law_span.nd rfl rfl (sw_true rfl rfl rfl (by decide +kernel)) (pi_sq (pv 1)) (blkOk_by (own := [("other", 6)]) (N := ["places", "given", "found", "turn", "one", "later", "other"]) (sc := defScope s_law_span) (by decide +kernel))
            (fun _ _ _ _ _ => pg_name (i := 6) sc_law_span.nd rfl (Or.inl rfl)) (fun _ _ _ _ _ => pts_nil) (fun _ _ _ _ _ => pe_has hP hr (by rfl) (pa_cons (pv 4) (pa_cons (pv 6) pa_nil))))
          (pss_one (ps_set (i := 2) sc_law_span.nd rfl (Or.inr rfl) (pe_op op_cat (pv 2) (pe_lc (own := [("other", 6)]) (g := gName 6) (tt := tTest (tOp (rNotInD K) (tVar 6) (tVar 2))) (te := tVar 6) (by rfl) sc_law_span.nd
            (pi_list (pe_callB (cr_sortedT (by rfl)) (by rfl) B.sorted PyProof.Rows.boot_sorted (pa_cons (pe_callTy (cr_setOfT (by rfl) hu64) (by rfl) B.set PyProof.Rows.boot_set (pa_cons (pv 5) pa_nil)) pa_nil)))
            (blkOk_by (own := [("other", 6)]) (N := ["places", "given", "found", "turn", "one", "later", "other"]) (sc := defScope s_law_span) (by decide +kernel))
            (fun _ _ _ _ _ => pg_name (i := 6) sc_law_span.nd rfl (Or.inl rfl)) (fun _ _ _ _ _ => pts_one (pt_cmpR (op_notInD hu65) (pv 6) (pv 2) (by rfl))) (fun _ _ _ _ _ => pv 6)))))))))
      (pss_one (ps_ret (pe_callB (cr_sortT (d := n) (B := 9) hn1) (by rfl) B.sorted PyProof.Rows.boot_sorted (pa_cons (pv 2) pa_nil))))), ?_⟩
    refine ⟨_, rfl, n, rfl, .of_le (by omega) (by omega) (by omega) (by omega), fun q0 o ho hq0 => ⟨by show 1 ≤ sizeLine; decide, fun fl hfl => ?_⟩⟩
    have s1 := same_new (o := .frz o (.tup (rgV 0 n))) hq0
    have s2 := s1.trans (same_new (o := .lst [.ref q0]) hfl)
    have hq0l : q0 ≠ fl := fun z => by rw [← z, upd_same] at hfl; cases hfl
    refine ⟨300, rfl, by decide, by decide, for_range (lo := 0) (n := 300) (fun j σ H' => ∃ fl F x3 x4 x5 x6, σ = [some (nI n), some gv, some (.ref fl), x3, x4, x5, x6] ∧ Same H H' ∧ LFn H H' fl F ∧ SpI gs n j F)
      ⟨fl, [List.range n], none, none, none, none, rfl, s2, ⟨[.ref q0], upd_same, .cons ⟨⟨q0, o, rfl, by rw [upd_ne hq0l, upd_same, rgV_nat], ho⟩, fun a e => by cases e; exact hq0⟩ .nil⟩, ⟨List.pairwise_singleton _ _, fun t ht => by rw [List.mem_singleton.mp ht]; exact .still, List.mem_singleton.mpr rfl, fun i t hi => absurd hi (Nat.not_lt_zero i)⟩⟩ ?_ ?_⟩
    · rintro j σ H' hj ⟨fl, F, x3, x4, x5, x6, rfl, sm, ⟨xs, hxs, hp⟩, sp⟩
      simp only [Int.zero_add]
      have hFl : F.length ≤ 63 := hf.le sp.nd sp.made
      have hxl : xs.length = F.length := Paired.length hp
      refine ⟨_, rfl, _, rfl, (j : Int), rfl, _, rfl, (j : Int), 1, rfl, rfl, (j : Int) + 1, rfl, fl, xs, rfl, SqL.of hxs, fun sl hsl => ?_⟩
      have ssl := same_new (o := .lst (cutV xs (some (j : Int)) (some ((j : Int) + 1)))) hsl
      refine ⟨sl, rfl, ⟨_, SqL.of upd_same⟩, for_list (K := K) (a := sl) (xs := cutV xs (some (j : Int)) (some ((j : Int) + 1)))
        (fun i σ H2 => ∃ fl' F' x4 x5 x6, σ = [some (nI n), some gv, some (.ref fl'), some (nI j), x4, x5, x6] ∧ Same H' H2 ∧ LFn H H2 fl' F' ∧ (i = 0 → F' = F) ∧ (1 ≤ i → SpI gs n (j + 1) F') ∧ H2 sl = some (.lst (cutV xs (some (j : Int)) (some ((j : Int) + 1)))))
        ⟨fl, F, x4, x5, x6, rfl, ssl, LFn.same ⟨xs, hxs, hp⟩ ssl, fun _ => rfl, fun h => absurd h (by omega), upd_same⟩ (fun i σ H2 _ ⟨_, _, _, _, _, _, _, _, _, _, h⟩ => SqL.of h) ?_ ?_⟩
      · rintro i x σ H2 hi ⟨fl', F', x4, x5, x6, rfl, sm1, ⟨xs2, hxs2, hp2⟩, h0, _, hsl2⟩
        have sm2 := sm.trans sm1
        rw [cut_one] at hi
        have hi0 : i = 0 := by
          have := (List.getElem?_eq_some_iff.mp hi).1
          rw [List.length_take] at this
          omega
        subst hi0
        have eF := h0 rfl
        subst eF
        rw [List.getElem?_take_of_lt (by omega), List.getElem?_drop, Nat.add_zero] at hi
        obtain ⟨one, hone, htf0⟩ := Paired.getL hp hi
        have hi := hone
        have htf : TFn H H2 x one := htf0.tm (.of sm1)
        have honeP := (sp.made one (List.mem_of_getElem? hone)).isP hg
        -- later
        dsimp only [gName, tSeq, tAsg, List.set]
        refine sq_lc (TFn H) (gs.map (prod one)) (fun _ _ _ _ e r => TFn.tm e r) (hgv.same sm2) (by rfl) (by omega) (by rw [List.length_map]) (by intro _; rfl) (fun k y b g hgk hb hyg H3 s3 Q' q' => ?_) (fun D H3 zs hD s3 hz pz => ?_)
        · rw [List.getElem?_map, hgk] at hb
          have hb := Option.some.inj hb
          subst hb
          have hgP := hg g (List.mem_of_getElem? hgk)
          exact ⟨_, rfl, _, rfl, x, y, one, g, rfl, htf.tn.tm (.of s3), hyg.tm (.of s3), fun i hi => by rw [hgP.len]; exact honeP.lt i hi, by rw [honeP.len]; omega, fun v H9 s9 t9 => q' v H9 s9 ⟨t9.1, fun a e => (sm2.trans s3).free (t9.2 a e)⟩⟩
        · -- found = found + [..]
          obtain ⟨ks, ek1, ek2, ek3⟩ := ks_ofn pz
          have hksl : ks.length < 64 := by
            have e := congrArg List.length ek2
            rw [List.length_map, List.length_map, List.length_map] at e
            omega
          have hks : ∀ p ∈ ks, SqT K H3 p.1 (p.2.map V.int) := fun p hp => by
            obtain ⟨t, _, e, ⟨a, o, ea, hao, _⟩, _⟩ := ek3 p hp
            cases ea
            rw [e, show (iN t).map V.int = nIs t from (nIs_int t).symm]
            exact RT.sq (.inr ⟨o, hao⟩)
          have hz' : H3 D = some (.lst (ks.map fun p => V.ref p.1)) := by rw [hz, ek1]
          refine ⟨_, rfl, _, rfl, D, ks, rfl, SqL.of hz', hks, hksl, fun aS L haS hL1 hL2 => ?_⟩
          have s4 := same_new (o := SetTO P w aS L) haS
          have hLP : ∀ p ∈ L, ∃ t ∈ gs.map (prod one), p.2 = iN t ∧ TFn H H3 (.ref p.1) t := fun p hp => ek3 p (hL1 p hp)
          have hmulP : ∀ t ∈ gs.map (prod one), IsP n t := fun t ht => by
            obtain ⟨g, hgm, e⟩ := List.mem_map.mp ht
            rw [← e]
            exact honeP.prod (hg g hgm)
          refine ⟨aS, L, n, 9, rfl, upd_same, fun p hp => ?_, hn1, fun p hp => ?_, fun L' sp' pm nd h64 pw hsp' => ?_⟩
          · rcases hks p (hL1 p hp) with (z | ⟨o, z⟩) | z
            · exact .inl (.inl (s4 _ _ z))
            · exact .inl (.inr ⟨o, s4 _ _ z⟩)
            · exact .inr z
          · obtain ⟨t, ht, e, _⟩ := hLP p hp
            rw [e]
            exact ⟨by rw [iN_len, (hmulP t ht).len], bd_iN (hmulP t ht) hn9⟩
          have s5 := same_new (o := .lst (L'.map fun q : Addr × List Int => V.ref q.1)) hsp'
          have s45 := s4.trans s5
          refine ⟨sp', rfl, ⟨_, SqL.of upd_same⟩, fun D2 hD2 => ?_⟩
          have hL' : ∀ q ∈ L', q.2 = iN (q.2.map Int.toNat) ∧ q.2.map Int.toNat ∈ gs.map (prod one) ∧ TFn H H3 (.ref q.1) (q.2.map Int.toNat) := fun q hq => by
            obtain ⟨t, ht, e, tf⟩ := hLP q (pm.mem_iff.mp hq)
            have et : q.2.map Int.toNat = t := by
              rw [e]
              show (t.map Int.ofNat).map Int.toNat = t
              rw [List.map_map]
              exact (List.map_congr_left (g := id) fun _ _ => rfl).trans (List.map_id t)
            rw [et]
            exact ⟨e, ht, tf⟩
          have hM : (L'.map fun q : Addr × List Int => q.2.map Int.toNat).Nodup := by
            have e : (L'.map fun q : Addr × List Int => q.2.map Int.toNat).map iN = L'.map (·.2) := by
              rw [List.map_map]
              exact List.map_congr_left fun q hq => (hL' q hq).1.symm
            rw [← e] at nd
            exact nodup_of_map nd
          have hM1 : ∀ t ∈ (L'.map fun q : Addr × List Int => q.2.map Int.toNat), ∃ g ∈ gs, t = prod one g := fun t ht => by
            obtain ⟨q, hq, e⟩ := List.mem_map.mp ht
            obtain ⟨g, hgm, e2⟩ := List.mem_map.mp (hL' q hq).2.1
            exact ⟨g, hgm, by rw [← e, ← e2]⟩
          have hM2 : ∀ g ∈ gs, prod one g ∈ (L'.map fun q : Addr × List Int => q.2.map Int.toNat) := fun g hgm => by
            have h1 : iN (prod one g) ∈ ks.map (·.2) := by
              rw [ek2]
              exact List.mem_map.mpr ⟨_, List.mem_map.mpr ⟨g, hgm, rfl⟩, rfl⟩
            obtain ⟨p, hp, e⟩ := List.mem_map.mp h1
            obtain ⟨q, hq, e2⟩ := List.mem_map.mp (hL2 p hp)
            have hq' := pm.mem_iff.mpr hq
            refine List.mem_map.mpr ⟨q, hq', iN_inj ?_⟩
            rw [← (hL' q hq').1]
            exact e2.trans e
          have hlfl : L'.length ≤ 64 := Nat.le_of_lt h64
          have sB := s3.trans s45
          have hp2B := TFns.tm (.of sB) hp2
          have hxs2B := sB _ _ hxs2
          refine lc_list (xs := L'.map fun q : Addr × List Int => V.ref q.1) (fun i H4 => Same (upd (upd H3 aS (SetTO P w aS L)) sp' (.lst (L'.map fun q : Addr × List Int => V.ref q.1))) H4 ∧ ∃ zs, H4 D2 = some (.lst zs) ∧ Paired (TFn H H4) zs (((L'.map fun q : Addr × List Int => q.2.map Int.toNat).take i).filter fun t => decide (t ∉ F')) ∧ zs.length ≤ i)
            ⟨same_new hD2, [], upd_same, .nil, Nat.le_refl 0⟩ (fun i H4 _ h => SqL.of (h.1 _ _ upd_same)) ?_ ?_
          · rintro i x' H4 hi' ⟨sD, zs, hz4, pz4, hzl⟩
            rw [List.getElem?_map] at hi'
            obtain ⟨qe, hqe, rfl⟩ := Option.map_eq_some_iff.mp hi'
            have hqm := List.mem_of_getElem? hqe
            obtain ⟨_, ht1, ht2⟩ := hL' qe hqm
            have hil : i < 64 := by have := (List.getElem?_eq_some_iff.mp hqe).1; omega
            have tf4 : TFn H H4 (.ref qe.1) (qe.2.map Int.toNat) := ht2.tm (.of (s45.trans sD))
            have etake : (L'.map fun q : Addr × List Int => q.2.map Int.toNat).take (i + 1) = (L'.map fun q : Addr × List Int => q.2.map Int.toNat).take i ++ [qe.2.map Int.toNat] := by
              rw [List.take_add_one, List.getElem?_map, hqe]
              rfl
            refine ⟨rfl, _, rfl, _, rfl, dT (qe.2.map Int.toNat), F'.map dT, tf4.tn.dp, .lst (SqL.of (sD _ _ hxs2B)) (TNs.dp (paired_mono (fun _ _ r => TFn.tn r) (TFns.tm (.of sD) hp2B))), sh_T _, sh_LT _, _, rfl, ?_⟩
            rw [any_dT]
            by_cases hin : qe.2.map Int.toNat ∈ F'
            · rw [decide_eq_true hin]
              refine iteF ⟨sD, zs, hz4, ?_, by omega⟩
              rw [etake, List.filter_append, List.filter_cons, if_neg (by simpa using hin), List.filter_nil, List.append_nil]
              exact pz4
            · rw [decide_eq_false hin]
              have t4 := Tm.lst (o := .lst (zs ++ [V.ref qe.1])) hz4
              refine iteT ⟨_, rfl, zs, hz4, by rw [sizeLine_eq]; omega, same_mut sD hD2, zs ++ [V.ref qe.1], upd_same, ?_, by rw [List.length_append]; show zs.length + 1 ≤ i + 1; omega⟩
              rw [etake, List.filter_append, List.filter_cons, if_pos (by simpa using hin), List.filter_nil]
              exact Paired.app (TFns.tm t4 pz4) (Paired.one (tf4.tm t4))
          · rintro H4 ⟨sD, zs, hz4, pz4, hzl⟩
            rw [List.length_map, show L'.length = (L'.map fun q : Addr × List Int => q.2.map Int.toNat).length from (List.length_map ..).symm, List.take_length] at pz4
            rw [List.length_map] at hzl
            have hxs4 := sD _ _ hxs2B
            have hx2l : xs2.length ≤ 63 := by rw [Paired.length hp2]; exact hFl
            refine ⟨fl', D2, xs2, zs, rfl, rfl, hxs4, hz4, by rw [sizeLine_eq]; omega, fun np hnp => ?_⟩
            have s6 := same_new (o := .lst (xs2 ++ zs)) hnp
            have sE := (sB.trans sD).trans s6
            refine ⟨np, _, _, _, _, rfl, sm1.trans sE, ⟨xs2 ++ zs, upd_same, Paired.app (TFns.tm (.of (sD.trans s6)) hp2B) (TFns.tm (.of s6) pz4)⟩, fun h => absurd h (by omega), fun _ => sp.next hi hM hM1 hM2, sE _ _ hsl2⟩
      · rintro σ H2 ⟨fl', F', x4, x5, x6, rfl, sm1, lf2, h0, h1, _⟩
        refine ⟨fl', F', _, _, _, _, rfl, sm.trans sm1, lf2, ?_⟩
        rw [cut_one, List.length_take, List.length_drop] at h0 h1
        by_cases hlt : j < xs.length
        · exact h1 (by omega)
        · rw [h0 (by omega)]
          exact sp.skip (by omega)
    · rintro σ H' ⟨fl, F, x3, x4, x5, x6, rfl, sm, ⟨xs, hxs, hp⟩, sp⟩
      have hFl : F.length ≤ 63 := hf.le sp.nd sp.made
      have hxl : xs.length = F.length := Paired.length hp
      refine ⟨_, rfl, fl, xs, rfl, SqL.of hxs, by omega, fun x hx => ?_, fun ys p pm pw hp2 => ?_⟩
      · obtain ⟨t, ht, ⟨a, o, rfl, hao, _⟩, _⟩ := Paired.memL hp hx
        have htP := (sp.made t ht).isP hg
        exact ⟨iN t, ⟨a, rfl, by rw [show (iN t).map V.int = nIs t from (nIs_int t).symm]; exact RT.sq (.inr ⟨o, hao⟩)⟩, by rw [iN_len, htP.len], bd_iN htP hn9⟩
      · obtain ⟨ts, h1, h2⟩ := Paired.perm pm hp
        have s2 := same_new (o := .lst ys) hp2
        refine q p _ ts (sm.trans s2) (sm.free hp2) ⟨ys, upd_same, TFns.tm (.of s2) h1⟩ (h2.nodup_iff.mpr sp.nd) (fun t => h2.mem_iff.trans (sp.all (by omega) t)) ?_
        refine Paired.pairwise (R := TFn H H') (fun x y s t rx ry hxy => ?_) h1 pw
        obtain ⟨⟨a, o, rfl, hao, _⟩, _⟩ := rx
        obtain ⟨⟨a', o', rfl, hao', _⟩, _⟩ := ry
        exact hxy (iN s) (iN t) ⟨a, rfl, by rw [show (iN s).map V.int = nIs s from (nIs_int s).symm]; exact RT.sq (.inr ⟨o, hao⟩)⟩ ⟨a', rfl, by rw [show (iN t).map V.int = nIs t from (nIs_int t).symm]; exact RT.sq (.inr ⟨o', hao'⟩)⟩
end
end Lt

set_option Elab.async false
set_option linter.all false
set_option maxRecDepth 100000
set_option maxHeartbeats 4000000
/-! turns of a span, made keys (the lemmas that LtKo has too) -/
namespace Lt
open PySem PySem.Spec PyProof.Rows L2
theorem Wk.rt {H0 H H' : Hp} (w : Wk H0 H H') {a : Addr} {xs : List V} (h : RT H a xs) : RT H' a xs := by
  rcases h with h | ⟨o, h⟩
  · exact .inl (w.keep h (fun _ _ z => nomatch z))
  · rcases w a with e | ⟨o2, ys, e, _, e2⟩
    · exact .inr ⟨o, e.trans h⟩
    · rw [h] at e
      cases e
      exact .inl e2
theorem Wk.tn {H0 H H' : Hp} (w : Wk H0 H H') {v : V} {t : List Nat} (h : TN H v t) : TN H' v t := let ⟨a, e, h⟩ := h; ⟨a, e, w.rt h⟩
theorem Wk.tt {H0 H H' : Hp} (w : Wk H0 H H') {v : V} {ts : List (List Nat)} (h : TT H v ts) : TT H' v ts := let ⟨a, xs, e, h, p⟩ := h; ⟨a, xs, e, w.keep h (fun _ _ z => nomatch z), paired_mono (fun _ _ r => w.tn r) p⟩
theorem TFn.wk {H0 G H : Hp} {v : V} {t : List Nat} (h : TFn G H v t) (g : ∀ a, G a = none → H0 a = none) : TK (wkAll H0 H) v t := by
  obtain ⟨⟨a, o, rfl, ho, _⟩, hn⟩ := h
  refine ⟨a, rfl, ?_⟩
  unfold wkAll
  rw [g a (hn a rfl), ho]
end Lt

set_option Elab.async false
set_option linter.all false
set_option maxRecDepth 100000
set_option maxHeartbeats 4000000
/-! k07: the law's text -/
namespace L2
open PySem PySem.Spec PyProof.Rows
/-- sorted(xs) of few tuples of one length -/
def rSortA (K : PySem.W.Frag) : List V → Hp → VK → Prop := fun vs H Q => ∃ (d : Nat) (B : Int), 1 ≤ d ∧ rSortU K d B vs H Q
theorem cr_sortA {X : Cx} : CallR X (.builtin "sorted") (rSortA X.K) := by
  intro pins s σ H vs us Q I r h
  obtain ⟨d, B, hd, h⟩ := h
  exact cr_sortT (d := d) (B := B) hd pins s σ H vs us Q I r h
end L2
namespace Lt
open PySem PySem.Spec PyProof.Rows L2 MaX
abbrev rLenQ7 (K : PySem.W.Frag) : List V → Hp → VK → Prop := fun xs H Q => ∃ p ys, xs = [.ref p] ∧ (SqL K H p ys ∨ SqT K H p ys) ∧ Q (.int ys.length) H
abbrev law7N : List Str := ["script", "row", "kinds", "lock", "whole", "one", "sizes", "told", "e", "prime_v", "bases", "turn", "many", "length", "found", "later", "term", "given", "long", "times"]
theorem sc_law7 : FnScope law7N ["script"] (defScope s_law) := ⟨rfl, rfl, rfl, by decide +kernel, rfl, by decide +kernel, by decide +kernel⟩
abbrev law7X (P : Program) (w : World) (K : PySem.W.Frag) (mg : Str → Option Value) (base : Heap) (f : Addr) (cdv : Value) (A : Around) (outer : List Env) (s : Shared) (H : Hp) (E : XK) : Cx := (cxOf CX0 P w K mg base law7N "law" (defScope s_law) f cdv A outer s H E).nox
/-- all that the law calls -/
structure LawHas7 (P : Program) (w : World) (K : PySem.W.Frag) (mg : Str → Option Value) (base : Heap) (CP : Addr) : Prop where
  bi : Bi mg
  bsum : mg "sum" = none
  taken : Has P w K mg base CX0 1 "_law_taken" ["row", "many"] (spTaken K)
  alike : Has P w K mg base CX0 4 "_law_alike" ["found", "due"] (spAlike 3)
  known : Has P w K mg base CX0 3 "_law_known" ["row", "kinds"] (spKnownDF K)
  lock : Has P w K mg base CX0 4 "_law_lock" ["row", "kinds"] (spLockDF K)
  span : Has P w K mg base CX0 2 "_law_span" ["places", "given"] spSpanN
  behind : Has P w K mg base CX0 1 "_law_behind" ["one", "other"] spProd
  power : Has P w K mg base CX0 2 "_law_power" ["turn", "many"] spLawPow
  dies : Has P w K mg base CX0 2 "_law_dies" ["lock", "whole", "prime_v"] spDies
  lweighed : Has P w K mg base CX0 4 "_law_weighed" ["lock", "prime_v"] spLWeighed
  bases : Has P w K mg base CX0 3 "_law_bases" ["told", "prime_v"] spBases
  told : Has P w K mg base (L2.CX P w) 10 "told_number" ["lock"] (spTold CP)
  weighed : Has P w K mg base (L2.CX P w) 9 "weighed" ["lock"] (spWeighed CP)
  chains : Has P w K mg base (L2.CX P w) 9 "chains" ["lock"] (spChainsR TF CP)
  eP : Err0 K mg "NotPrime" CP
  pp : PySem.W.exmOne K (.ref CP) (.ref CP) = some true
section
variable {P : Program} {w : World} {K : PySem.W.Frag} {mg : Str → Option Value} {base : Heap} {CP : Addr}
def st7 (i : Nat) : Stmt := (defBody s_law).getD i (.Pass ⟨0, 0, 0, 0⟩)
def tyB7 : List Stmt := match st7 5 with
  | .Try b _ _ _ _ => b
  | _ => []
abbrev ty7 : List Stmt := [tyB7.getD 0 (.Pass ⟨0, 0, 0, 0⟩), tyB7.getD 1 (.Pass ⟨0, 0, 0, 0⟩)]
def ifT : Stmt → Expr
  | .If t _ _ _ => t
  | _ => .Constant .none 0 ⟨0, 0, 0, 0⟩
def cmpL : Expr → Expr
  | .Compare l _ _ _ => l
  | _ => .Constant .none 0 ⟨0, 0, 0, 0⟩
def tNe1 (K : PySem.W.Frag) : TE := tOp rNe (tCB (rLenQ7 K) (tCons (tVar 6) tNil)) (tC (.int 1))
def tb7 (K : PySem.W.Frag) (CP : Addr) (W : WX) : TS := tSeq (tAsg (tCallS (spTold CP) (WE W) (tCons (tVar 3) tNil)) (gName 7)) (tIfS (tTest (tNe1 K)) (tRet (tC (.bl false))) tNext)
def cl7 (K : PySem.W.Frag) (CP : Addr) : List Cl := [(.ref CP, fun a cls d => tRet (tNe1 K))]
theorem body7 {f0 : Addr} {cdv : Value} {A : Around} {outer : List Env} {s0 : Shared} {H0 : Hp} {E0' : XK} (hr : Room 10 (law7X P w K mg base f0 cdv A outer s0 H0 E0').A) (L : LawHas7 P w K mg base CP) (W : WX) (pn : List (Addr × Obj)) (xe : Value → Shared → Prop) (tk : Takes ((law7X P w K mg base f0 cdv A outer s0 H0 E0').tr pn xe) W) :
    PSs ((law7X P w K mg base f0 cdv A outer s0 H0 E0').tr pn xe) ty7 (tb7 K CP W) := by
  have B := L.bi
  have hr : Room 10 ((law7X P w K mg base f0 cdv A outer s0 H0 E0').tr pn xe).A := hr
  exact pss_cons (ps_set (i := 7) sc_law7.nd rfl (Or.inl rfl) (pe_hasS L.told hr (by rfl) (fun σ => passAt tk σ) (pa_cons (pv 3) pa_nil)))
    (pss_one (ps_if (pt_cmpR op_ne (pe_callB call_len_seq (by rfl) B.len PySem.boot_len (pa_cons (pv 6) pa_nil)) pe_int (nomark _)) (pss_one (ps_ret pe_bl)) pss_nil))
theorem try7 {f0 : Addr} {cdv : Value} {A : Around} {outer : List Env} {s0 : Shared} {H0 : Hp} {E0' : XK} (hr : Room 10 (law7X P w K mg base f0 cdv A outer s0 H0 E0').A) (L : LawHas7 P w K mg base CP) :
    PS (law7X P w K mg base f0 cdv A outer s0 H0 E0') (st7 5) (fun D σ H => tb7 K CP (wMA K 8 (fun _ _ _ _ => False) D (cl7 K CP)) D σ H) :=
  ps_try_asM (n := "e") (i := 8) (l := cl7 K CP) (tb := fun W => tb7 K CP W) (Wo := fun _ _ _ _ => False) rfl rfl sc_law7.nd rfl rfl L2.takes0 (fun W pn xe tk _ => body7 hr L W pn xe tk)
    (.cons ⟨rfl, by decide, Or.inl L.eP.g⟩ (fun a oe cls d pn hz hf => pss_one (ps_ret (pe_cmpR op_ne (pe_callB call_len_seq (by rfl) L.bi.len PySem.boot_len (pa_cons (pv 6) pa_nil)) pe_int (nomark _)))) .nil)
/-- len(whole) % one == 0 -/
def tSz7 (K : PySem.W.Frag) : L2.TT := tTest (tOp rEq (tOp (fun x y H Q => ∃ n m : Nat, x = .int (n : Int) ∧ y = .int (m : Int) ∧ 1 ≤ m ∧ Q (.int ((n % m : Nat) : Int)) H) (tCB (rLenQ7 K) (tCons (tVar 4) tNil)) (tVar 5)) (tC (.int 0)))
def tNotIn7 (K : PySem.W.Frag) : L2.TT := tTest (tOp (rNotInDT K) (tVar 11) (tVar 3))
def tBad7 (K : PySem.W.Frag) : L2.TT := tTest (tOp (rNeD K) (tLc (iTup K (tVar 17)) (gName 11) (tNotIn7 K) (tVar 11) [11]) (tLst tNil))
theorem lock_text {f0 : Addr} {cdv : Value} {A : Around} {outer : List Env} {s0 : Shared} {H0 : Hp} {E0' : XK} (hr : Room 10 (law7X P w K mg base f0 cdv A outer s0 H0 E0').A) (L : LawHas7 P w K mg base CP) :
    ∃ t, PS (law7X P w K mg base f0 cdv A outer s0 H0 E0') (st7 2) t ∧ ∀ (D : Ends) (H : Hp) (r kl sc : Addr) (ns : List Int) (kn : List Str) (x0 x3 x4 x5 x6 x7 x8 x9 x10 x11 x12 x13 x14 x15 x16 x17 x18 x19 : Option V), RowAt K H r sc ns → H kl = some (.lst (kn.map V.str)) → kl ≠ r → 1 ≤ kn.length → kn.length ≤ 100 → (∀ x ∈ kn, x ∈ names) →
      (∀ v H' ls n, (LkD kn ls n ∨ LkD ["three", "ten", "four"] ls n ∨ (n ≤ 4 ∧ ls.length ≤ 2)) → ls.length ≤ 3 → GL ls n → Few ls n 60 → StepR r H H' → RowAt K H' r sc ns → TTF H' v ls → D.nx [x0, some (.ref r), some (.ref kl), some v, x4, x5, x6, x7, x8, x9, x10, x11, x12, x13, x14, x15, x16, x17, x18, x19] H') →
      t D [x0, some (.ref r), some (.ref kl), x3, x4, x5, x6, x7, x8, x9, x10, x11, x12, x13, x14, x15, x16, x17, x18, x19] H := by
  have hr1 : Room 1 (law7X P w K mg base f0 cdv A outer s0 H0 E0').A := hr.mono (by decide)
  have hr3 : Room 3 (law7X P w K mg base f0 cdv A outer s0 H0 E0').A := hr.mono (by decide)
  have hr4 : Room 4 (law7X P w K mg base f0 cdv A outer s0 H0 E0').A := hr.mono (by decide)
  refine ⟨_, ps_set (i := 3) sc_law7.nd rfl (Or.inr rfl) (pe_ifExp (pt_cmpR op_gt (pe_has L.taken hr1 (by rfl) (pa_cons (pv 1) (pa_cons pe_int pa_nil))) pe_int (nomark _))
      (pe_has L.known hr3 (by rfl) (pa_cons (pv 1) (pa_cons (pv 2) pa_nil)))
      (pe_has L.lock hr4 (by rfl) (pa_cons (pv 1) (pa_cons (pe_lst (pa_cons pe_str (pa_cons pe_str (pa_cons pe_str pa_nil)))) pa_nil)))), ?_⟩
  intro D H r kl sc ns kn x0 x3 x4 x5 x6 x7 x8 x9 x10 x11 x12 x13 x14 x15 x16 x17 x18 x19 ra hkl hne h1 h2 hkn q
  refine ⟨_, rfl, r, sc, ns, 4, rfl, ra, by omega, by omega, fun x H1 hx st1 ra1 => ?_⟩
  refine ⟨(x : Int), 0, rfl, rfl, _, rfl, ite2 (fun h => ?_) (fun h => ?_)⟩
  · exact ⟨_, rfl, _, rfl, r, kl, sc, ns, kn, rfl, ra1, st1 _ _ hne hkl, hne, h1, h2, hkn, fun v H2 ls n lk l3 gl fw st2 ra2 tf => q v H2 ls n (.inl lk) l3 gl fw (st1.trans st2) ra2 tf⟩
  · refine ⟨_, rfl, Nat.le_of_ble_eq_true rfl, fun k2 hk2 => ?_⟩
    have s2 := same_new (o := .lst ((["three", "ten", "four"] : List Str).map V.str)) hk2
    exact ⟨r, k2, sc, ns, ["three", "ten", "four"], rfl, ra1.step s2, upd_same, (ra1.ne hk2).symm, by decide, by decide, by decide +kernel, fun v H2 ls n lk l3 gl fw st2 ra2 tf => q v H2 ls n (.inr lk) l3 gl fw ((st1.trans (.of s2)).trans st2) ra2 tf⟩
end
end Lt

set_option Elab.async false
set_option linter.all false
set_option maxRecDepth 100000
set_option maxHeartbeats 4000000
/-! k07: the law, its second half -/
namespace Lt
open PySem PySem.Spec PyProof.Rows L2 MaX
/-- what is known behind the first statements -/
structure S7 (H : Hp) (v : V) (ls : List (List Nat)) (n p told : Nat) (wa : Addr) (T : List (List Nat)) : Prop where
  good : Good H v ls n
  tf : TTF H v ls
  f60 : Few ls n 60
  pr : primeOf (LL ls n).length = some p
  pin : p ∈ primes
  b : BasK ls n p told
  wh : ∃ wx, H wa = some (.lst wx) ∧ Paired (TK H) wx T
  nd : T.Nodup
  asc : Asc T
  mem : ∀ t, t ∈ T ↔ Mk ls n t
theorem S7.same {H H' : Hp} {v : V} {ls T : List (List Nat)} {n p told : Nat} {wa : Addr} (F : S7 H v ls n p told wa T) (s : Same H H') : S7 H' v ls n p told wa T :=
  { F with good := F.good.same s, tf := F.tf.tm (.of s), wh := let ⟨wx, h1, h2⟩ := F.wh; ⟨wx, s _ _ h1, paired_mono (fun _ _ r => TK.tm (.of s) r) h2⟩ }
theorem TTKs.rp7 {H : Hp} : ∀ {xs : List V} {Us : LLN}, Paired (TTK H) xs Us → RpAll H xs (Us.map fun U => .tuple (U.map dT))
  | _, _, .nil => .nil
  | _, _, .cons r t => .cons (TTK.tt r).rp (TTKs.rp7 t)
theorem TTFs.rp7 {H : Hp} : ∀ {xs : List V} {Us : LLN}, Paired (TTF H) xs Us → RpAll H xs (Us.map fun U => .tuple (U.map dT))
  | _, _, .nil => .nil
  | _, _, .cons r t => .cons (TTF.tt r).rp (TTFs.rp7 t)
theorem pl7 {n : Nat} {Us : LLN} (h : Us.length ≤ 1000) (hU : ∀ U ∈ Us, U.length ≤ 1000 ∧ ∀ t ∈ U, t.length ≤ 1000) : Pl 3 (.tuple (Us.map fun U => .tuple (U.map dT))) := by
  refine ⟨by rw [List.length_map]; exact h, fun e he => ?_⟩
  obtain ⟨U, hUm, rfl⟩ := List.mem_map.mp he
  obtain ⟨u1, u2⟩ := hU U hUm
  refine ⟨by rw [List.length_map]; exact u1, fun e he => ?_⟩
  obtain ⟨t, ht, rfl⟩ := List.mem_map.mp he
  refine ⟨by rw [List.length_map]; exact u2 t ht, fun e he => ?_⟩
  obtain ⟨x, _, rfl⟩ := List.mem_map.mp he
  trivial
theorem we_uni {ls T0 T1 : List (List Nat)} {n p : Nat} {Ts Us Ts' Us' : LLN} (hls : ∀ g ∈ ls, IsP n g) (hf : Few ls n 60) (n9 : n ≤ 9) (a1 : T0.Nodup) (a2 : Asc T0) (a3 : ∀ t, t ∈ T0 ↔ Mk ls n t) (a4 : Ser ls n T0 Ts) (a5 : WeT n p Ts Us)
    (b1 : T1.Nodup) (b2 : Asc T1) (b3 : ∀ t, t ∈ T1 ↔ Mk ls n t) (b4 : Ser ls n T1 Ts') (b5 : WeT n p Ts' Us') : Us = Us' := by
  have e0 : T0 = T1 := asc_uni n9 (fun t ht => ((a3 t).mp ht).isP hls) a1 b1 a2 b2 fun t => (a3 t).trans (b3 t).symm
  subst e0
  have e1 : Ts = Ts' := serUni hls hf n9 a3 a1 a4 b4
  subst e1
  have sl := ser_len hls hf a3 a1 a4
  have inT : InG ls n Ts := fun A hA t ht => by
    obtain ⟨i, hi⟩ := List.mem_iff_getElem?.mp hA
    exact (sl i A hi).1.sub t ht
  have wP : ∀ k, ∀ x ∈ wMk n p Ts k, IsP n x := fun k x hx => (in_wMk hls inT k x hx).isP hls
  apply List.ext_getElem?
  intro i
  cases e : Us[i]? with
  | none =>
    have h1 := List.getElem?_eq_none_iff.mp e
    exact (List.getElem?_eq_none (by rw [b5.len, ← a5.len]; exact h1)).symm
  | some U =>
    have h1 := (List.getElem?_eq_some_iff.mp e).1
    have e2 : Us'[i]? = some (Us'[i]'(by rw [b5.len, ← a5.len]; exact h1)) := List.getElem?_eq_getElem _
    rw [e2]
    have u := a5.u i U e
    have u' := b5.u i _ e2
    congr 1
    exact asc_uni n9 (fun t ht => ((u.mem t).mp ht).isP (wP _)) u.nd u'.nd u.asc u'.asc fun t => (u.mem t).trans (u'.mem t).symm
section
variable {P : Program} {w : World} {K : PySem.W.Frag} {mg : Str → Option Value} {base : Heap} {CP : Addr}
theorem law7_tail {f0 : Addr} {cdv : Value} {A : Around} {outer : List Env} {s0 : Shared} {H0 : Hp} {E0' : XK} (hr : Room 10 (law7X P w K mg base f0 cdv A outer s0 H0 E0').A) (L : LawHas7 P w K mg base CP) :
    ∃ t, PSs (law7X P w K mg base f0 cdv A outer s0 H0 E0') ((defBody s_law).drop 6) t ∧ ∀ (D : Ends) (H : Hp) (x0 x1 x2 x5 x8 x9 x10 x11 x12 x13 x14 x15 x16 x17 x18 x19 : Option V) (v : V) (ls T : List (List Nat)) (n p told : Nat) (wa sz : Addr),
      S7 H v ls n p told wa T → H sz = some (.lst [nI p]) → (∀ H', D.rt (.bl true) H') → t D [x0, x1, x2, some v, some (.ref wa), x5, some (.ref sz), some (nI told), x8, x9, x10, x11, x12, x13, x14, x15, x16, x17, x18, x19] H := by
  have B := L.bi
  have hu := hr.units
  have hu65 : (law7X P w K mg base f0 cdv A outer s0 H0 E0').A.units + 65 < cLine := by have := hr.un; omega
  have hr1 : Room 1 (law7X P w K mg base f0 cdv A outer s0 H0 E0').A := hr.mono (by decide)
  have hr2 : Room 2 (law7X P w K mg base f0 cdv A outer s0 H0 E0').A := hr.mono (by decide)
  have hr3 : Room 3 (law7X P w K mg base f0 cdv A outer s0 H0 E0').A := hr.mono (by decide)
  have hr4 : Room 4 (law7X P w K mg base f0 cdv A outer s0 H0 E0').A := hr.mono (by decide)
  have hr9 : Room 9 (law7X P w K mg base f0 cdv A outer s0 H0 E0').A := hr.mono (by decide)
  refine ⟨_, pss_cons (ps_set (i := 9) sc_law7.nd rfl (Or.inl rfl) (pe_ix ix_list (pv 6) pe_int (fun _ _ => rfl)))
    (pss_cons (ps_if (pt_not (pt_val (pe_has L.alike hr4 (by rfl) (pa_cons (pv 7) (pa_cons (pe_has L.dies hr2 (by rfl) (pa_cons (pv 3) (pa_cons (pv 4) (pa_cons (pv 9) pa_nil)))) pa_nil))))) (pss_one (ps_ret pe_bl)) pss_nil)
    (pss_cons (ps_if (pt_not (pt_val (pe_has L.alike hr4 (by rfl) (pa_cons (pe_hasL L.weighed hr9 (by rfl) (pa_cons (pv 3) pa_nil)) (pa_cons (pe_tupleOf (by rfl) B.tuple
        (pe_lc (own := [("term", 16)]) (g := gName 16) (te := tThen (tVar 16) (kTup K)) (by rfl) sc_law7.nd (pi_list (pe_has L.lweighed hr4 (by rfl) (pa_cons (pv 3) (pa_cons (pv 9) pa_nil)))) (blkOk_by (own := [("term", 16)]) (N := law7N) (sc := defScope s_law) (by decide +kernel))
          (fun _ _ _ _ _ => pg_name (i := 16) sc_law7.nd rfl (Or.inl rfl)) (fun _ _ _ _ _ => pts_nil) (fun _ _ _ _ _ => pe_tupleOf (by rfl) B.tuple (pv 16)))) pa_nil))))) (pss_one (ps_ret pe_bl)) pss_nil)
    (pss_cons (ps_set (i := 10) sc_law7.nd rfl (Or.inl rfl) (pe_has L.bases hr3 (by rfl) (pa_cons (pe_hasL L.chains hr9 (by rfl) (pa_cons (pv 3) pa_nil)) (pa_cons (pv 9) pa_nil))))
    (pss_cons (ps_if (pt_cmpR op_ne (pe_callB (cr_sum rfl) (by rfl) L.bsum PyProof.Rows.boot_sum (pa_cons
        (pe_lc (own := [("turn", 11), ("many", 12), ("length", 13)]) (g := gTup K 3 (gCons (gName 11) (gCons (gName 12) (gCons (gName 13) gNil)))) (te := tOp (rI CMul fun i j => .int (i * j)) (tVar 13) (tOp (rI0 fun i j => .int (i - j)) (tVar 12) (tC (.int 1)))) (by rfl) sc_law7.nd (pi_list (pv 10)) (blkOk_by (own := [("turn", 11), ("many", 12), ("length", 13)]) (N := law7N) (sc := defScope s_law) (by decide +kernel))
          (fun _ _ _ _ _ => pg_tup rfl (pgs_cons (pg_name (i := 11) sc_law7.nd rfl (Or.inl rfl)) (pgs_cons (pg_name (i := 12) sc_law7.nd rfl (Or.inl rfl)) (pgs_cons (pg_name (i := 13) sc_law7.nd rfl (Or.inl rfl)) pgs_nil)))) (fun _ _ _ _ _ => pts_nil) (fun _ _ _ _ _ => pe_op op_mul (pv 13) (pe_op op_sub (pv 12) pe_int))) pa_nil)) (pv 7) (nomark _)) (pss_one (ps_ret pe_bl)) pss_nil)
    (pss_cons (ps_if (pt_cmpR (op_neD hu)
        (pe_lc (own := [("given", 17), ("long", 18)]) (g := gTup K 2 (gCons (gName 17) (gCons (gName 18) gNil))) (te := tC (.int 1)) (tt := tBad7 K) (by rfl) sc_law7.nd (pi_tup (pe_hasL L.chains hr9 (by rfl) (pa_cons (pv 3) pa_nil))) (blkOk_by (own := [("given", 17), ("long", 18)]) (N := law7N) (sc := defScope s_law) (by decide +kernel))
          (fun _ _ _ _ _ => pg_tup rfl (pgs_cons (pg_name (i := 17) sc_law7.nd rfl (Or.inl rfl)) (pgs_cons (pg_name (i := 18) sc_law7.nd rfl (Or.inl rfl)) pgs_nil)))
          (fun _ _ _ _ _ => pts_one (pt_cmpR (by refine op_neD ?_; exact hu) (by exact
            (pe_lc (own := [("turn", 11)]) (g := gName 11) (te := tVar 11) (tt := tNotIn7 K) (by rfl) sc_law7.nd (pi_tup (pv 17)) (blkOk_by (own := [("turn", 11)]) (N := law7N) (sc := relS (lcS (cmpL (ifT (st7 11)))) (defScope s_law)) (by decide +kernel))
              (fun _ _ _ _ _ => pg_name (i := 11) sc_law7.nd rfl (Or.inl rfl)) (fun _ _ _ _ _ => pts_one (pt_cmpR (by refine op_notInDT ?_; exact hu65) (pv 11) (pv 3) (by rfl))) (fun _ _ _ _ _ => pv 11))) (pe_lst pa_nil) (nomark _)))
          (fun _ _ _ _ _ => pe_int)) (pe_lst pa_nil) (nomark _)) (pss_one (ps_ret pe_bl)) pss_nil)
    (pss_cons (ps_set (i := 14) sc_law7.nd rfl (Or.inl rfl) (pe_lst (pa_cons (pe_tupRg (by rfl) (by rfl) B.tuple (prg_1 (by rfl) B.range (pe_callB call_len_seq (by rfl) B.len PySem.boot_len (pa_cons (pe_ix ix_tup (pv 3) pe_int (fun _ _ => rfl)) pa_nil)))) pa_nil)))
    (pss_cons (ps_for PassesOwn.never rfl (pi_list (pv 10)) (pg_tup (by rfl) (pgs_cons (pg_name (i := 11) sc_law7.nd rfl (Or.inr rfl)) (pgs_cons (pg_name (i := 12) sc_law7.nd rfl (Or.inl rfl)) (pgs_cons (pg_name (i := 13) sc_law7.nd rfl (Or.inl rfl)) pgs_nil))))
      (pss_cons (ps_set (i := 15) sc_law7.nd rfl (Or.inl rfl) (pe_lst pa_nil))
      (pss_cons (ps_for PassesOwn.never rfl (pi_list (pv 14)) (pg_name (i := 5) sc_law7.nd rfl (Or.inr rfl))
        (pss_one (ps_set (i := 15) sc_law7.nd rfl (Or.inl rfl) (pe_op op_cat (pv 15)
          (pe_lc (own := [("times", 19)]) (g := gName 19) (te := tCall spProd [] E0 (tCons (tVar 5) (tCons (tCall spLawPow [] E0 (tCons (tVar 11) (tCons (tVar 19) tNil))) tNil))) (by rfl) sc_law7.nd (pi_range1 (by rfl) B.range (pa_cons (pv 12) pa_nil)) (blkOk_by (own := [("times", 19)]) (N := law7N) (sc := defScope s_law) (by decide +kernel))
            (fun _ _ _ _ _ => pg_name (i := 19) sc_law7.nd rfl (Or.inl rfl)) (fun _ _ _ _ _ => pts_nil) (fun _ _ _ _ _ => pe_has L.behind hr1 (by rfl) (pa_cons (pv 5) (pa_cons (pe_has L.power hr2 (by rfl) (pa_cons (pv 11) (pa_cons (pv 19) pa_nil))) pa_nil))))))))
      (pss_one (ps_set (i := 14) sc_law7.nd rfl (Or.inl rfl) (pv 15))))))
    (pss_one (ps_ret (pe_cmpR (op_eqD hu) (pe_callB cr_sortA (by rfl) B.sorted PyProof.Rows.boot_sorted (pa_cons (pv 14) pa_nil)) (pv 4) (nomark _))))))))))), ?_⟩
  intro D H x0 x1 x2 x5 x8 x9 x10 x11 x12 x13 x14 x15 x16 x17 x18 x19 v ls T n p told wa sz F hsz q
  have gl := F.good.gl
  obtain ⟨g1, g4, n2, n9, hls⟩ := id gl
  obtain ⟨_, p2, p7⟩ := prime_in F.pin
  have C := cld_mk hls F.f60
  have hgM : ∀ g ∈ ls, Mk ls n g := fun g h => .one hls h
  have M := F.b.m
  have told20 := F.b.t20
  have lT : T.length ≤ 60 := F.f60.le F.nd fun t h => (F.mem t).mp h
  have pl := M.b.b.pl
  have noN : ∀ {X : Prop}, primeOf (LL ls n).length = none → X := fun z => by rw [F.pr] at z; cases z
  -- prime
  refine ⟨_, rfl, sz, _, 0, nI p, rfl, rfl, SqL.of hsz, atI_nat (j := 0) rfl, ?_⟩
  -- dies
  obtain ⟨wx, hwx, pwx⟩ := F.wh
  refine ⟨_, rfl, _, rfl, _, rfl, _, rfl, v, ls, n, p, told, wa, wx, T, rfl, F.good.tt, gl, F.f60, hwx, pwx, F.nd, F.mem, F.pin, (now_nil C hgM F.mem F.nd F.pin told).mpr M.hi, fun k hk e => M.lo (Ng.le C hgM (by omega) ((now_nil C hgM F.mem F.nd F.pin k).mp e)), by omega, fun H1 s1 => ?_⟩
  refine ⟨nI told, nI told, .int told, rfl, .int _, .int _, trivial, fun H2 s2 => ⟨true, rfl, iteF ?_⟩⟩
  have F2 := F.same (s1.trans s2)
  clear F
  -- weighed
  refine ⟨_, rfl, v, ls, n, rfl, F2.good, (fun z => noN z), fun p' hp' => ?_⟩
  obtain rfl := Option.some.inj (F2.pr.symm.trans hp')
  refine ⟨pl, fun wr H3 T0 Ts Us s3 nd0 asc0 mem0 ser0 wtt wet => ?_⟩
  have F3 := F2.same s3
  refine ⟨_, rfl, _, rfl, v, ls, n, p, rfl, F3.good.tt, gl, F3.f60, p2, p7, fun T1 Ts1 nd1 mem1 ser1 => ⟨fun A hA => M.b.dies T1 Ts1 A nd1 mem1 ser1 hA, ?_⟩, fun l H4 lx T1 Ts1 Us1 s4 hl0 hlx plx nd1 asc1 mem1 ser1 we1 => ?_⟩
  · have := wCnt_told p2 (M.b.b.told T1 Ts1 nd1 mem1 ser1).1
    omega
  have eU : Us1 = Us := we_uni hls F3.f60 n9 nd1 asc1 mem1 ser1 we1 nd0 asc0 mem0 ser0 wet
  subst eU
  have hcnt := wCnt_told p2 (M.b.b.told T0 Ts nd0 mem0 ser0).1
  have lUs := wet.len
  have lpx := Paired.length plx
  have ok0 := tsOk_of F3.good mem0 nd0 ser0
  have uIn : ∀ U ∈ Us1, U.length ≤ 1000 ∧ ∀ t ∈ U, t.length ≤ 1000 := fun U hU => by
    obtain ⟨i, hi⟩ := List.mem_iff_getElem?.mp hU
    have u := wet.u i U hi
    have um : ∀ t ∈ U, Mk ls n t := fun t ht => ((u.mem t).mp ht).mono hls fun g hg => ok0.wP (p := p) (i + 1) g hg
    have := F3.f60.le u.nd um
    exact ⟨by omega, fun t ht => by rw [((um t ht).isP hls).len]; omega⟩
  refine ⟨l, rfl, ⟨_, SqL.of hlx⟩, fun D1 hD1 => lc_genF (J := Itl K l) (n := lx.length) TTF (fun _ => true) (fun i => Us1.getD i []) (fun _ _ _ _ e r => TTF.tm e r) (by omega) hD1 (fun i H5 hi s5 => ?_) (fun H5 s5 => ?_) (fun i H5 x H6 hi s5 y => ?_) (fun H5 zs s5 hzs pzs => ?_)⟩
  · exact ⟨_, _, SqL.of (s5 _ _ hlx), List.getElem?_eq_getElem hi⟩
  · exact ⟨_, SqL.of (s5 _ _ hlx), Nat.le_refl _⟩
  · obtain ⟨rfl, f1⟩ := y
    have f1 := f1 _ (SqL.of (s5 _ _ hlx))
    obtain ⟨U, hU, ua, rfl, ux, hux, pux⟩ := Paired.getL plx f1
    have eU : Us1.getD i [] = U := by rw [List.getD_eq_getElem?_getD, hU]; rfl
    rw [eU]
    refine ⟨Same.refl _, _, fun Kk q => q, rfl, fun Q q => q _ (Same.refl _), fun _ H7 s7 Q q => ?_⟩
    refine ⟨_, rfl, .inl ⟨ua, ux, rfl, SqL.of (s7 _ _ (s5 _ _ hux)), fun tp htp => ?_⟩⟩
    exact q _ _ (same_new htp) ⟨tp, ux, rfl, upd_same, TFs.tm (.of (s5.trans (s7.trans (same_new htp)))) pux⟩
  have e1 : ((List.range lx.length).filter fun _ => true).map (fun i => Us1.getD i []) = Us1 := by
    rw [List.filter_eq_self.mpr (fun _ _ => rfl), lpx]
    exact getDd_rng [] _
  rw [e1] at pzs
  refine .inl ⟨D1, zs, rfl, SqL.of hzs, fun tp htp => ?_⟩
  have s6 := same_new (o := .tup zs) htp
  have ktp : (upd H5 tp (.tup zs)) tp = some (.tup zs) := upd_same
  have pzs6 : Paired (TTF (upd H5 tp (.tup zs))) zs Us1 := paired_mono (fun _ _ r => TTF.tm (.of s6) r) pzs
  have s36 := s4.trans (s5.trans s6)
  generalize upd H5 tp (.tup zs) = H6 at *
  have wtt6 := wtt.tm (.of s36)
  obtain ⟨wra, wrx, rfl, hwr, pwr⟩ := wtt6
  refine ⟨.ref wra, .ref tp, .tuple (Us1.map fun U => .tuple (U.map dT)), rfl, .tup (.inl hwr) (TTKs.rp7 pwr), .tup (.inl ktp) (TTFs.rp7 pzs6), pl7 (n := n) (by omega) uIn, fun H7 s7 => ⟨true, rfl, iteF ?_⟩⟩
  have F7 := F3.same (s36.trans s7)
  clear F3 F2
  -- bases
  refine ⟨_, rfl, v, ls, n, rfl, F7.good, F7.tf, (fun z => noN z), fun p' hp' => ?_⟩
  obtain rfl := Option.some.inj (F7.pr.symm.trans hp')
  refine ⟨pl, fun ca H8 T1 Ts1 cx s8 nd1 asc1 mem1 ser1 hca pcx lcx => ?_⟩
  obtain ⟨c1, c2, c3, c4⟩ := F7.b.ch T1 Ts1 nd1 mem1 ser1
  have W1 := pl.2 T1 Ts1 nd1 mem1 ser1
  have hfs := W1.fs
  generalize (chLev n p Ts1 ls 8).2 = fs at *
  refine ⟨_, rfl, ca, cx, fs, n, p, rfl, hca, pcx, fun f hf => ⟨(c3 f hf).1, (c3 f hf).2.1, (c3 f hf).2.2.1, fun g hg => hls g ((c3 f hf).2.2.2 g hg)⟩, n9, p7, lcx, fun bl H9 bx s9 hbl0 hbl pbx => ?_⟩
  have F9 := F7.same (s8.trans s9)
  clear F7
  have lbx := Paired.length pbx
  have lcf := Paired.length pcx
  -- the sum
  refine ⟨_, rfl, bl, rfl, ⟨_, SqL.of hbl⟩, fun D2 hD2 => lc_genF (J := Itl K bl) (n := bx.length) RN (fun _ => true) (fun i => (fs.map fun f => f.1.length * (p ^ f.2 - 1)).getD i 0) (fun _ _ _ _ _ r => r) (by omega) hD2 (fun i H5 hi s5 => ?_) (fun H5 s5 => ?_) (fun i H5 x H6 hi s5 y => ?_) (fun H10 zs2 s10 hz2 pz2 => ?_)⟩
  · exact ⟨_, _, SqL.of (s5 _ _ hbl), List.getElem?_eq_getElem hi⟩
  · exact ⟨_, SqL.of (s5 _ _ hbl), Nat.le_refl _⟩
  · obtain ⟨rfl, f1⟩ := y
    have f1 := f1 _ (SqL.of (s5 _ _ hbl))
    obtain ⟨f, hf, fq, ft, rfl, hfq, hft⟩ := Paired.getL pbx f1
    have ef : (fs.map fun f => f.1.length * (p ^ f.2 - 1)).getD i 0 = f.1.length * (p ^ f.2 - 1) := by
      rw [List.getD_eq_getElem?_getD, List.getElem?_map, hf]
      rfl
    rw [ef]
    obtain ⟨h1000, h9⟩ := hfs f (List.mem_of_getElem? hf)
    have hp1 : 1 ≤ p ^ f.2 := Nat.pow_pos (by omega)
    refine ⟨Same.refl _, _, fun Kk q => ⟨fq, _, rfl, SqT.of (s5 _ _ hfq), rfl, _, _, rfl, _, _, rfl, _, _, rfl, rfl, q⟩, rfl, fun Q q => q _ (Same.refl _), fun _ H7 s7 Q q => ?_⟩
    refine ⟨_, rfl, _, rfl, ((p ^ f.2 : Nat) : Int), 1, rfl, rfl, (f.1.length : Int), ((p ^ f.2 : Nat) : Int) - 1, rfl, rfl, .inl ⟨by omega, by omega⟩, q _ _ (Same.refl _) ?_⟩
    show V.int _ = V.int _
    rw [Int.natCast_mul, Int.ofNat_sub hp1]
    rfl
  have e2 : ((List.range bx.length).filter fun _ => true).map (fun i => (fs.map fun f => f.1.length * (p ^ f.2 - 1)).getD i 0) = fs.map fun f => f.1.length * (p ^ f.2 - 1) := by
    rw [List.filter_eq_self.mpr (fun _ _ => rfl)]
    have : bx.length = (fs.map fun f => f.1.length * (p ^ f.2 - 1)).length := by rw [List.length_map]; exact lbx
    rw [this]
    exact getDd_rng 0 _
  rw [e2] at pz2
  have e3 := RN.all pz2
  subst e3
  refine ⟨D2, (fs.map fun f => f.1.length * (p ^ f.2 - 1)).map fun x => ((x : Nat) : Int), rfl, SqL.of (by rw [List.map_map]; exact hz2), ?_⟩
  have sumE : ((fs.map fun f => f.1.length * (p ^ f.2 - 1)).map fun x => ((x : Nat) : Int)).sum = ((told : Nat) : Int) := by
    have go : ∀ l : List Nat, (l.map fun x => ((x : Nat) : Int)).sum = ((l.sum : Nat) : Int) := fun l => by
      induction l with
      | nil => rfl
      | cons x l ih => rw [List.map_cons, List.sum_cons, List.sum_cons, ih]; omega
    rw [go, c2]
  rw [sumE]
  refine ⟨_, rfl, rfl, _, rfl, ?_⟩
  have eD : (!decide (V.int ((told : Nat) : Int) = nI told)) = false := by rw [decide_eq_true (show V.int ((told : Nat) : Int) = nI told from rfl)]; rfl
  rw [eD]
  refine iteF ?_
  have F10 := F9.same s10
  clear F9
  have hbl10 := s10 _ _ hbl
  have pbx10 : Paired (BsR p H10) bx fs := paired_mono (fun _ _ r => BsR.tm (.of s10) r) pbx
  -- all given turns are the lock's
  refine ⟨_, rfl, v, ls, n, rfl, F10.good, F10.tf, (fun z => noN z), fun p' hp' => ?_⟩
  obtain rfl := Option.some.inj (F10.pr.symm.trans hp')
  refine ⟨pl, fun da H11 T2 Ts2 dx s11 nd2 asc2 mem2 ser2 hda pdx ldx => ?_⟩
  obtain ⟨_, _, d3, d4⟩ := F10.b.ch T2 Ts2 nd2 mem2 ser2
  have W2 := pl.2 T2 Ts2 nd2 mem2 ser2
  have hfs2 := W2.fs
  generalize (chLev n p Ts2 ls 8).2 = fs2 at *
  have F11 := F10.same s11
  clear F10
  have ldf := Paired.length pdx
  have hn100 : dx.length ≤ 100000 := by omega
  refine ⟨da, rfl, ⟨dx, SqT.of hda⟩, fun D3 hD3 => lc_genF (J := Itt K da) (n := dx.length) RN (fun _ => false) (fun _ => (0 : Nat)) (fun _ _ _ _ e r => r) hn100 hD3 (fun i H4 hi s4 => ⟨dx, _, SqT.of (s4 _ _ hda), List.getElem?_eq_getElem hi⟩) (fun H4 s4 => ⟨dx, SqT.of (s4 _ _ hda), Nat.le_refl _⟩) (fun i H4 x H5 hi s4 y => ?_) (fun H12 ys s12 hy py => ?_)⟩
  · obtain ⟨rfl, f1⟩ := y
    have f1 := f1 _ (SqT.of (s4 _ _ hda))
    obtain ⟨f, hf, fp, gv, rfl, hfp, ga, gx, rfl, hga, pgx⟩ := Paired.getL pdx f1
    obtain ⟨z1, z2, z3, z4⟩ := d3 f (List.mem_of_getElem? hf)
    have lgx := Paired.length pgx
    refine ⟨Same.refl _, _, fun Kk q => ⟨fp, _, rfl, SqT.of (s4 _ _ hfp), rfl, _, _, rfl, _, _, rfl, rfl, q⟩, rfl, fun Q2 q2 => ?_, fun hp => by cases hp⟩
    have hga4 := s4 _ _ hga
    refine ⟨_, rfl, ga, rfl, ⟨gx, SqT.of hga4⟩, fun D4 hD4 => lc_genF (J := Itt K ga) (n := gx.length) RN (fun _ => false) (fun _ => (0 : Nat)) (fun _ _ _ _ e r => r) (by omega) hD4 (fun i H5 hi s5 => ⟨gx, _, SqT.of (s5 _ _ hga4), List.getElem?_eq_getElem hi⟩) (fun H5 s5 => ⟨gx, SqT.of (s5 _ _ hga4), Nat.le_refl _⟩) (fun j H5 x H6 hj s5 y => ?_) (fun H5 ws s5 hw pw => ?_)⟩
    · obtain ⟨rfl, f2⟩ := y
      have f2 := f2 _ (SqT.of (s5 _ _ hga4))
      obtain ⟨g, hg, tg⟩ := Paired.getL pgx f2
      have hgm := z4 g (List.mem_of_getElem? hg)
      refine ⟨Same.refl _, _, fun Kk q => q, rfl, fun Q3 q3 => ?_, fun hp => by cases hp⟩
      have tt5 := (F11.good.tt).tm (.of (s4.trans s5))
      refine ⟨_, rfl, _, rfl, dT g, ls.map dT, (TF.tm (.of (s4.trans s5)) tg).tn.dp, tt5.dp, sh_T _, sh_TT _, !decide (g ∈ ls), by rw [any_dT], ?_⟩
      rw [decide_eq_true hgm]
      exact q3 _ (Same.refl _)
    · have e0 : (List.range gx.length).filter (fun _ => false) = [] := List.filter_eq_nil_iff.mpr (fun _ _ h => by cases h)
      rw [e0, List.map_nil] at pw
      cases pw
      refine ⟨Nat.zero_le _, fun p0 hp0 => ?_⟩
      have s8 := same_new (o := .lst []) hp0
      exact ⟨.list [], .list [], Rp.dp _ _ (.lst (s8 _ _ hw) .nil), Rp.dp _ _ (.lst upd_same .nil), rfl, rfl, _, rfl, q2 _ (s5.trans s8)⟩
  have e0 : (List.range dx.length).filter (fun _ => false) = [] := List.filter_eq_nil_iff.mpr (fun _ _ h => by cases h)
  rw [e0, List.map_nil] at py
  cases py
  refine ⟨Nat.zero_le _, fun p0 hp0 => ?_⟩
  have s13 := same_new (o := .lst []) hp0
  refine ⟨.list [], .list [], Rp.dp _ _ (.lst (s13 _ _ hy) .nil), Rp.dp _ _ (.lst upd_same .nil), rfl, rfl, _, rfl, iteF ?_⟩
  have s1013 := s11.trans (s12.trans s13)
  have F13 := F11.same (s12.trans s13)
  have hbl13 := s1013 _ _ hbl10
  have pbx13 : Paired (BsR p (upd H12 p0 (.lst []))) bx fs := paired_mono (fun _ _ r => BsR.tm (.of s1013) r) pbx10
  clear F11
  generalize upd H12 p0 (.lst []) = H13 at *
  -- products
  obtain ⟨a0, xs0, b0, rfl, ha0, hp0', h00, t00, hbt0, htl0⟩ := F13.good.tt.head gl
  refine ⟨_, rfl, a0, xs0, 0, .ref b0, rfl, rfl, SqT.of ha0, h00, b0, _, rfl, .inr hbt0.sq, ?_⟩
  have en : (nIs t00).length = n := by rw [nIs_len]; exact htl0
  rw [en]
  refine ⟨_, rfl, .of_le (by omega) (by omega) (by omega) (by omega), fun st hst => ⟨by show 1 ≤ sizeLine; decide, fun fl hfl => ?_⟩⟩
  have s14 := same_new (o := .tup (rgV 0 (n : Int))) hst
  have s15 := same_new (o := .lst [V.ref st]) hfl
  have kst : TK (upd (upd H13 st (.tup (rgV 0 (n : Int)))) fl (.lst [V.ref st])) (.ref st) (List.range n) := ⟨st, rfl, s15 _ _ (by rw [upd_same, rgV_nat])⟩
  have kfl : (upd (upd H13 st (.tup (rgV 0 (n : Int)))) fl (.lst [V.ref st])) fl = some (.lst [V.ref st]) := upd_same
  have s1415 := s14.trans s15
  generalize upd (upd H13 st (.tup (rgV 0 (n : Int)))) fl (.lst [V.ref st]) = H15 at *
  have F15 := F13.same s1415
  clear F13
  have hbl15 := s1415 _ _ hbl13
  have pbx15 : Paired (BsR p H15) bx fs := paired_mono (fun _ _ r => BsR.tm (.of s1415) r) pbx13
  have len60 : (prodsM n p fs).length ≤ 60 := by
    rw [c1.length_eq]
    exact F15.f60.le nd1 fun t h => (mem1 t).mp h
  have fsP : ∀ f ∈ fs, (∀ g ∈ f.1, IsP n g) ∧ f.1 ≠ [] := fun f hf => ⟨fun g hg => hls g ((c3 f hf).2.2.2 g hg), (c3 f hf).1⟩
  have prP : ∀ i, ∀ t ∈ prodsM n p (fs.take i), IsP n t := fun i => (prods_cj (p := p) (IsP.still n) (fs := fs.take i) fun f hf => fsP f (List.mem_of_mem_take hf)).2
  refine ⟨_, rfl, bl, rfl, ⟨_, SqL.of hbl15⟩, for_list (K := K) (a := bl) (xs := bx) (fun i σ H' => ∃ y5 y11 y12 y13 fa fx y15, σ = [x0, x1, x2, some (.ref a0), some (.ref wa), y5, some (.ref sz), some (nI told), x8, some (nI p), some (.ref bl), y11, y12, y13, some (.ref fa), y15, x16, x17, x18, x19] ∧ Same H15 H' ∧ H' fa = some (.lst fx) ∧ Paired (TK H') fx (prodsM n p (fs.take i)))
    ⟨x5, x11, x12, x13, fl, [.ref st], x15, rfl, Same.refl _, kfl, .cons kst .nil⟩ (fun i σ H' _ ⟨_, _, _, _, _, _, _, _, sm, _⟩ => SqL.of (sm _ _ hbl15)) ?_ ?_⟩
  · rintro i x σ H16 hi ⟨y5, y11, y12, y13, fa, fx, y15, rfl, sm, hfx, pfx⟩
    obtain ⟨f, hf, fq, ft, rfl, hfq, hft⟩ := Paired.getL pbx15 hi
    have hfm := List.mem_of_getElem? hf
    obtain ⟨h1000, h9⟩ := hfs f hfm
    have hp1 : 1 ≤ p ^ f.2 := Nat.pow_pos (by omega)
    have eN : prodsM n p (fs.take (i + 1)) = prS n p (prodsM n p (fs.take i)) f := by
      unfold prodsM
      rw [List.take_add_one, hf, List.foldl_append]
      rfl
    have l60 := Nat.le_trans (prods_take (n := n) (p := p) (by omega) fs (i + 1)) len60
    rw [eN] at l60 ⊢
    have hP := prP i
    have cP := cms_P (fsP f hfm).1 (fsP f hfm).2
    rw [prS_len] at l60
    generalize prodsM n p (fs.take i) = F0 at *
    have lfx := Paired.length pfx
    refine ⟨fq, _, rfl, SqT.of (sm _ _ hfq), rfl, ft, _, rfl, nI (p ^ f.2), _, rfl, nI f.1.length, _, rfl, rfl, ?_⟩
    refine ⟨Nat.zero_le _, fun la hla => ?_⟩
    have s17 := same_new (o := .lst []) hla
    have kla : (upd H16 la (.lst [])) la = some (.lst []) := upd_same
    generalize upd H16 la (.lst []) = H17 at *
    have hfx17 := s17 _ _ hfx
    have pfx17 : Paired (TK H17) fx F0 := TKs.tm (.of s17) pfx
    refine ⟨_, rfl, fa, rfl, ⟨_, SqL.of hfx17⟩, for_list (K := K) (a := fa) (xs := fx) (fun j σ H' => ∃ y5 la lx, σ = [x0, x1, x2, some (.ref a0), some (.ref wa), y5, some (.ref sz), some (nI told), x8, some (nI p), some (.ref bl), some ft, some (nI (p ^ f.2)), some (nI f.1.length), some (.ref fa), some (.ref la), x16, x17, x18, x19] ∧ Same H17 H' ∧ H' la = some (.lst lx) ∧ Paired (TK H') lx (prS n p (F0.take j) f))
      ⟨y5, la, [], rfl, Same.refl _, kla, by rw [List.take_zero]; exact .nil⟩ (fun j σ H' _ ⟨_, _, _, _, sm, _⟩ => SqL.of (sm _ _ hfx17)) ?_ ?_⟩
    · rintro j x σ H18 hj ⟨z5, la, lx, rfl, sm18, hlx, plx⟩
      obtain ⟨one, ho, tko⟩ := Paired.getL pfx17 hj
      have oP := hP one (List.mem_of_getElem? ho)
      have lplx := Paired.length plx
      rw [prS_len] at lplx
      have hjl : (F0.take j).length ≤ F0.length := by rw [List.length_take]; omega
      have hb1 : (F0.take j).length * p ^ f.2 ≤ F0.length * p ^ f.2 := Nat.mul_le_mul_right _ hjl
      have st18 := (sm.trans s17).trans sm18
      refine ⟨_, rfl, _, rfl, ((p ^ f.2 : Nat) : Int), rfl, by omega, by omega, fun D5 hD5 => lc_rangeM (n := ((p ^ f.2 : Nat) : Int).toNat) TK ((List.range (p ^ f.2)).map fun k => prod one (pw n (cmsL f.1) k)) (fun _ _ _ _ e r => TK.tm e r) (by omega) (by rw [List.length_map, List.length_range]; omega) hD5 (fun x => rfl) (fun k t hk ht H3 s3 Q3 q3 => ?_) (fun H3 zs s3 hz pz => ?_)⟩
      · rw [List.getElem?_map, List.getElem?_range (by omega)] at ht
        have ht := (Option.some.inj ht).symm
        subst ht
        have tk3 := TK.tm (.of (sm18.trans s3)) tko
        have ft3 := TF.tm (.of (st18.trans s3)) hft
        refine ⟨_, rfl, _, rfl, _, rfl, ft, cmsL f.1, n, k, ?_, ft3.tn, cP, n9, by omega, fun r H4 s4 hr => pr_call ((TK.tm (.of s4) tk3).tn) hr.tn oP (pw_isP cP k) (by omega) fun r2 H5 s5 hr2 => q3 r2 H5 (s4.trans s5) hr2⟩
        show [ft, V.int ((0 : Int) + (k : Nat))] = [ft, nI k]
        rw [Int.zero_add]
        rfl
      · have lz := Paired.length pz
        rw [List.length_map, List.length_range] at lz
        have hb2 : 1 * p ^ f.2 ≤ F0.length * p ^ f.2 := Nat.mul_le_mul_right _ (by have := (List.getElem?_eq_some_iff.mp ho).1; omega)
        refine ⟨la, D5, lx, zs, rfl, rfl, s3 _ _ hlx, hz, by rw [sizeLine_eq]; omega, fun np hnp => ?_⟩
        have s4 := same_new (o := .lst (lx ++ zs)) hnp
        refine ⟨_, np, lx ++ zs, rfl, sm18.trans (s3.trans s4), upd_same, ?_⟩
        have eS : prS n p (F0.take (j + 1)) f = prS n p (F0.take j) f ++ (List.range (p ^ f.2)).map fun k => prod one (pw n (cmsL f.1) k) := by
          unfold prS
          rw [List.take_add_one, ho, List.flatMap_append]
          congr 1
          show [one].flatMap _ = _
          rw [List.flatMap_cons, List.flatMap_nil, List.append_nil]
        rw [eS]
        exact Paired.app (TKs.tm (.of (s3.trans s4)) plx) (TKs.tm (.of s4) pz)
    · rintro σ H18 ⟨z5, la, lx, rfl, sm18, hlx, plx⟩
      rw [lfx, List.take_length] at plx
      exact ⟨_, rfl, _, _, _, _, la, lx, _, rfl, (sm.trans s17).trans sm18, hlx, plx⟩
  · rintro σ H16 ⟨y5, y11, y12, y13, fa, fx, y15, rfl, sm, hfx, pfx⟩
    rw [lbx, List.take_length] at pfx
    have hP : ∀ t ∈ prodsM n p fs, IsP n t := by
      have := prP fs.length
      rwa [List.take_length] at this
    have lfx := Paired.length pfx
    have F16 := F15.same sm
    obtain ⟨wx', hwx', pwx'⟩ := F16.wh
    have iNV : ∀ t, (iN t).map V.int = nIs t := fun t => (nIs_int t).symm
    refine ⟨_, rfl, n, 9, by omega, fa, fx, rfl, SqL.of hfx, by omega, fun x hx => ?_, fun ys sp pm pw hsp => ?_⟩
    · obtain ⟨t, ht, a, rfl, ha⟩ := Paired.memL pfx hx
      exact ⟨iN t, ⟨a, rfl, by rw [iNV]; exact SqT.of ha⟩, by rw [iN_len, (hP t ht).len], bd_iN (hP t ht) n9⟩
    · obtain ⟨ts, h1, h2⟩ := Paired.perm pm pfx
      have s17 := same_new (o := .lst ys) hsp
      have asc : Asc ts := by
        refine Paired.pairwise (R := TK H16) (fun x y s t rx ry hxy => ?_) h1 pw
        obtain ⟨a, rfl, ha⟩ := rx
        obtain ⟨b, rfl, hb⟩ := ry
        exact hxy (iN s) (iN t) ⟨a, rfl, by rw [iNV]; exact SqT.of ha⟩ ⟨b, rfl, by rw [iNV]; exact SqT.of hb⟩
      have pmT : ts.Perm T := (h2.trans c1).trans ((List.perm_ext_iff_of_nodup nd1 F16.nd).mpr fun t => (mem1 t).trans (F16.mem t).symm)
      have eT : ts = T := asc_one n9 (fun t ht => hP t (h2.mem_iff.mp ht)) pmT asc F16.asc
      subst eT
      refine ⟨_, rfl, .list (ts.map dT), .list (ts.map dT), LT.dp ⟨ys, upd_same, TNs.tm (.of s17) (paired_mono (fun _ _ r => TK.tn r) h1)⟩, LT.dp ⟨wx', s17 _ _ hwx', TNs.tm (.of s17) (paired_mono (fun _ _ r => TK.tn r) pwx')⟩, sh_LT _, sh_LT _, ?_⟩
      have : PyData.eqv (.list (ts.map dT)) (.list (ts.map dT)) = true := (eqv_dTT ts ts).trans (decide_eq_true rfl)
      rw [this]
      exact q _
end
end Lt

set_option Elab.async false
set_option linter.all false
set_option maxRecDepth 100000
set_option maxHeartbeats 4000000
/-! k07: the law -/
namespace Lt
open PySem PySem.Spec PyProof.Rows L2 MaX
theorem wk_from {H0 G H : Hp} (g : ∀ a, G a = none → H0 a = none) : Wk H0 H (wkAll G H) := fun b => by
  unfold wkAll
  split
  · rename_i xs e1 e2
    exact .inr ⟨_, xs, e2, g b e1, rfl⟩
  · exact .inl rfl
theorem wkAll_old {G H : Hp} {b : Addr} {o : HO} (h : G b = some o) : wkAll G H b = H b := by
  unfold wkAll
  rw [h]
theorem lawP_none7 {m : Nat} (h : lawP m = none) : ([2, 3, 5, 7].filter fun p => decide (m % p = 0)).length ≠ 1 := fun e => by
  unfold lawP at h
  obtain ⟨q, e⟩ := List.length_eq_one_iff.mp e
  rw [e] at h
  cases h
theorem lawP_one7 {m p : Nat} (h : lawP m = some p) : ([2, 3, 5, 7].filter fun p => decide (m % p = 0)) = [p] := by
  unfold lawP at h
  split at h
  · rename_i q e
    obtain rfl := Option.some.inj h
    exact e
  · cases h
abbrev kinds7 : List Str := ["four", "klein", "square", "quaternions", "eight", "cube", "threes", "nine", "heis"]
def spLaw (K : PySem.W.Frag) : Sp := fun vs H Q _ => ∃ (l : Addr) (ns : List Int), vs = [.ref l] ∧ SqL K H l (ns.map V.int) ∧ ∀ H', Q (.bl true) H'
theorem law_len {K : PySem.W.Frag} : ∀ vs H Q E, spLaw K vs H Q E → vs.length = (["script"] : List Str).length := fun vs H Q E h => by
  obtain ⟨l, ns, rfl, _⟩ := h
  rfl
section
variable {P : Program} {w : World} {K : PySem.W.Frag} {mg : Str → Option Value} {base : Heap} {CP : Addr}
theorem law7_body (L : LawHas7 P w K mg base CP) (f : Addr) (cdv : Value) (A : Around) (outer : List Env) (s : Shared) (H : Hp) (vs : List V) (Q : VK) (E : XK) (hr : Room 10 (A.deeper (envOfC "law" (defScope s_law) s.heap.objs.size f cdv))) (h : spLaw K vs H Q E) :
    ∃ t, PSs (cxOf CX0 P w K mg base law7N "law" (defScope s_law) f cdv A outer s H E).nox (defBody s_law) t ∧ t { nx := fun _ H' => Q .non H', rt := Q } (start law7N vs) H := by
  obtain ⟨sc, ns, rfl, hsc, q⟩ := h
  have B := L.bi
  have hr0 : Room 10 (law7X P w K mg base f cdv A outer s H E).A := hr
  have hr2 : Room 2 (law7X P w K mg base f cdv A outer s H E).A := hr.mono (by decide)
  obtain ⟨tt, ht, qt⟩ := law7_tail (outer := outer) (s0 := s) (H0 := H) (E0' := E) (f0 := f) (cdv := cdv) hr0 L
  obtain ⟨tl, hl, ql⟩ := lock_text (outer := outer) (s0 := s) (H0 := H) (E0' := E) (f0 := f) (cdv := cdv) hr0 L
  refine ⟨_, pss_cons (ps_set (i := 1) sc_law7.nd rfl (Or.inl rfl) (pe_lst (pa_cons (pv 0) (pa_cons pe_int (pa_cons pe_int (pa_cons pe_int pa_nil))))))
    (pss_cons (ps_set (i := 2) sc_law7.nd rfl (Or.inl rfl) (pe_lst (pa_cons pe_str (pa_cons pe_str (pa_cons pe_str (pa_cons pe_str (pa_cons pe_str (pa_cons pe_str (pa_cons pe_str (pa_cons pe_str (pa_cons pe_str pa_nil)))))))))))
    (pss_cons hl
    (pss_cons (ps_set (i := 4) sc_law7.nd rfl (Or.inr rfl) (pe_has L.span hr2 (by rfl) (pa_cons (pe_callB call_len_seq (by rfl) B.len PySem.boot_len (pa_cons (pe_ix ix_tup (pv 3) pe_int (fun _ _ => rfl)) pa_nil)) (pa_cons (pv 3) pa_nil))))
    (pss_wk (pss_cons (ps_setLc (i := 6) (own := [("one", 5)]) (g := gName 5) (te := tVar 5) (tt := tSz7 K) (by rfl) sc_law7.nd rfl rfl (sw_true rfl rfl rfl (by decide +kernel)) (pi_list (pe_lst (pa_cons pe_int (pa_cons pe_int (pa_cons pe_int (pa_cons pe_int pa_nil)))))) (blkOk_by (own := [("one", 5)]) (N := law7N) (sc := defScope s_law) (by decide +kernel))
        (fun _ _ _ _ _ => pg_name (i := 5) sc_law7.nd rfl (Or.inl rfl))
        (fun _ _ _ _ _ => pts_one (pt_cmpR op_eq (by exact pe_op op_modNN (pe_callB call_len_seq (by rfl) B.len PySem.boot_len (pa_cons (pv 4) pa_nil)) (pv 5)) pe_int (nomark _))) (fun _ _ _ _ _ => pv 5))
    (pss_cons (try7 hr0 L) ht)))))), ?_⟩
  refine ⟨_, rfl, Nat.le_of_ble_eq_true rfl, fun r hr9 => ?_⟩
  have s1 := same_new (o := .lst [V.ref sc, V.int 0, V.int 7707, V.int 0]) hr9
  have ra1 : RowAt K (upd H r (.lst [V.ref sc, V.int 0, V.int 7707, V.int 0])) r sc ns := ⟨0, 7707, 0, upd_same, Same.seq s1 hsc, by omega, by omega, by omega⟩
  generalize upd H r (.lst [V.ref sc, V.int 0, V.int 7707, V.int 0]) = H1 at *
  refine ⟨Nat.le_of_ble_eq_true rfl, fun kl hkl => ?_⟩
  have s2 := same_new (o := .lst (kinds7.map V.str)) hkl
  have k2 : (upd H1 kl (.lst (kinds7.map V.str))) kl = some (.lst (kinds7.map V.str)) := upd_same
  refine ql _ _ r kl sc ns kinds7 _ _ _ _ _ _ _ _ _ _ _ _ _ _ _ _ _ _ (ra1.step s2) k2 (ra1.ne hkl).symm (by decide) (by decide) (by decide +kernel) fun lv H3 ls n lk l3 gl fw st3 ra3 htf => ?_
  have n03 : ∀ a, H3 a = none → H a = none := fun a h => by
    cases e : H a with
    | none => rfl
    | some o =>
      have ne : a ≠ r := ne_of_none e hr9
      rw [st3 _ _ ne (s2 _ _ (s1 _ _ e))] at h
      cases h
  obtain ⟨g1, g4, n2, n9, hls⟩ := id gl
  have htt : TT H3 lv ls := htf.tt
  obtain ⟨a0, xs0, b0, rfl, ha0, hp0, h00, t00, hbt0, htl0⟩ := htt.head gl
  have el : V.int ((nIs t00).length : Nat) = nI n := by rw [nIs_len, htl0]; rfl
  refine ⟨_, rfl, a0, xs0, 0, .ref b0, rfl, rfl, SqT.of ha0, h00, b0, _, rfl, .inr hbt0.sq, _, rfl, ?_⟩
  rw [el]
  refine ⟨.ref a0, ls, n, rfl, .inl ⟨a0, xs0, rfl, ha0, hp0⟩, hls, by omega, n9, by omega, fw.mono (by omega), fun wa H4 ts s4 hwa ⟨wx, hwx, pwx⟩ hnd hmem hasc => ?_⟩
  have wk : Wk H H4 (wkAll H3 H4) := wk_from n03
  refine ⟨wkAll H3 H4, wk, ?_⟩
  have gd : Good (wkAll H3 H4) (.ref a0) ls n := ⟨wk.tt (htt.tm (.of s4)), gl, fw.mono (by omega)⟩
  have tf5 : TTF (wkAll H3 H4) (.ref a0) ls := by
    obtain ⟨a, xs, e, ha, hx⟩ := htf
    refine ⟨a, xs, e, by rw [wkAll_old ha]; exact s4 _ _ ha, paired_mono (fun _ _ ⟨b, o, e2, hb, hd⟩ => ⟨b, o, e2, by rw [wkAll_old hb]; exact s4 _ _ hb, hd⟩) hx⟩
  have hwx5 : (wkAll H3 H4) wa = some (.lst wx) := wk.keep hwx (fun _ _ z => nomatch z)
  have pwx5 : Paired (TK (wkAll H3 H4)) wx ts := paired_mono (fun _ _ r => TFn.wk r (fun _ h => h)) pwx
  generalize wkAll H3 H4 = H5 at *
  have lwx := Paired.length pwx5
  have lLL : wx.length = (LL ls n).length := by
    have pm : ts.Perm ((LL ls n).map (·.1)) := (List.perm_ext_iff_of_nodup hnd (LL_nd ls n)).mpr fun t => (hmem t).trans (gd.mem t).symm
    rw [lwx, pm.length_eq, List.length_map]
  have l60 : (LL ls n).length ≤ 60 := LL_len fw
  -- sizes
  refine ⟨Nat.le_of_ble_eq_true rfl, fun pl hpl => ?_⟩
  have s6 := same_new (o := .lst [V.int 2, V.int 3, V.int 5, V.int 7]) hpl
  have k6 : (upd H5 pl (.lst [V.int 2, V.int 3, V.int 5, V.int 7])) pl = some (.lst [V.int 2, V.int 3, V.int 5, V.int 7]) := upd_same
  generalize upd H5 pl (.lst [V.int 2, V.int 3, V.int 5, V.int 7]) = H6 at *
  have hwx6 := s6 _ _ hwx5
  refine ⟨pl, rfl, ⟨_, SqL.of k6⟩, fun D hD => lc_genF (J := Itl K pl) (n := 4) RN (fun i => decide ((LL ls n).length % ([2, 3, 5, 7] : List Nat).getD i 0 = 0)) (fun i => ([2, 3, 5, 7] : List Nat).getD i 0) (fun _ _ _ _ _ r => r) (by omega) hD (fun i H7 hi s7 => ?_) (fun H7 s7 => ?_) (fun i H7 x H8 hi s7 y => ?_) (fun H7 zs s7 hz pz => ?_)⟩
  · exact ⟨_, _, SqL.of (s7 _ _ k6), List.getElem?_eq_getElem hi⟩
  · exact ⟨_, SqL.of (s7 _ _ k6), Nat.le_refl _⟩
  · obtain ⟨rfl, f1⟩ := y
    have f1 := f1 _ (SqL.of (s7 _ _ k6))
    have ex : x = nI (([2, 3, 5, 7] : List Nat).getD i 0) ∧ 1 ≤ ([2, 3, 5, 7] : List Nat).getD i 0 := by
      have : i = 0 ∨ i = 1 ∨ i = 2 ∨ i = 3 := by omega
      rcases this with rfl | rfl | rfl | rfl <;> exact ⟨(Option.some.inj f1).symm, by decide⟩
    obtain ⟨rfl, q1⟩ := ex
    generalize ([2, 3, 5, 7] : List Nat).getD i 0 = qv at *
    refine ⟨Same.refl _, _, fun Kk q => q, rfl, fun Q2 q2 => ?_, fun _ H9 s9 Q2 q2 => ⟨_, rfl, q2 _ _ (Same.refl _) rfl⟩⟩
    refine ⟨_, rfl, wa, wx, rfl, .inl (SqL.of (s7 _ _ hwx6)), _, rfl, wx.length, qv, rfl, rfl, q1, rfl, _, ?_, q2 _ (Same.refl _)⟩
    rw [dec_int, lLL]
    congr 1
    rw [Bool.eq_iff_iff, beq_iff_eq, decide_eq_true_iff]
    omega
  have ez : ((List.range 4).filter fun i => decide ((LL ls n).length % ([2, 3, 5, 7] : List Nat).getD i 0 = 0)).map (fun i => ([2, 3, 5, 7] : List Nat).getD i 0) = ([2, 3, 5, 7] : List Nat).filter fun q => decide ((LL ls n).length % q = 0) :=
    filter_at [2, 3, 5, 7] fun q => decide ((LL ls n).length % q = 0)
  rw [ez] at pz
  have e7 := RN.all pz
  subst e7
  have s67 := s6.trans s7
  have gd7 := gd.same s67
  have pL : primeOf (LL ls n).length = lawP (LL ls n).length := prime_lock gd l60
  -- the try
  refine ⟨_, rfl, .ref a0, ls, n, rfl, gd7, (fun z H' s' => ⟨true, L.pp, fun _ a ha => ?_, fun y => by cases y⟩), fun p hp => ?_⟩
  · rw [pL] at z
    have hne := lawP_none7 z
    refine ⟨_, rfl, D, _, rfl, .inl (SqL.of (s' _ _ hz)), rfl, ?_⟩
    rw [nIs_len]
    have eD : (!decide (V.int ((([2, 3, 5, 7] : List Nat).filter fun q => decide ((LL ls n).length % q = 0)).length : Nat) = V.int 1)) = true := by
      rw [dec_int]
      simp only [Bool.not_eq_true', beq_eq_false_iff_ne, ne_eq]
      omega
    rw [eD]
    exact q _
  · have lkO : ∃ kn, LkD kn ls n ∨ (n ≤ 4 ∧ ls.length ≤ 2) := by
      rcases lk with z | z | z
      · exact ⟨_, .inl z⟩
      · exact ⟨_, .inl z⟩
      · exact ⟨[], .inr z⟩
    obtain ⟨kn, lk2⟩ := lkO
    obtain ⟨told, BK⟩ := bas_ofK lk2 gl fw hp
    refine ⟨BK.m.b.b.pl, fun H8 T0 Ts s8 nd0 asc0 mem0 ser0 => ?_⟩
    rw [(BK.m.b.b.told T0 Ts nd0 mem0 ser0).1]
    have e1 := lawP_one7 (pL.symm.trans hp)
    have hz8 := s8 _ _ hz
    rw [e1] at hz8
    refine ⟨_, rfl, D, _, rfl, .inl (SqL.of hz8), rfl, _, rfl, iteF ?_⟩
    refine qt _ _ _ _ _ _ _ _ _ _ _ _ _ _ _ _ _ _ (.ref a0) ls ts n p told wa D ⟨gd7.same s8, tf5.tm (.of (s67.trans s8)), fw, hp, lawP_in (pL.symm.trans hp), BK, ⟨wx, (s67.trans s8) _ _ hwx5, paired_mono (fun _ _ r => TK.tm (.of (s67.trans s8)) r) pwx5⟩, hnd, hasc, hmem⟩ hz8 q
end
end Lt

set_option Elab.async false
set_option linter.all false
set_option maxRecDepth 100000
set_option maxHeartbeats 2000000
namespace Lt
open PySem PySem.Spec PyProof.Rows L2 MaX
section
variable {P : Program} {w : World} {K : PySem.W.Frag} {mg : Str → Option Value} {base : Heap} {CL CM CP : Addr}
theorem TopFs.has (T : TopFs K mg CL CM CP) : LawHas7 P w K mg base CP := by
  have B := T.bi
  have eL : ErrI P w K mg base "BadLock" "place" CL := T.e_BadLock.errI init_BadLock
  have eM : ErrI P w K mg base "TooMany" "most" CM := T.e_TooMany.errI init_TooMany
  have i1 : Has P w K mg base CX0 1 "is_number" _ _ := has_is_number T.f_is_number B
  have i2 := has_are_numbers T.f_are_numbers B i1
  have i3 := has_is_permutation T.f_is_permutation B i2
  have i4 : Has P w K mg base CX0 1 "still_of" _ _ := has_still_of T.f_still_of B
  have i5 : Has P w K mg base CX0 1 "product_of" _ _ := has_product_of T.f_product_of B
  have i6 : Has P w K mg base CX0 1 "back_of" _ _ := has_back_of T.f_back_of B
  have i7 := has_bracket_of T.f_bracket_of i5 i6
  have i8 := has_words_of T.f_words_of B T.c_MOST_TURNS i4 i5
  have i9 := has_words_ofL T.f_words_of B T.c_MOST_TURNS i4 i5
  have g2 := has_group_ofK T.f_group_of B i4 i9
  have g3 := has_group_ofKK T.f_group_of B i4 i9
  have g4 := has_group_ofR T.f_group_of B i4 i9
  have i16 := has_check_lock T.f_check_lock B eL T.c_MOST_GIVEN T.c_FEWEST_PLACES T.c_MOST_PLACES i3
  have i17 := has_made_words T.f_made_words B eM T.c_MOST_TURNS i16 i8
  have i18 := has_all_turns T.f_all_turns B i17
  have i18K := has_all_turnsK T.f_all_turns B i17
  have b2 := has_brackets_madeTK T.f_brackets_made B i7 g2
  have l2 := has_lowerK T.f_lower B i18K b2
  have pr := has_prime T.f_prime B i18
  have p1 := has_power_of T.f_power_of B i5
  have p1N := has_power_ofN T.f_power_of B i5
  have p2 := has_powers_in T.f_powers_in B T.b_min p1
  have p3 := has_weighed_makers T.f_weighed_makers p2
  have p4 := has_made_by T.f_made_by B g3
  have p4R := has_made_byR T.f_made_by B g4
  have p5 := has_weighed_term T.f_weighed_term p3 p4
  have p6 := has_own_prime T.f_own_prime T.e_NotPrime pr
  have p7 := has_weighed T.f_weighed B p6 l2 p5
  have p8 : Has P w K mg base CX0 1 "exponent_of" _ _ := has_exponent_of T.f_exponent_of
  have p9 := has_told_number T.f_told_number B T.b_sum p6 p7 p8
  have q1 := has_longest_firstR (R := TF) (fun _ _ _ _ e r => TF.tm e r) T.f_longest_first B p5 p3 p2 p4R p1N
  have q2 := has_chainsR (R := TF) (fun _ _ _ _ e r => TF.tm e r) (fun _ _ _ r => r.tn) T.f_chains B p6 l2 q1 i7
  have j1 : Has P w K mg base CX0 1 "_law_taken" _ _ := has_law_taken T.f_law_taken B
  have j2 := has_law_pick T.f_law_pick B j1
  have j5 := has_law_permutation T.f_law_permutation B j1
  have j5F := has_law_permutationF T.f_law_permutation B j1
  have j6 : Has P w K mg base CX0 1 "_law_behind" _ _ := has_law_behind T.f_law_behind B
  have j7 : Has P w K mg base CX0 1 "_law_behind" _ _ := has_law_behindF T.f_law_behind B
  have j8 : Has P w K mg base CX0 1 "_law_back" _ _ := has_law_back T.f_law_back B
  have j9 := has_law_swapG T.f_law_swap j6 j7 j8
  have j9K := has_law_swap T.f_law_swap j6 j8
  have j10 := has_law_span T.f_law_span B j7
  have j11 := has_law_knownDF T.f_law_known B j2 j5
  have j12 := has_law_lockDF T.f_law_lock B j1 j11 j5F
  have j13 := has_law_terms T.f_law_terms B j10 j9K
  have j14 : Has P w K mg base CX0 1 "_law_reduced" _ _ := has_law_reduced T.f_law_reduced B T.b_zip
  have j15 := has_law_dies T.f_law_dies B T.b_zip T.b_dict j6 j14
  have j16 := has_law_power T.f_law_power B j6
  have j17 := has_law_weighed T.f_law_weighed B j10 j13 j16
  have j18 := has_law_bases T.f_law_bases B j9
  exact { bi := B, bsum := T.b_sum, taken := j1, alike := has_law_alike T.f_law_alike B 3, known := j11, lock := j12, span := has_law_spanN T.f_law_span B (has_law_behindFn T.f_law_behind B), behind := j6, power := j16, dies := j15, lweighed := j17, bases := j18,
          told := p9, weighed := p7, chains := q2, eP := T.e_NotPrime, pp := T.e_NotPrime.exm }
theorem law_fin {h : Heap} {fa f : Addr} {oc kV doc pm cdv ct : Value} {od an : Option Addr} {osl : Array (Option Value)} (X : K.In h) (hfa : mg "law" = some (.ref fa)) (G : h.Ns mainGlobals mg) (a : PySem.W.nsIn K mainGlobals "law" = some (some (.ref f)))
    (l : K.lookup f = some ⟨oc, od, .func (PySem.W.fnOf "law" "law" (defArgs s_law) (defBody s_law) (defScope s_law) .none kV doc pm an cdv ct), osl⟩) (c : PySem.W.codeIn K cdv "law" = true) (k : PySem.W.keepIn K (.ref f) = true) (T : TopFs K mg CL CM CP) :
    ∃ fd : FuncData, (∀ (s : Shared) (u : Value), BindsTo s fd ⟨[u], []⟩ [("script", u)]) ∧ ∀ base : Heap, K.In base → base.Ns mainGlobals mg → FnOk P w K mg base CX0 11 fa fd ["script"] (spLaw K) := by
  have e := hfa.symm.trans (PySem.W.mg_of X G a)
  cases e
  exact ⟨_, fun s u => .of_eq rfl, fun base _ _ => (fun_mk l c k).ok sc_law7 law_len fun cdv A outer s H vs Q E hr h => law7_body T.has _ cdv A outer s H vs Q E hr h⟩
end
end Lt

open PySem PySem.W PyProof.Rows
set_option Elab.async false
set_option maxRecDepth 100000 in
set_option maxHeartbeats 0 in
theorem PySem.Challenge.cw_lockturns_k07_whole_weights_holds : PySem.Challenge.rw_lockturns_k07_whole_weights.Holds := by
  w_on; o_law; k_head; (case hw => w_witness2)
  k_fill
  refine L2.walk_ofK (l := PySem.Challenge.rw_lockturns_k07_whole_weights) (n := 63) (k := 11) (x := "script") (CX := L2.CX0) (sp := Lt.spLaw) rfl (by decide) rfl ⟨rfl, by decide, by decide⟩ (fun w h Y => PySem.W.kIn_of Y) ?F (fun K H a ns _ _ h3 => ⟨a, ns, rfl, h3, fun _ => rfl⟩) (fun _ _ _ _ z => z)
  case F =>
    intro w mg fa h KX G hmg
    have bi : Lt.Bi mg := by
      refine' { tuple := mg_none_of KX G ?z0, list := mg_none_of KX G ?z1, range := mg_none_of KX G ?z2, len := mg_none_of KX G ?z3, sorted := mg_none_of KX G ?z4, enumerate := mg_none_of KX G ?z5, isinstance := mg_none_of KX G ?z6, all := mg_none_of KX G ?z7, set := mg_none_of KX G ?z8, int := mg_none_of KX G ?z9, bool := mg_none_of KX G ?z10, str := mg_none_of KX G ?z11 }
      all_goals k_is
    have b_sum : mg "sum" = none := by
      refine' mg_none_of KX G ?z
      (case z => k_is)
    have b_zip : mg "zip" = none := by
      refine' mg_none_of KX G ?z
      (case z => k_is)
    have b_min : mg "min" = none := by
      refine' mg_none_of KX G ?z
      (case z => k_is)
    have b_dict : mg "dict" = none := by
      refine' mg_none_of KX G ?z
      (case z => k_is)
    have c_MOST_TURNS : Lt.Cn mg "MOST_TURNS" 240 := by
      refine' Lt.cn_mk KX G ?a ?b
      (case a => k_is); (case b => exact ⟨_, rfl⟩)
    have c_MOST_GIVEN : Lt.Cn mg "MOST_GIVEN" 4 := by
      refine' Lt.cn_mk KX G ?a ?b
      (case a => k_is); (case b => exact ⟨_, rfl⟩)
    have c_FEWEST_PLACES : Lt.Cn mg "FEWEST_PLACES" 2 := by
      refine' Lt.cn_mk KX G ?a ?b
      (case a => k_is); (case b => exact ⟨_, rfl⟩)
    have c_MOST_PLACES : Lt.Cn mg "MOST_PLACES" 9 := by
      refine' Lt.cn_mk KX G ?a ?b
      (case a => k_is); (case b => exact ⟨_, rfl⟩)
    have f_is_number : Lt.TopX KX mg "is_number" Lt.s_is_number ["value"] := by
      refine' Lt.top_mk KX G ?a ?l ?c ?k (fun _ _ _ _ _ _ us hl => match us, hl with | [_], _ => rfl)
      (case a => k_is); (case l => k_is); (case c => k_is); (case k => k_is)
    have f_are_numbers : Lt.TopX KX mg "are_numbers" Lt.s_are_numbers ["value"] := by
      refine' Lt.top_mk KX G ?a ?l ?c ?k (fun _ _ _ _ _ _ us hl => match us, hl with | [_], _ => rfl)
      (case a => k_is); (case l => k_is); (case c => k_is); (case k => k_is)
    have f_is_permutation : Lt.TopX KX mg "is_permutation" Lt.s_is_permutation ["value", "size"] := by
      refine' Lt.top_mk KX G ?a ?l ?c ?k (fun _ _ _ _ _ _ us hl => match us, hl with | [_, _], _ => rfl)
      (case a => k_is); (case l => k_is); (case c => k_is); (case k => k_is)
    have f_still_of : Lt.TopX KX mg "still_of" Lt.s_still_of ["size"] := by
      refine' Lt.top_mk KX G ?a ?l ?c ?k (fun _ _ _ _ _ _ us hl => match us, hl with | [_], _ => rfl)
      (case a => k_is); (case l => k_is); (case c => k_is); (case k => k_is)
    have f_product_of : Lt.TopX KX mg "product_of" Lt.s_product_of ["one", "other"] := by
      refine' Lt.top_mk KX G ?a ?l ?c ?k (fun _ _ _ _ _ _ us hl => match us, hl with | [_, _], _ => rfl)
      (case a => k_is); (case l => k_is); (case c => k_is); (case k => k_is)
    have f_back_of : Lt.TopX KX mg "back_of" Lt.s_back_of ["turn"] := by
      refine' Lt.top_mk KX G ?a ?l ?c ?k (fun _ _ _ _ _ _ us hl => match us, hl with | [_], _ => rfl)
      (case a => k_is); (case l => k_is); (case c => k_is); (case k => k_is)
    have f_power_of : Lt.TopX KX mg "power_of" Lt.s_power_of ["turn", "many"] := by
      refine' Lt.top_mk KX G ?a ?l ?c ?k (fun _ _ _ _ _ _ us hl => match us, hl with | [_, _], _ => rfl)
      (case a => k_is); (case l => k_is); (case c => k_is); (case k => k_is)
    have f_bracket_of : Lt.TopX KX mg "bracket_of" Lt.s_bracket_of ["one", "other"] := by
      refine' Lt.top_mk KX G ?a ?l ?c ?k (fun _ _ _ _ _ _ us hl => match us, hl with | [_, _], _ => rfl)
      (case a => k_is); (case l => k_is); (case c => k_is); (case k => k_is)
    have f_words_of : Lt.TopX KX mg "words_of" Lt.s_words_of ["makers", "size"] := by
      refine' Lt.top_mk KX G ?a ?l ?c ?k (fun _ _ _ _ _ _ us hl => match us, hl with | [_, _], _ => rfl)
      (case a => k_is); (case l => k_is); (case c => k_is); (case k => k_is)
    have f_group_of : Lt.TopX KX mg "group_of" Lt.s_group_of ["makers", "size"] := by
      refine' Lt.top_mk KX G ?a ?l ?c ?k (fun _ _ _ _ _ _ us hl => match us, hl with | [_, _], _ => rfl)
      (case a => k_is); (case l => k_is); (case c => k_is); (case k => k_is)
    have f_all_turns : Lt.TopX KX mg "all_turns" Lt.s_all_turns ["lock"] := by
      refine' Lt.top_mk KX G ?a ?l ?c ?k (fun _ _ _ _ _ _ us hl => match us, hl with | [_], _ => rfl)
      (case a => k_is); (case l => k_is); (case c => k_is); (case k => k_is)
    have f_check_lock : Lt.TopX KX mg "check_lock" Lt.s_check_lock ["lock"] := by
      refine' Lt.top_mk KX G ?a ?l ?c ?k (fun _ _ _ _ _ _ us hl => match us, hl with | [_], _ => rfl)
      (case a => k_is); (case l => k_is); (case c => k_is); (case k => k_is)
    have f_made_words : Lt.TopX KX mg "made_words" Lt.s_made_words ["lock"] := by
      refine' Lt.top_mk KX G ?a ?l ?c ?k (fun _ _ _ _ _ _ us hl => match us, hl with | [_], _ => rfl)
      (case a => k_is); (case l => k_is); (case c => k_is); (case k => k_is)
    have f_lower : Lt.TopX KX mg "lower" Lt.s_lower ["lock"] := by
      refine' Lt.top_mk KX G ?a ?l ?c ?k (fun _ _ _ _ _ _ us hl => match us, hl with | [_], _ => rfl)
      (case a => k_is); (case l => k_is); (case c => k_is); (case k => k_is)
    have f_prime : Lt.TopX KX mg "prime" Lt.s_prime ["lock"] := by
      refine' Lt.top_mk KX G ?a ?l ?c ?k (fun _ _ _ _ _ _ us hl => match us, hl with | [_], _ => rfl)
      (case a => k_is); (case l => k_is); (case c => k_is); (case k => k_is)
    have f_brackets_made : Lt.TopX KX mg "brackets_made" Lt.s_brackets_made ["term", "makers"] := by
      refine' Lt.top_mk KX G ?a ?l ?c ?k (fun _ _ _ _ _ _ us hl => match us, hl with | [_, _], _ => rfl)
      (case a => k_is); (case l => k_is); (case c => k_is); (case k => k_is)
    have f_weighed : Lt.TopX KX mg "weighed" Lt.s_weighed ["lock"] := by
      refine' Lt.top_mk KX G ?a ?l ?c ?k (fun _ _ _ _ _ _ us hl => match us, hl with | [_], _ => rfl)
      (case a => k_is); (case l => k_is); (case c => k_is); (case k => k_is)
    have f_told_number : Lt.TopX KX mg "told_number" Lt.s_told_number ["lock"] := by
      refine' Lt.top_mk KX G ?a ?l ?c ?k (fun _ _ _ _ _ _ us hl => match us, hl with | [_], _ => rfl)
      (case a => k_is); (case l => k_is); (case c => k_is); (case k => k_is)
    have f_chains : Lt.TopX KX mg "chains" Lt.s_chains ["lock"] := by
      refine' Lt.top_mk KX G ?a ?l ?c ?k (fun _ _ _ _ _ _ us hl => match us, hl with | [_], _ => rfl)
      (case a => k_is); (case l => k_is); (case c => k_is); (case k => k_is)
    have f_own_prime : Lt.TopX KX mg "own_prime" Lt.s_own_prime ["lock"] := by
      refine' Lt.top_mk KX G ?a ?l ?c ?k (fun _ _ _ _ _ _ us hl => match us, hl with | [_], _ => rfl)
      (case a => k_is); (case l => k_is); (case c => k_is); (case k => k_is)
    have f_exponent_of : Lt.TopX KX mg "exponent_of" Lt.s_exponent_of ["base", "many"] := by
      refine' Lt.top_mk KX G ?a ?l ?c ?k (fun _ _ _ _ _ _ us hl => match us, hl with | [_, _], _ => rfl)
      (case a => k_is); (case l => k_is); (case c => k_is); (case k => k_is)
    have f_weighed_term : Lt.TopX KX mg "weighed_term" Lt.s_weighed_term ["base", "terms", "weight"] := by
      refine' Lt.top_mk KX G ?a ?l ?c ?k (fun _ _ _ _ _ _ us hl => match us, hl with | [_, _, _], _ => rfl)
      (case a => k_is); (case l => k_is); (case c => k_is); (case k => k_is)
    have f_weighed_makers : Lt.TopX KX mg "weighed_makers" Lt.s_weighed_makers ["base", "terms", "weight"] := by
      refine' Lt.top_mk KX G ?a ?l ?c ?k (fun _ _ _ _ _ _ us hl => match us, hl with | [_, _, _], _ => rfl)
      (case a => k_is); (case l => k_is); (case c => k_is); (case k => k_is)
    have f_powers_in : Lt.TopX KX mg "powers_in" Lt.s_powers_in ["terms", "weight", "power"] := by
      refine' Lt.top_mk KX G ?a ?l ?c ?k (fun _ _ _ _ _ _ us hl => match us, hl with | [_, _, _], _ => rfl)
      (case a => k_is); (case l => k_is); (case c => k_is); (case k => k_is)
    have f_made_by : Lt.TopX KX mg "made_by" Lt.s_made_by ["makers"] := by
      refine' Lt.top_mk KX G ?a ?l ?c ?k (fun _ _ _ _ _ _ us hl => match us, hl with | [_], _ => rfl)
      (case a => k_is); (case l => k_is); (case c => k_is); (case k => k_is)
    have f_longest_first : Lt.TopX KX mg "longest_first" Lt.s_longest_first ["base", "terms", "level"] := by
      refine' Lt.top_mk KX G ?a ?l ?c ?k (fun _ _ _ _ _ _ us hl => match us, hl with | [_, _, _], _ => rfl)
      (case a => k_is); (case l => k_is); (case c => k_is); (case k => k_is)
    have f_law_taken : Lt.TopX KX mg "_law_taken" Lt.s_law_taken ["row", "many"] := by
      refine' Lt.top_mk KX G ?a ?l ?c ?k (fun _ _ _ _ _ _ us hl => match us, hl with | [_, _], _ => rfl)
      (case a => k_is); (case l => k_is); (case c => k_is); (case k => k_is)
    have f_law_pick : Lt.TopX KX mg "_law_pick" Lt.s_law_pick ["row", "things"] := by
      refine' Lt.top_mk KX G ?a ?l ?c ?k (fun _ _ _ _ _ _ us hl => match us, hl with | [_, _], _ => rfl)
      (case a => k_is); (case l => k_is); (case c => k_is); (case k => k_is)
    have f_law_alike : Lt.TopX KX mg "_law_alike" Lt.s_law_alike ["found", "due"] := by
      refine' Lt.top_mk KX G ?a ?l ?c ?k (fun _ _ _ _ _ _ us hl => match us, hl with | [_, _], _ => rfl)
      (case a => k_is); (case l => k_is); (case c => k_is); (case k => k_is)
    have f_law_permutation : Lt.TopX KX mg "_law_permutation" Lt.s_law_permutation ["row", "places"] := by
      refine' Lt.top_mk KX G ?a ?l ?c ?k (fun _ _ _ _ _ _ us hl => match us, hl with | [_, _], _ => rfl)
      (case a => k_is); (case l => k_is); (case c => k_is); (case k => k_is)
    have f_law_behind : Lt.TopX KX mg "_law_behind" Lt.s_law_behind ["one", "other"] := by
      refine' Lt.top_mk KX G ?a ?l ?c ?k (fun _ _ _ _ _ _ us hl => match us, hl with | [_, _], _ => rfl)
      (case a => k_is); (case l => k_is); (case c => k_is); (case k => k_is)
    have f_law_back : Lt.TopX KX mg "_law_back" Lt.s_law_back ["turn"] := by
      refine' Lt.top_mk KX G ?a ?l ?c ?k (fun _ _ _ _ _ _ us hl => match us, hl with | [_], _ => rfl)
      (case a => k_is); (case l => k_is); (case c => k_is); (case k => k_is)
    have f_law_swap : Lt.TopX KX mg "_law_swap" Lt.s_law_swap ["one", "other"] := by
      refine' Lt.top_mk KX G ?a ?l ?c ?k (fun _ _ _ _ _ _ us hl => match us, hl with | [_, _], _ => rfl)
      (case a => k_is); (case l => k_is); (case c => k_is); (case k => k_is)
    have f_law_span : Lt.TopX KX mg "_law_span" Lt.s_law_span ["places", "given"] := by
      refine' Lt.top_mk KX G ?a ?l ?c ?k (fun _ _ _ _ _ _ us hl => match us, hl with | [_, _], _ => rfl)
      (case a => k_is); (case l => k_is); (case c => k_is); (case k => k_is)
    have f_law_known : Lt.TopX KX mg "_law_known" Lt.s_law_known ["row", "kinds"] := by
      refine' Lt.top_mk KX G ?a ?l ?c ?k (fun _ _ _ _ _ _ us hl => match us, hl with | [_, _], _ => rfl)
      (case a => k_is); (case l => k_is); (case c => k_is); (case k => k_is)
    have f_law_lock : Lt.TopX KX mg "_law_lock" Lt.s_law_lock ["row", "kinds"] := by
      refine' Lt.top_mk KX G ?a ?l ?c ?k (fun _ _ _ _ _ _ us hl => match us, hl with | [_, _], _ => rfl)
      (case a => k_is); (case l => k_is); (case c => k_is); (case k => k_is)
    have f_law_terms : Lt.TopX KX mg "_law_terms" Lt.s_law_terms ["lock", "by_all"] := by
      refine' Lt.top_mk KX G ?a ?l ?c ?k (fun _ _ _ _ _ _ us hl => match us, hl with | [_, _], _ => rfl)
      (case a => k_is); (case l => k_is); (case c => k_is); (case k => k_is)
    have f_law_reduced : Lt.TopX KX mg "_law_reduced" Lt.s_law_reduced ["prime_v", "rows"] := by
      refine' Lt.top_mk KX G ?a ?l ?c ?k (fun _ _ _ _ _ _ us hl => match us, hl with | [_, _], _ => rfl)
      (case a => k_is); (case l => k_is); (case c => k_is); (case k => k_is)
    have f_law_dies : Lt.TopX KX mg "_law_dies" Lt.s_law_dies ["lock", "whole", "prime_v"] := by
      refine' Lt.top_mk KX G ?a ?l ?c ?k (fun _ _ _ _ _ _ us hl => match us, hl with | [_, _, _], _ => rfl)
      (case a => k_is); (case l => k_is); (case c => k_is); (case k => k_is)
    have f_law_power : Lt.TopX KX mg "_law_power" Lt.s_law_power ["turn", "many"] := by
      refine' Lt.top_mk KX G ?a ?l ?c ?k (fun _ _ _ _ _ _ us hl => match us, hl with | [_, _], _ => rfl)
      (case a => k_is); (case l => k_is); (case c => k_is); (case k => k_is)
    have f_law_weighed : Lt.TopX KX mg "_law_weighed" Lt.s_law_weighed ["lock", "prime_v"] := by
      refine' Lt.top_mk KX G ?a ?l ?c ?k (fun _ _ _ _ _ _ us hl => match us, hl with | [_, _], _ => rfl)
      (case a => k_is); (case l => k_is); (case c => k_is); (case k => k_is)
    have f_law_bases : Lt.TopX KX mg "_law_bases" Lt.s_law_bases ["told", "prime_v"] := by
      refine' Lt.top_mk KX G ?a ?l ?c ?k (fun _ _ _ _ _ _ us hl => match us, hl with | [_, _], _ => rfl)
      (case a => k_is); (case l => k_is); (case c => k_is); (case k => k_is)
    have ee_BadLock : Lt.ErrE KX mg "BadLock" "place" Lt.s_BadLock := by
      refine' Lt.err_mk KX G ?aC ?xL ?rv ?sa ?ga ?gg ?no ?kC ?eC ?tC ?hC ?iC ?sC ?i1 ?i2 ?i3 ?i4 ?i5 (fun _ _ _ _ _ _ us hl => match us, hl with | [_, _], _ => rfl)
      (case aC => k_is); (case xL => k_is); (case rv => decide +kernel); (case sa => k_is); (case ga => k_is); (case gg => k_is); (case no => k_is); (case kC => k_is); (case eC => k_is); (case tC => k_is); (case hC => k_is); (case iC => k_is); (case sC => first | rfl | k_is)
      (case i1 => k_is); (case i2 => k_is); (case i3 => k_is); (case i4 => k_is); (case i5 => k_is)
    obtain ⟨C_BadLock, e_BadLock⟩ := ee_BadLock
    have ee_TooMany : Lt.ErrE KX mg "TooMany" "most" Lt.s_TooMany := by
      refine' Lt.err_mk KX G ?aC ?xL ?rv ?sa ?ga ?gg ?no ?kC ?eC ?tC ?hC ?iC ?sC ?i1 ?i2 ?i3 ?i4 ?i5 (fun _ _ _ _ _ _ us hl => match us, hl with | [_, _], _ => rfl)
      (case aC => k_is); (case xL => k_is); (case rv => decide +kernel); (case sa => k_is); (case ga => k_is); (case gg => k_is); (case no => k_is); (case kC => k_is); (case eC => k_is); (case tC => k_is); (case hC => k_is); (case iC => k_is); (case sC => first | rfl | k_is)
      (case i1 => k_is); (case i2 => k_is); (case i3 => k_is); (case i4 => k_is); (case i5 => k_is)
    obtain ⟨C_TooMany, e_TooMany⟩ := ee_TooMany
    have ee_NotPrime : Lt.NoE KX mg "NotPrime" := by
      refine' Lt.no_mk KX G ?aC ?qx ?kC ?eC ?tC ?iC ?sC
      (case aC => k_is); (case qx => first | rfl | kernel_rfl); (case kC => k_is); (case eC => k_is); (case tC => k_is); (case iC => k_is); (case sC => first | rfl | k_is)
    obtain ⟨C_NotPrime, e_NotPrime⟩ := ee_NotPrime
    refine' Lt.law_fin KX hmg G ?a ?l ?c ?k ⟨bi, b_sum, b_zip, b_min, b_dict, c_MOST_TURNS, c_MOST_GIVEN, c_FEWEST_PLACES, c_MOST_PLACES, e_BadLock, e_TooMany, e_NotPrime, f_is_number, f_are_numbers, f_is_permutation, f_still_of, f_product_of, f_back_of, f_power_of, f_bracket_of, f_words_of, f_group_of, f_all_turns, f_check_lock, f_made_words, f_lower, f_prime, f_brackets_made, f_weighed, f_told_number, f_chains, f_own_prime, f_exponent_of, f_weighed_term, f_weighed_makers, f_powers_in, f_made_by, f_longest_first, f_law_taken, f_law_pick, f_law_alike, f_law_permutation, f_law_behind, f_law_back, f_law_swap, f_law_span, f_law_known, f_law_lock, f_law_terms, f_law_reduced, f_law_dies, f_law_power, f_law_weighed, f_law_bases⟩
    (case a => k_is); (case l => k_is); (case c => k_is); (case k => k_is)
#print axioms PySem.Challenge.cw_lockturns_k07_whole_weights_holds

